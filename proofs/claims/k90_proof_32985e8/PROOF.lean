import PyProof.Rows.All
import Wide.All
import OpenK.AllK
import Wide.FinOn
import Lean
import PyProof.EqAt
import PyProof.EqKinds
import PyProof.TupleCall
import PySem.SetTable
import PyProof.SetKind
import PyProof.TupleKey
import PyProof.DictKinds
import PyProof.Rows.SetFrom
import PyProof.ZipIter
import KE.KIntText
import PyProof.EnumIter
import PyProof.Rows.SortStr
import PyProof.Rows.SortWalk
import PyProof.Rows.MinMaxN
import PyProof.ConsumeWalk
import PyProof.CollectWalk
import PyProof.WalksMore
import PyProof.CollectStr
import PyProof.Rows.SortShellK
import PyProof.Rows.SortRunsK
import PyProof.SeqI3
import KE.KSortKey
import PyProof.Rows.CallKwBuiltin
import PyProof.SumAny
import KE.KLam
import PyProof.StrLawsTight
import PyProof.Rows.StrDigits
import PySem.Challenge.RW_notejar_k90_again_and_shared
open Option renaming some->Z,none->Y,all_some->Sa,isSome_iff_exists->Tn,bind_eq_some_iff->Tx,map_eq_some_iff->TJ,map_some->TW,getD_some->YC,getD_none->YD
open PySem.Str renaming ofString->b_,length->VU
open PySem.W renaming Frag->d_,nsIn->Rq,keepIn->Rr,findIn->RF,kia_one->RP,emptyDict->RU,hideAll_none->Sc,fnOf->Sv,instObj->SF,mg_of->SQ,methodCall_KW->S3,kitOne->Tt,of_hideAll->TD,cellsFrom_some->TF,callWith_K->TH,kla_obj->TQ,plainGet->Uo,hasDictIn->UR,codeIn->US,plainGet_of->VC,hideAll_get->VD,lookIn->VS,plainOver->V_,methodObj->Wa,isFn->WJ,absHeap->WK,takerIn->W1,OpenLaw->W3,kla_fn->Xn,kIn_of->Xo,callWith_K0->XM,excIn->XZ,codeRec_of->X5,kitx_list->Yh,kitx_dict->Yi,handedIn->Yt,makesIn->YR,hideAll->YS,through->YX,openEnds->Y_,WalkO->Ze,kHook->Zk
open PySem renaming wpAny_bind->e_,Shared->g_,Value->D,starEach->k_,Addr->B,wpAny_pure->m_,Program->n_,wpAny->uk,Expr->u_,World->w_,Around->xy,model->x_,mainGlobals->z_,Heap->J_,backTo->O_,behindInMarks->QR,foldedSetIterable->QT,wpAny_mono->QX,assignEach->QY,swapsWith->Q8,wpAny_newObj_type->Ra,keywordEach->Rc,Stmt->Re,wpAny_callSpecial?_slot->Rf,cellsFrom->Ri,FuncData->Rj,compareOp->Rk,wpAny_setState_of->Rl,wpAny_call_entry->Ro,wpAny_setField_rec->Ru,wpAny_holding->Rv,strKind->Rw,attributeBase->Rx,wpAny_Call_Name_kw->RD,codeAny_builtin->RE,wpAny_field->RL,backToKw->RM,Scope->RS,codeAny_mono->RT,wpAny_seqItems->RX,rawInt->RY,bootBuiltins->R_,Builtin->Sh,wpAny_truthy_bool->SA,wpAny_pyIter_list->SD,Keyword->SI,closureFor->SV,assign->S4,wpAny_of_eq->S_,codeAny->Ta,binaryOp->Tc,wpAny_attempt->Ti,wpAny_setEntries_of->To,mem_of_lookup->Tp,wpAny_getItem_str_slice->Tq,wpAny_askSetting->Tr,NameKind->Tu,wpAny_rule->TC,pyNext->TX,Model->T_,wpAny_newFunctionEnv_cells->Ud,wpAny_call->Ue,firstArgMember->Uf,call_meets->Ug,wpAny_typeOf->Ul,holding->Um,wpAny_comprehension_free->Uu,wpAny_passesOwn->Uw,wpAny_execs_nil->Ux,wpAny_pyIter_tuple->UC,sliceBounds->UG,sizeLine_eq->UH,PassesOwn->UI,wpAny_storeSet_of->UP,wpAny_runValue->UQ,IsPair->UU,wpAny_setFlight_noneW->U8,weight_type_call_type->U9,wpAny_isInstance->Vc,typeIs_str->Vd,plainId_quiet->Vi,codeAny_call_builtin->Vo,post_val_or_str->Vw,letOwnedTupleGo->Vx,codeAny_of_tree->Vy,Params->Vz,pickOrder->VN,wpAny_fieldsOf->VO,newFunctionEnv->VP,bindArgs->VR,wpAny_standAt->We,wpAny_newList->Wf,setSearchFrom->Wg,wpAny_forIn_list->Wl,wpAny_execs_cons->Wm,relayAll->Wn,putSet_of->Wo,noFill_tuple_add->Wp,codeAmong->Wq,check_set_init_1->Wr,setNext->WF,setAddHashed->WG,notedBy->WH,getItem->WI,Result->WN,IsPart->WO,BindsTo->WR,importedModules->W0,wpAny_eqIsQuiet_tuple->W9,exec_Assign_Name_used->W_,codeAny_call_function->Xa,builtinLookup_eq_fast->Xb,wpAny_updateSeq_pair->Xf,wpAny_Expr_any->Xg,unsupported->Xh,setAddHashedIn->Xi,lookup_relabel_local->Xj,isSubtype_type->Xk,isSubtype_stop->Xl,isCodeTable->Xm,IsZip->Xp,GenState->Xq,treeTable->XB,standAt->XD,getMethod->XE,collect->XF,callerA->XG,wpAny_onRaise->XT,wpAny_handled->XU,swapsWithSole->XV,swappedStores->XX,seq_tuple_add->XY,setsByText->X2,pyIter->X3,newList->Yb,list_append->Yc,concat_meets->Yd,compEnvC->Ye,Within->Yg,noteFrame->Ys,TriplesOk->Yv,Thread->Yw,Fin->YB,wpAny_throw->YH,wpAny_letGo->YI,subscripted->YJ,strIterType->YK,seqIndex_of->YL,storeSet->YZ,slotArgs->Y0,newTuple->Y1,intText?->Y2,field->Y3,call->Y4,boot_len->Y5,bindL->Y6,bindC->Y7,again->Y8,ZipApart->Y9
open Bool renaming true->U,false->L,and_eq_true->p_,false_ne_true->B_,false_eq_true->M_,eq_iff_iff->RH,and_eq_true_iff->Sg,not_eq_true'->Sn,not_true->Vn,not_false->V6,not_not->WZ,or_eq_true->YW
open PySem.Heap renaming get?_push_of_some->j_,get?_push_size->pi,lt_size->v_,size_push->N_,get?_update_self->RV,get?_update_ne->So,get?_update_other->SJ,SameBut->SK,get?_none_of_le->Vq,get?_push_ne->Yk,size_update->YA,ExtBut->YN
open List renaming mem_cons_of_mem->on,mem_append_right->o_,mem_cons_self->q_,range->rl,mem_cons->t_,getElem?_eq_getElem->C_,getElem?_eq_some_iff->D_,size_toArray->E_,mem_append_left->G_,getElem?_set_ne->I_,not_mem_nil->K_,replicate->L_,getElem?_set_self->QH,mem_singleton->QK,length_map->QL,mem_append->QS,map_cons->QU,mem_map->QW,mem_of_getElem?->Q0,length_cons->Q1,all_eq_true->Q2,length_set->Q5,lookup_cons->Q9,getElem?_map->Rg,pairwise_cons->Rh,mem_filter->Rp,mem_range->Rt,length_append->Ry,append_nil->RB,length_filter_le->RJ,getElem?_eq_none->RW,nodup_cons->Sb,length_eq_zero_iff->Sf,getElem?_append_right->Sm,getElem?_append_left->Sr,all_cons->SU,set_cons_zero->SY,set_cons_succ->SZ,lookup_append->S0,map_append->S8,reverse_cons->Tf,map_map->Tg,any_eq_true->Tz,lookup->TB,zip_cons_cons->TN,length_replicate->TZ,length_range->Ua,perm_append_singleton->Uj,getD_eq_getElem?_getD->Uk,filterMap_cons->Ut,of_mem_zip->UB,getElem?_replicate->UL,getElem?_cons_succ->UM,getD->UN,take_of_length_le->U0,append_assoc->U1,mem_iff_getElem?->U_,length_drop->Ve,getElem_mem->Vf,drop_length->Vg,countP_cons->Vh,any_cons->Vm,length->Vu,toList_toArray->VE,getElem?_range->VF,mem_filterMap->V1,length_eraseIdx_of_lt->V2,getElem?_drop->V3,forIn_nil->V4,filterMap_map->V5,pairwise_iff_getElem->V8,getElem?_eq_none_iff->V9,getElem?_take_of_lt->Wj,length_take->WB,filter_cons_of_pos->WC,filter_cons_of_neg->WD,ext_getElem->WE,range_succ_eq_map->WX,pairwise_lt_range->WY,range_succ->W4,forIn_cons->W5,foldl_cons->W6,length_singleton->Xe,mem_iff_getElem->Xw,drop_zero->Xx,reverse_append->XR,length_reverse->XS,pairwise_map->Yo,ext_getElem?->Yp,any_eq_false->Yq,zipIdx_cons->YF,getElem_inj->YG,zipIdx_nil->YT,nil_append->YU
open PySem.Value renaming type->r_,ref->y_,none->H_,bool->QQ,str->RK,builtin->Sw,isStrOf->Vj,int->XH,isStrOf_shape->XN,float->YM
open Nat renaming le_refl->s_,ne_of_lt->F_,lt_of_lt_of_le->QJ,eq_of_beq_eq_true->QM,le_of_ble_eq_true->QP,le_trans->QV,zero_le->QZ,lt_succ_of_lt->Rm,lt_succ_self->RI,lt_irrefl->RQ,ne_of_beq_eq_false->Sl,le_add_right->Ss,le_of_lt->SN,beq->SO,ne_of_gt->Td,le_of_lt_succ->Te,ble->TM,zero_add->Uq,not_lt_zero->UA,mod_lt->UE,le_succ->UK,succ_pos->UY,le_of_eq->UZ,add_sub_cancel_left->WA,lt_trans->WW,add_left_cancel->XQ,min_le_right->YE
open Decidable renaming decide->A_
open Eq renaming trans->P_
open PySem.PyData renaming canLay0->QI,eqv->Rn,canLayAll0->Sk,eqvAll->SS,depthAll->Uy,depth->UT
open False renaming elim->QN
open PySem.SetTable renaming insertAt->QO,grown->Sj,insertAt_perm->WM,turns->X0,leap->X1,tooFull->Yx,advance->Yy,runEnd->Za,layClean->Zb,fits->Zf,fill->Zg
open PySem.Obj renaming mapSeq->Q3,mk->RZ,putSet->Tk,data_mapFields->X8
open Option.some renaming inj->Q4,injEq->UX
open PySem.Txt renaming startswith->Q6,stripChars->Sy,partition->SR,split->S6,join->Uh,endswith->VI,slice_le->WL,slice->Yu,rfind->Zl
open PySem.F renaming called_set->Q7,plainAttrs_list->SE,slot_tuple_iterator_next->SW,slot_list_append->TY,excBase_ValueError->Ui,args_tuple_add_2->Uv,entry_tuple_add->UJ,slot_str_split->UO,slot_tuple_add->UV,slot_zip_next->VA,args_tuple_iterator_next_1->VB,entry_tuple_iterator_next->VJ,args_str_split_2->VV,entry_type_call->Wb,entry_str_split->Wc,type_list_append->Wh,typeCall_set_1->Wu,slot_str_partition->Wv,slot_list_index->Ww,slot_list_count->Wx,entry_set_init->Wy,slot_list_reverse->WP,sub_list_frozenset->Xr,args_list_append_2->Xs,entry_list_append->XO
open PySem.Builtin.Str renaming occurrences->Q_,strKind->SG,glued->Ym
open Array renaming length_toList->Rb,getElem?_eq_some_iff->RO,mem_toList_iff->Th,getD_eq_getD_getElem?->Uc,forIn_toList->UF,toList_push->U5,toList->U6,size_map->U7,getElem?_toList->Va,append_assoc->V7,size_append->Wd,replicate->W8,getElem?_map->X9
open PyProof.Rows renaming callWith_type1->Rz,slot_tuple_getitem->RA,seqObj->RG,envOfC->Sq,SortSt->SX,callWith_builtin1->Tv,SortKind->TV,get?_update_seq->Uz,listUpdate_at->Vl,arrOf->Vs,Keyed->Vt,AllBare->VM,pendingOf->Wz,subscriptTail_builtinR->WT,listItems_at->WU,IntsAre->WV,boot_max->Xd,failedOf->Yn,strOf->YO,StrsAre->YY,IsTup->Zd
open PySem.Builtin.SmallTypes renaming nextOf->RC,ownedTupleIsFree->R9,ownedTupleHandOut->Us
open PySem.ClassData renaming mk->RN
open PySem.Around renaming under_plainId->Sd,under_plain->V0,under->WS,frames_deeper->Xv
open PyProof.Rows.F renaming plain_set_update_loop->Se,entry_set_update_loop->Tw
open PySem.NameKind renaming free->Si,cell->Sx
open Int renaming emod_lt_of_pos->Su,emod_nonneg->S9,toNat_natCast->Ub
open PySem.Data renaming fields->Sz,dict->S7,cls->Vr
open PySem.Heap.SameBut renaming update->SH
open PySem.Builtin.List renaming listExtendWith->SL,listSameRef->Wi
open Ne renaming symm->SM
open PySem.Builtin.Slice renaming slicePlaces->S5,sliceAdjust->Ur,sliceApplied->VZ
open PySem.Shared renaming TypeIs->Tj
open PySem.Builtin.Tuple renaming tupleExact->Tl,tupleItemsOf->VY
open PySem.Builtin.Frozenset renaming updateFrom->TU,newClass->Zc,sizeOf->Zh,slot0->Zm
open PySem.Code renaming quiet_builtin->UD,isFrame->Yl
open PySem.Calls renaming spliced_nil->UW,spliced_cons->VW,Name_function_global->VX,callWith_builtin->WQ,evalArgs_plain->Xu
open List.Pairwise renaming nil->U4
open True renaming intro->Vb
open PySem.SetTable.layClean renaming free->Vk
open PySem.W.Fast renaming tw11892475500146522536->VG,tw10156331382660048174->VH,tw6613529449190102663->VT
open PySem.SetTable.probe renaming go->Ws
open ForInStep renaming yield->W7
open PySem.StrLaws renaming glued_eq_join->Xc
open List.Perm renaming swap->Xy
open Sum renaming inr->Xz,inl->XA
open LawfulBEq renaming eq_of_beq->XJ
open PySem.Walks renaming list->X4
open PySem.SeqAt.EqAt renaming str_int->X6,int_str->X7
open PySem.pickOrder renaming go->X_
open PySem.SetTable.below renaming go->Yj
open Std.Legacy renaming Range->Yr
open PySem.IsL renaming update->Yz
open StateT renaming run_pure->YQ
open List.cons renaming injEq->YV
open List.Mem renaming tail->Zi
open Function renaming comp->Zj
open PyProof.Rows.IsTup renaming new->Zn
set_option compiler.extract_closed false
set_option bootstrap.genMatcherCode false
set_option maxHeartbeats 4000000
set_option Elab.async false
open PySem.Challenge renaming pw_notejar_k90_again_and_shared->p9_,rw_notejar_k90_again_and_shared->r9_
local macro_rules|`(tactic|lk)=>`(tactic|kernel_rfl)
local macro_rules|`(tactic|room)=>`(tactic|with_unfolding_all assumption)
namespace TR
open PySem PySem.W
def kr(d:String->Option Sh)(p:n_)(w:w_)(a:Nat)(b:Option D):Nat->SharedT->Yw->Option SharedT|0,_,_=>Y|n+1,s,t=>match YX t with|true=>Z s|false=>match stepOk a b t with|false=>Y|true=>match stepT (denote d) p w s t with|some (f,e)=>kr d p w a b n f e|none=>Y
def lx:List Obj->BT->Nat->Option (BT×Nat)|[],t,n=>Z (t,n)|o::os,t,n=>match((t.ins n o).get n).isSome with|true=>lx os (t.ins n o) (n+1)|false=>Y
def Aj(d:String->Option Sh)(p:n_)(w:w_)(N:Nat):Option g_:=(fencedOpening d p w N).bind λa=>match a.heap.isNs z_&&a.gens.size==0 with
 |true=>(lx a.heap.objs.toList .nil 0).bind λx=>(kr d p w a.heap.objs.size (a.heap.nsMap z_ "__annotations__") N ⟨x.1,x.2,a.heap.life,a.gens,a.drawn,a.toks,a.os⟩ (topStub p)).bind λb=>match staticsOk (W0 p.main.body) a.heap b.abs.heap&&namesBound p b.abs.heap&&gensDone b.abs&&laidKept a.heap b.abs.heap with|true=>Z b.abs|false=>Y
 |false=>Y
theorem kX{e:String->Option Sh}{p:n_}{w:w_}{a:Nat}{b:Option D}:∀(n:Nat)(s:SharedT)(t:Yw)(d:SharedT),kr e p w a b n s t=Z d->topRun e p w a b n s.abs t=Z d.abs|0,_,_,_,h=>by cases h|n+1,s,t,d,h=>by unfold kr at h;unfold topRun;cases g:YX t with|true=>rw[g]at h;cases h;rfl|false=>rw[g]at h;cases i:stepOk a b t with|false=>rw[i]at h;cases h|true=>rw[i]at h;cases f:stepT (denote e) p w s t with|none=>rw[f]at h;cases h|some x=>obtain⟨k,j⟩:=x;rw[f]at h;dsimp only at h⊢;rw[stepT_spec f];exact kX n k j d h
theorem lA{a:Life}:∀(os:List Obj)(t:BT)(n:Nat)(b:BT)(d:Nat),lx os t n=Z (b,d)->(WK b d a).objs=(WK t n a).objs++os.toArray|[],t,n,b,d,h=>by cases h;simp|o::os,t,n,b,d,h=>by unfold lx at h;cases e:((t.ins n o).get n).isSome with|false=>rw[e]at h;cases h|true=>rw[e]at h;rw[lA os _ _ _ _ h,absHeap_ins e];show(WK t n a).objs.push o++os.toArray=_;simp
variable{p:n_}{m:w_}{d:Nat}{f:g_}
theorem u0{q:String->Option Sh}(h:Aj q p m d=Z f):Y_ q p m d=Z f:=by unfold Aj at h;unfold Y_;obtain⟨b,A,i⟩:=Tx.mp h;rw[A];show topFrom q p m d b=Z f;unfold topFrom;cases t:(b.heap.isNs z_&&b.gens.size==0)with|false=>rw[t]at i;cases i|true=>
 rw[t]at i;dsimp only at i⊢;obtain⟨⟨n,o⟩,z,y⟩:=Tx.mp i;obtain⟨P,w,v⟩:=Tx.mp y;have e:=lA (a:=b.heap.life) _ _ _ _ _ z;have I:WK n o b.heap.life=b.heap:=by
  have H:(WK n o b.heap.life).objs=b.heap.objs:=by rw[e];show(WK BT.nil 0 b.heap.life).objs++b.heap.objs.toList.toArray=_;simp[WK,BT.list]
  obtain⟨⟨u,j⟩,g,a,k,os⟩:=b;show Heap.mk _ _=Heap.mk _ _;exact congrArg (Heap.mk · j) H
 have r:=kX _ _ _ _ w;have E:(SharedT.abs ⟨n,o,b.heap.life,b.gens,b.drawn,b.toks,b.os⟩)=b:=by show Shared.mk (WK n o b.heap.life) _ _ _ _=b;rw[I]
 rw[E]at r;rw[r];exact v
variable{υ:Type}
theorem wc{b:String->Option Sh}{f:g_->υ}{a:υ}(h:(Aj b p m d).map f=Z a):(Y_ b p m d).map f=Z a:=by obtain⟨s,g,e⟩:=TJ.mp h;rw[u0 g];exact congrArg Z e
noncomputable def MH(d:String->Option Sh)(p:n_)(w:w_)(a:Nat)(b:Option D)(n:Nat):SharedT->Yw->Option SharedT:=@Nat.rec (λ_=>SharedT->Yw->Option SharedT) (λ_ _=>Y) (λ_ e s t=>@Bool.rec (λ_=>Option SharedT) (@Bool.rec (λ_=>Option SharedT) Y (@Option.rec (SharedT×Yw) (λ_=>Option SharedT) Y (λx=>e x.1 x.2) (VH (VG d) p w s t)) (VT a b t)) (Z s) (YX t)) n
theorem we{d:String->Option Sh}{p:n_}{w:w_}{a:Nat}{b:Option D}:∀(n:Nat)(s:SharedT)(t:Yw),MH d p w a b n s t=kr d p w a b n s t|0,_,_=>rfl|n+1,s,t=>by show@Bool.rec (λ_=>Option SharedT) (@Bool.rec (λ_=>Option SharedT) Y (@Option.rec (SharedT×Yw) (λ_=>Option SharedT) Y (λx=>MH d p w a b n x.1 x.2) (VH (VG d) p w s t)) (VT a b t)) (Z s) (YX t)=_;unfold kr;rw[<-Fast.te10156331382660048174,<-Fast.te11892475500146522536,<-Fast.te6613529449190102663];cases YX t with|true=>rfl|false=>cases stepOk a b t with|false=>rfl|true=>cases stepT (denote d) p w s t with|none=>rfl|some x=>exact we n x.1 x.2
noncomputable def openQ(d:String->Option Sh)(p:n_)(w:w_)(N:Nat):Option g_:=(fencedOpening d p w N).bind λa=>match a.heap.isNs z_&&a.gens.size==0 with
 |true=>(lx a.heap.objs.toList .nil 0).bind λx=>(MH d p w a.heap.objs.size (a.heap.nsMap z_ "__annotations__") N ⟨x.1,x.2,a.heap.life,a.gens,a.drawn,a.toks,a.os⟩ (topStub p)).bind λb=>match staticsOk (W0 p.main.body) a.heap b.abs.heap&&namesBound p b.abs.heap&&gensDone b.abs&&laidKept a.heap b.abs.heap with|true=>Z b.abs|false=>Y
 |false=>Y
theorem openQ_map{b:String->Option Sh}{f:g_->υ}{a:υ}(h:(openQ b p m d).map f=Z a):(Y_ b p m d).map f=Z a:=by refine wc ?_;unfold openQ at h;unfold Aj;simp only[we]at h;exact h
end TR
variable{p:n_}{m:w_}{d:Nat}{f:g_}{υ:Type}
namespace G
open PySem PySem.W PyProof.Rows
noncomputable def hT(i:Nat):Re:=p9_.main.body.getD i (.Pass ⟨0,0,0,0⟩)
noncomputable def hA(s:Re):Arguments:=match s with|.FunctionDef _ a _ _ _ _ _ _ _ _=>a|_=>{posonlyargs:=[],args:=[],vararg:=Y,kwonlyargs:=[],kw_defaults:=[],kwarg:=Y,defaults:=[]}
noncomputable def hB(s:Re):List Re:=match s with|.FunctionDef _ _ b _ _ _ _ _ _ _=>b|_=>[]
noncomputable def hS(s:Re):RS:=match s with|.FunctionDef _ _ _ _ _ _ a _ _ _=>a|_=>{kind:=.function,names:=[],isGenerator:=L,isCoroutine:=L}
noncomputable abbrev kS(s:String)(t:Nat):D:=.str (b_ s) t
noncomputable abbrev kR(a:Nat):D:=.ref a
noncomputable abbrev kI(i:Int)(t:Nat):D:=.int i t
noncomputable abbrev kE(P:Vz)(s:String)(t:Nat)(v:D):DictEntry:=⟨PySem.PyData.keyHash P (b_ s),.str (b_ s) t,v⟩
noncomputable def kF(x:String)(i:Nat)(m:String)(t c:Nat):Obj:=RZ (r_ "function") Y (Data.func (fnOf (b_ x) (b_ x) (hA (hT i)) (hB (hT i)) (hS (hT i)) .none H_ H_ (kS m t) Y (kR c) H_)) #[]
noncomputable def ŕ(x:String)(i c:Nat):=kF x i "law_notejar_k90_again_and_shared" 1075 c
noncomputable def hC(s:Re)(j:Nat):Re:=match s with|.ClassDef _ _ _ b _ _ _ _ _ _ _=>b.getD j (.Pass ⟨0,0,0,0⟩)|_=>.Pass ⟨0,0,0,0⟩
noncomputable def kM(x q:String)(i j:Nat)(m:String)(t c:Nat):Obj:=RZ (r_ "function") Y (Data.func (fnOf (b_ x) (b_ q) (hA (hC (hT i) j)) (hB (hC (hT i) j)) (hS (hC (hT i) j)) .none H_ H_ (kS m t) Y (kR c) H_)) #[]
noncomputable def kC(x:String)(a b c:Nat)(d e f:Int)(g:Nat)(h:Int)(i j:Nat)(k l:Int)(m:Nat):Obj:=RZ (r_ "code") Y (Sz #[kS x a,kS x b,kS "/claim/cut.py" c,kI d 0,kI e 0,kI 0 0,kI 0 0,kI f 0,kR g,QQ U,kI h 0,kR i,H_,H_,H_,kR j,kI k 0,kI l 0,kS "/claim/cut.py" m]) #[]
noncomputable def kD(x:String)(a b c:Nat)(d e f:Int)(g:Nat)(h:Int)(i u v j:Nat)(k l:Int)(m:Nat):Obj:=RZ (r_ "code") Y (Sz #[kS x a,kS x b,kS "/claim/cut.py" c,kI d 0,kI e 0,kI 0 0,kI 0 0,kI f 0,kR g,QQ U,kI h 0,kR i,H_,kR u,kR v,kR j,kI k 0,kI l 0,kS "/claim/cut.py" m]) #[]
noncomputable def X'(P:Vz):Frag:=[(2,RZ H_ Y (S7 #[]) #[]),(3,RZ (r_ "dict") Y (S7 #[kE P "__name__" 165 (kS "law_notejar_k90_again_and_shared" 1075),kE P "__doc__" 166 H_,kE P "__package__" 167 H_,kE P "__loader__" 168 (Sw "__main__.__loader__#opaque"),kE P "__spec__" 169 H_,kE P "__annotations__" 170 (kR 6),kE P "__builtins__" 171 (kR 4),kE P "__file__" 173 (kS "/claim/cut.py" 172),kE P "__cached__" 174 H_,kE P "JarError" 206 (kR 24),kE P "NoName" 222 (kR 37),kE P "NoTable" 238 (kR 49),kE P "NoPath" 254 (kR 61),kE P "NoAsk" 270 (kR 73),kE P "NoNote" 286 (kR 85),kE P "NoJar" 302 (kR 97),kE P "NoNumber" 318 (kR 109),kE P "is_text_of" 326 (kR 116),kE P "is_whole_number" 335 (kR 123),kE P "is_tuple_of" 343 (kR 130),kE P "FIGURES" 347 (kS "0123456789" 346),kE P "LABEL_SIGNS" 349 (kS "abcdefghijklmnopqrstuvwxyz0123456789-" 348),kE P "LONGEST_LABEL" 351 (kI 8 350),kE P "MOST_LABELS" 353 (kI 5 352),kE P "MOST_RULES" 355 (kI 8 354),kE P "is_label" 362 (kR 137),kE P "is_name" 368 (kR 142),kE P "is_rule" 375 (kR 149),kE P "is_table" 381 (kR 154),kE P "need_name" 388 (kR 161),kE P "need_table" 395 (kR 168),kE P "labels" 402 (kR 175),kE P "lies_within" 410 (kR 182),kE P "ends_longest_first" 416 (kR 187),kE P "behind_first_dot" 423 (kR 194),kE P "is_told_open" 431 (kR 201),kE P "find_open_end" 441 (kR 208),kE P "find_own_end" 452 (kR 215),kE P "PATH_SIGNS" 456 (kS "abcdefghijklmnopqrstuvwxyz0123456789-_./" 455),kE P "LONGEST_PATH" 458 (kI 20 457),kE P "is_path" 465 (kR 222),kE P "need_path" 472 (kR 229),kE P "folder" 480 (kR 236),kE P "lies_under" 488 (kR 243),kE P "LAST_MOMENT" 492 (kI 9999 491),kE P "ASK_SAFE" 494 (kI 0 493),kE P "ASK_HOUSE" 496 (kI 1 495),kE P "ASK_PATH" 498 (kI 2 497),kE P "ASK_ORIGIN" 500 (kI 3 499),kE P "ASK_PARTS" 502 (kI 4 501),kE P "is_moment" 509 (kR 250),kE P "is_moment_or_none" 516 (kR 257),kE P "need_moment" 523 (kR 264),kE P "is_ask" 530 (kR 271),kE P "need_ask" 537 (kR 278),kE P "comes_from_near" 548 (kR 285),kE P "NOTE_NAME_SIGNS" 552 (kS "abcdefghijklmnopqrstuvwxyzABCDEFGHIJKLMNOPQRSTUVWXYZ0123456789-_" 551),kE P "LONGEST_NOTE_NAME" 554 (kI 10 553),kE P "NO_WORTH_SIGNS" 556 (kS ";,=" 555),kE P "LONGEST_WORTH" 558 (kI 12 557),kE P "MOST_FIGURES" 560 (kI 4 559),kE P "GIVEN_NAME" 562 (kI 0 561),kE P "GIVEN_WORTH" 564 (kI 1 563),kE P "GIVEN_HOUSE" 566 (kI 2 565),kE P "GIVEN_PATH" 568 (kI 3 567),kE P "GIVEN_UNTIL" 570 (kI 4 569),kE P "GIVEN_LASTS" 572 (kI 5 571),kE P "GIVEN_SAFE" 574 (kI 6 573),kE P "GIVEN_REACH" 576 (kI 7 575),kE P "GIVEN_PARTS" 578 (kI 8 577),kE P "is_note_name" 585 (kR 292),kE P "is_worth" 591 (kR 297),kE P "is_reach" 598 (kR 304),kE P "is_given" 605 (kR 311),kE P "need_given" 612 (kR 318),kE P "is_written_moment" 619 (kR 325),kE P "what_is_told" 629 (kR 332),kE P "read_given" 635 (kR 337),kE P "NOTE_NAME" 639 (kI 0 638),kE P "NOTE_WORTH" 641 (kI 1 640),kE P "NOTE_HOUSE" 643 (kI 2 642),kE P "NOTE_EXACT" 645 (kI 3 644),kE P "NOTE_PATH" 647 (kI 4 646),kE P "NOTE_ENDS" 649 (kI 5 648),kE P "NOTE_SAFE" 651 (kI 6 650),kE P "NOTE_REACH" 653 (kI 7 652),kE P "NOTE_MADE" 655 (kI 8 654),kE P "NOTE_USED" 657 (kI 9 656),kE P "NOTE_PARTS" 659 (kI 10 658),kE P "is_open" 667 (kR 344),kE P "is_exact" 677 (kR 351),kE P "keeps_its_mark" 687 (kR 358),kE P "why_refused" 697 (kR 365),kE P "is_note" 704 (kR 372),kE P "house_for" 712 (kR 379),kE P "path_for" 720 (kR 386),kE P "end_for" 728 (kR 393),kE P "made" 738 (kR 400),kE P "key" 745 (kR 407),kE P "has_ended" 753 (kR 414),kE P "is_for" 761 (kR 421),kE P "goes" 771 (kR 428),kE P "MOST_NOTES" 775 (kI 20 774),kE P "is_jar" 781 (kR 433),kE P "is_by_made" 787 (kR 438),kE P "has_no_key_twice" 793 (kR 443),kE P "need_jar" 800 (kR 450),kE P "need_no_more_than_a_jar_has" 807 (kR 457),kE P "swept" 815 (kR 464),kE P "without_ended" 821 (kR 469),kE P "forgotten" 827 (kR 474),kE P "put" 833 (kR 479),kE P "read_what_is_given" 845 (kR 486),kE P "verdict" 857 (kR 493),kE P "word_of" 863 (kR 498),kE P "shadows" 872 (kR 505),kE P "taken" 878 (kR 510),kE P "take_in" 884 (kR 515),kE P "need_sending" 894 (kR 522),kE P "sent" 900 (kR 527),kE P "sent_text" 906 (kR 532),kE P "used" 912 (kR 537),kE P "used_at" 920 (kR 544),kE P "LARGEST_ROOM" 924 (kI 20 923),kE P "need_room" 931 (kR 551),kE P "group_of" 940 (kR 558),kE P "groups" 946 (kR 563),kE P "fit" 952 (kR 568),kE P "too_many" 961 (kR 575),kE P "rank" 968 (kR 582),kE P "without" 974 (kR 587),kE P "Keeper" 1074 (kR 653),kE P "_law_cell" 1084 (kR 664),kE P "_law_drawn" 1094 (kR 671),kE P "_law_name" 1103 (kR 678),kE P "_law_table" 1109 (kR 683),kE P "_law_path" 1118 (kR 690),kE P "_law_ask" 1127 (kR 697),kE P "_law_given" 1144 (kR 704),kE P "_law_text" 1162 (kR 711),kE P "_law_jar" 1168 (kR 716),kE P "_law_refuses" 1180 (kR 723),kE P "law" 1186 (kR 728)] 143) #[]),(23,RZ (r_ "dict") Y (S7 #[kE P "__module__" 196 (kS "notejar.errors" 187),kE P "__firstlineno__" 200 (kI 2 199),kE P "__static_attributes__" 201 (kR 22),kE P "__weakref__" 203 (kR 25),kE P "__doc__" 204 H_] 3) #[]),(24,RZ (r_ "type") Y (Vr (RN (b_ "JarError") [r_ "ValueError"] [kR 24,r_ "ValueError",r_ "Exception",r_ "BaseException",r_ "object"] 23 (b_ "JarError") U [] [kR 37,kR 49,kR 61,kR 73,kR 85,kR 97,kR 109] L Y L)) #[Z (kR 15),Y,Z (kS "JarError" 189),Z (kS "JarError" 197),Z (Sw "ValueError.__new__"),Z (QQ U)]),(36,RZ (r_ "dict") Y (S7 #[kE P "__module__" 214 (kS "notejar.errors" 187),kE P "__firstlineno__" 218 (kI 4 217),kE P "__static_attributes__" 219 (kR 35),kE P "__doc__" 220 H_] 2) #[]),(37,RZ (r_ "type") Y (Vr (RN (b_ "NoName") [kR 24] [kR 37,kR 24,r_ "ValueError",r_ "Exception",r_ "BaseException",r_ "object"] 36 (b_ "NoName") U [] [] L Y L)) #[Z (kR 28),Y,Z (kS "NoName" 207),Z (kS "NoName" 215),Z (Sw "ValueError.__new__"),Z (QQ U)]),(48,RZ (r_ "dict") Y (S7 #[kE P "__module__" 230 (kS "notejar.errors" 187),kE P "__firstlineno__" 234 (kI 6 233),kE P "__static_attributes__" 235 (kR 47),kE P "__doc__" 236 H_] 2) #[]),(49,RZ (r_ "type") Y (Vr (RN (b_ "NoTable") [kR 24] [kR 49,kR 24,r_ "ValueError",r_ "Exception",r_ "BaseException",r_ "object"] 48 (b_ "NoTable") U [] [] L Y L)) #[Z (kR 40),Y,Z (kS "NoTable" 223),Z (kS "NoTable" 231),Z (Sw "ValueError.__new__"),Z (QQ U)]),(60,RZ (r_ "dict") Y (S7 #[kE P "__module__" 246 (kS "notejar.errors" 187),kE P "__firstlineno__" 250 (kI 8 249),kE P "__static_attributes__" 251 (kR 59),kE P "__doc__" 252 H_] 2) #[]),(61,RZ (r_ "type") Y (Vr (RN (b_ "NoPath") [kR 24] [kR 61,kR 24,r_ "ValueError",r_ "Exception",r_ "BaseException",r_ "object"] 60 (b_ "NoPath") U [] [] L Y L)) #[Z (kR 52),Y,Z (kS "NoPath" 239),Z (kS "NoPath" 247),Z (Sw "ValueError.__new__"),Z (QQ U)]),(72,RZ (r_ "dict") Y (S7 #[kE P "__module__" 262 (kS "notejar.errors" 187),kE P "__firstlineno__" 266 (kI 10 265),kE P "__static_attributes__" 267 (kR 71),kE P "__doc__" 268 H_] 2) #[]),(73,RZ (r_ "type") Y (Vr (RN (b_ "NoAsk") [kR 24] [kR 73,kR 24,r_ "ValueError",r_ "Exception",r_ "BaseException",r_ "object"] 72 (b_ "NoAsk") U [] [] L Y L)) #[Z (kR 64),Y,Z (kS "NoAsk" 255),Z (kS "NoAsk" 263),Z (Sw "ValueError.__new__"),Z (QQ U)]),(84,RZ (r_ "dict") Y (S7 #[kE P "__module__" 278 (kS "notejar.errors" 187),kE P "__firstlineno__" 282 (kI 12 281),kE P "__static_attributes__" 283 (kR 83),kE P "__doc__" 284 H_] 2) #[]),(85,RZ (r_ "type") Y (Vr (RN (b_ "NoNote") [kR 24] [kR 85,kR 24,r_ "ValueError",r_ "Exception",r_ "BaseException",r_ "object"] 84 (b_ "NoNote") U [] [] L Y L)) #[Z (kR 76),Y,Z (kS "NoNote" 271),Z (kS "NoNote" 279),Z (Sw "ValueError.__new__"),Z (QQ U)]),(96,RZ (r_ "dict") Y (S7 #[kE P "__module__" 294 (kS "notejar.errors" 187),kE P "__firstlineno__" 298 (kI 14 297),kE P "__static_attributes__" 299 (kR 95),kE P "__doc__" 300 H_] 2) #[]),(97,RZ (r_ "type") Y (Vr (RN (b_ "NoJar") [kR 24] [kR 97,kR 24,r_ "ValueError",r_ "Exception",r_ "BaseException",r_ "object"] 96 (b_ "NoJar") U [] [] L Y L)) #[Z (kR 88),Y,Z (kS "NoJar" 287),Z (kS "NoJar" 295),Z (Sw "ValueError.__new__"),Z (QQ U)]),(108,RZ (r_ "dict") Y (S7 #[kE P "__module__" 310 (kS "notejar.errors" 187),kE P "__firstlineno__" 314 (kI 16 313),kE P "__static_attributes__" 315 (kR 107),kE P "__doc__" 316 H_] 2) #[]),(109,RZ (r_ "type") Y (Vr (RN (b_ "NoNumber") [kR 24] [kR 109,kR 24,r_ "ValueError",r_ "Exception",r_ "BaseException",r_ "object"] 108 (b_ "NoNumber") U [] [] L Y L)) #[Z (kR 100),Y,Z (kS "NoNumber" 303),Z (kS "NoNumber" 311),Z (Sw "ValueError.__new__"),Z (QQ U)]),(115,kC "is_text_of" 321 322 323 19 4 3 112 181 113 114 324 19 325),(116,kF "is_text_of" 10 "notejar.kinds" 319 115),(122,kD "is_whole_number" 327 328 329 25 3 3 117 181 118 119 120 121 333 25 334),(123,kF "is_whole_number" 11 "notejar.kinds" 319 122),(129,kD "is_tuple_of" 336 337 338 29 2 3 124 181 125 126 127 128 341 29 342),(130,kF "is_tuple_of" 12 "notejar.kinds" 319 129),(136,kD "is_label" 356 357 358 37 1 3 131 181 132 133 134 135 360 37 361),(137,kF "is_label" 19 "notejar.names" 344 136),(141,kC "is_name" 363 364 365 41 1 3 138 181 139 140 366 41 367),(142,kF "is_name" 20 "notejar.names" 344 141),(148,kD "is_rule" 369 370 371 48 1 3 143 181 144 145 146 147 373 48 374),(149,kF "is_rule" 21 "notejar.names" 344 148),(153,kC "is_table" 376 377 378 56 1 3 150 181 151 152 379 56 380),(154,kF "is_table" 22 "notejar.names" 344 153),(160,kD "need_name" 382 383 384 62 1 3 155 181 156 157 158 159 386 62 387),(161,kF "need_name" 23 "notejar.names" 344 160),(167,kD "need_table" 389 390 391 65 1 3 162 181 163 164 165 166 393 65 394),(168,kF "need_table" 24 "notejar.names" 344 167),(174,kD "labels" 396 397 398 68 1 3 169 181 170 171 172 173 400 68 401),(175,kF "labels" 25 "notejar.names" 344 174),(181,kD "lies_within" 403 404 405 71 2 3 176 181 177 178 179 180 408 71 409),(182,kF "lies_within" 26 "notejar.names" 344 181),(186,kC "ends_longest_first" 411 412 413 73 1 3 183 181 184 185 414 73 415),(187,kF "ends_longest_first" 27 "notejar.names" 344 186),(193,kD "behind_first_dot" 417 418 419 76 1 3 188 181 189 190 191 192 421 76 422),(194,kF "behind_first_dot" 28 "notejar.names" 344 193),(200,kD "is_told_open" 424 425 426 78 2 3 195 181 196 197 198 199 429 78 430),(201,kF "is_told_open" 29 "notejar.names" 344 200),(207,kD "find_open_end" 432 433 434 82 2 3 202 181 203 204 205 206 439 82 440),(208,kF "find_open_end" 30 "notejar.names" 344 207),(214,kD "find_own_end" 442 443 444 91 2 3 209 181 210 211 212 213 450 91 451),(215,kF "find_own_end" 31 "notejar.names" 344 214),(221,kD "is_path" 459 460 461 101 1 3 216 181 217 218 219 220 463 101 464),(222,kF "is_path" 35 "notejar.paths" 453 221),(228,kD "need_path" 466 467 468 103 1 3 223 181 224 225 226 227 470 103 471),(229,kF "need_path" 36 "notejar.paths" 453 228),(235,kD "folder" 473 474 475 106 1 3 230 181 231 232 233 234 478 106 479),(236,kF "folder" 37 "notejar.paths" 453 235),(242,kD "lies_under" 481 482 483 112 2 3 237 181 238 239 240 241 486 112 487),(243,kF "lies_under" 38 "notejar.paths" 453 242),(249,kD "is_moment" 503 504 505 125 1 3 244 181 245 246 247 248 507 125 508),(250,kF "is_moment" 46 "notejar.asks" 489 249),(256,kD "is_moment_or_none" 510 511 512 127 1 3 251 181 252 253 254 255 514 127 515),(257,kF "is_moment_or_none" 47 "notejar.asks" 489 256),(263,kD "need_moment" 517 518 519 129 1 3 258 181 259 260 261 262 521 129 522),(264,kF "need_moment" 48 "notejar.asks" 489 263),(270,kD "is_ask" 524 525 526 132 1 3 265 181 266 267 268 269 528 132 529),(271,kF "is_ask" 49 "notejar.asks" 489 270),(277,kD "need_ask" 531 532 533 136 1 3 272 181 273 274 275 276 535 136 536),(278,kF "need_ask" 50 "notejar.asks" 489 277),(284,kD "comes_from_near" 538 539 540 139 2 3 279 181 280 281 282 283 546 139 547),(285,kF "comes_from_near" 51 "notejar.asks" 489 284),(291,kD "is_note_name" 579 580 581 161 1 3 286 181 287 288 289 290 583 161 584),(292,kF "is_note_name" 67 "notejar.giving" 549 291),(296,kC "is_worth" 586 587 588 163 1 3 293 181 294 295 589 163 590),(297,kF "is_worth" 68 "notejar.giving" 549 296),(303,kD "is_reach" 592 593 594 167 1 3 298 181 299 300 301 302 596 167 597),(304,kF "is_reach" 69 "notejar.giving" 549 303),(310,kD "is_given" 599 600 601 169 1 3 305 181 306 307 308 309 603 169 604),(311,kF "is_given" 70 "notejar.giving" 549 310),(317,kD "need_given" 606 607 608 173 1 3 312 181 313 314 315 316 610 173 611),(318,kF "need_given" 71 "notejar.giving" 549 317),(324,kD "is_written_moment" 613 614 615 176 1 3 319 181 320 321 322 323 617 176 618),(325,kF "is_written_moment" 72 "notejar.giving" 549 324),(331,kD "what_is_told" 620 621 622 178 1 3 326 181 327 328 329 330 627 178 628),(332,kF "what_is_told" 73 "notejar.giving" 549 331),(336,kC "read_given" 630 631 632 195 1 3 333 181 334 335 633 195 634),(337,kF "read_given" 74 "notejar.giving" 549 336),(343,kD "is_open" 660 661 662 220 2 3 338 181 339 340 341 342 665 220 666),(344,kF "is_open" 87 "notejar.notes" 636 343),(350,kD "is_exact" 668 669 670 222 3 3 345 181 346 347 348 349 675 222 676),(351,kF "is_exact" 88 "notejar.notes" 636 350),(357,kD "keeps_its_mark" 678 679 680 227 3 3 352 181 353 354 355 356 685 227 686),(358,kF "keeps_its_mark" 89 "notejar.notes" 636 357),(364,kD "why_refused" 688 689 690 234 3 3 359 181 360 361 362 363 695 234 696),(365,kF "why_refused" 90 "notejar.notes" 636 364),(371,kD "is_note" 698 699 700 250 1 3 366 181 367 368 369 370 702 250 703),(372,kF "is_note" 91 "notejar.notes" 636 371),(378,kD "house_for" 705 706 707 256 2 3 373 181 374 375 376 377 710 256 711),(379,kF "house_for" 92 "notejar.notes" 636 378),(385,kD "path_for" 713 714 715 260 2 3 380 181 381 382 383 384 718 260 719),(386,kF "path_for" 93 "notejar.notes" 636 385),(392,kD "end_for" 721 722 723 264 2 3 387 181 388 389 390 391 726 264 727),(393,kF "end_for" 94 "notejar.notes" 636 392)]
noncomputable def ZY(P:Vz):Frag:=[(399,kD "made" 729 730 731 268 4 3 394 181 395 396 397 398 736 268 737),(400,kF "made" 95 "notejar.notes" 636 399),(406,kD "key" 739 740 741 276 1 3 401 181 402 403 404 405 743 276 744),(407,kF "key" 96 "notejar.notes" 636 406),(413,kD "has_ended" 746 747 748 278 2 3 408 181 409 410 411 412 751 278 752),(414,kF "has_ended" 97 "notejar.notes" 636 413),(420,kD "is_for" 754 755 756 280 2 3 415 181 416 417 418 419 759 280 760),(421,kF "is_for" 98 "notejar.notes" 636 420),(427,kD "goes" 762 763 764 284 4 3 422 181 423 424 425 426 769 284 770),(428,kF "goes" 99 "notejar.notes" 636 427),(432,kC "is_jar" 776 777 778 294 1 3 429 181 430 431 779 294 780),(433,kF "is_jar" 102 "notejar.jars" 772 432),(437,kC "is_by_made" 782 783 784 300 1 3 434 181 435 436 785 300 786),(438,kF "is_by_made" 103 "notejar.jars" 772 437),(442,kC "has_no_key_twice" 788 789 790 302 1 3 439 181 440 441 791 302 792),(443,kF "has_no_key_twice" 104 "notejar.jars" 772 442),(449,kD "need_jar" 794 795 796 305 1 3 444 181 445 446 447 448 798 305 799),(450,kF "need_jar" 105 "notejar.jars" 772 449),(456,kD "need_no_more_than_a_jar_has" 801 802 803 308 1 3 451 181 452 453 454 455 805 308 806),(457,kF "need_no_more_than_a_jar_has" 106 "notejar.jars" 772 456),(463,kD "swept" 808 809 810 311 2 3 458 181 459 460 461 462 813 311 814),(464,kF "swept" 107 "notejar.jars" 772 463),(468,kC "without_ended" 816 817 818 315 2 3 465 181 466 467 819 315 820),(469,kF "without_ended" 108 "notejar.jars" 772 468),(473,kC "forgotten" 822 823 824 317 2 3 470 181 471 472 825 317 826),(474,kF "forgotten" 109 "notejar.jars" 772 473),(478,kC "put" 828 829 830 321 2 3 475 181 476 477 831 321 832),(479,kF "put" 110 "notejar.jars" 772 478),(485,kD "read_what_is_given" 834 835 836 327 5 3 480 181 481 482 483 484 843 327 844),(486,kF "read_what_is_given" 111 "notejar.jars" 772 485),(492,kD "verdict" 846 847 848 334 5 3 487 181 488 489 490 491 855 334 856),(493,kF "verdict" 112 "notejar.jars" 772 492),(497,kC "word_of" 858 859 860 337 5 3 494 181 495 496 861 337 862),(498,kF "word_of" 113 "notejar.jars" 772 497),(504,kD "shadows" 864 865 866 347 3 3 499 181 500 501 502 503 870 347 871),(505,kF "shadows" 114 "notejar.jars" 772 504),(509,kC "taken" 873 874 875 353 5 3 506 181 507 508 876 353 877),(510,kF "taken" 115 "notejar.jars" 772 509),(514,kC "take_in" 879 880 881 360 5 3 511 181 512 513 882 360 883),(515,kF "take_in" 116 "notejar.jars" 772 514),(521,kD "need_sending" 885 886 887 369 4 3 516 181 517 518 519 520 892 369 893),(522,kF "need_sending" 117 "notejar.jars" 772 521),(526,kC "sent" 895 896 897 374 4 3 523 181 524 525 898 374 899),(527,kF "sent" 118 "notejar.jars" 772 526),(531,kC "sent_text" 901 902 903 378 4 3 528 181 529 530 904 378 905),(532,kF "sent_text" 119 "notejar.jars" 772 531),(536,kC "used" 907 908 909 380 4 3 533 181 534 535 910 380 911),(543,kD "used_at" 913 914 915 383 2 3 538 181 539 540 541 542 918 383 919),(550,kD "need_room" 925 926 927 387 1 3 545 181 546 547 548 549 929 387 930),(551,kF "need_room" 124 "notejar.room" 921 550),(557,kD "group_of" 932 933 934 390 2 3 552 181 553 554 555 556 938 390 939),(558,kF "group_of" 125 "notejar.room" 921 557),(562,kC "groups" 941 942 943 395 2 3 559 181 560 561 944 395 945),(563,kF "groups" 126 "notejar.room" 921 562),(567,kC "fit" 947 948 949 400 4 3 564 181 565 566 950 400 951),(568,kF "fit" 127 "notejar.room" 921 567),(574,kD "too_many" 953 954 955 406 2 3 569 181 570 571 572 573 959 406 960),(575,kF "too_many" 128 "notejar.room" 921 574),(581,kD "rank" 962 963 964 409 1 3 576 181 577 578 579 580 966 409 967),(582,kF "rank" 129 "notejar.room" 921 581),(586,kC "without" 969 970 971 411 2 3 583 181 584 585 972 411 973),(587,kF "without" 130 "notejar.room" 921 586),(600,RZ (r_ "code") Y (Sz #[kS "__init__" 989,kS "Keeper.__init__" 990,kS "/claim/cut.py" 991,kI 416 0,kI 4 0,kI 0 0,kI 0 0,kI 3 0,kR 595,QQ U,kI 181 0,kR 596,H_,kR 597,kR 598,kR 599,kI 996 0,kI 416 0,kS "/claim/cut.py" 997]) #[]),(601,kM "__init__" "Keeper.__init__" 132 0 "notejar.keepers" 975 600),(607,RZ (r_ "code") Y (Sz #[kS "notes" 999,kS "Keeper.notes" 1000,kS "/claim/cut.py" 1001,kI 426 0,kI 1 0,kI 0 0,kI 0 0,kI 3 0,kR 602,QQ U,kI 181 0,kR 603,H_,kR 604,kR 605,kR 606,kI 1003 0,kI 426 0,kS "/claim/cut.py" 1004]) #[]),(608,kM "notes" "Keeper.notes" 132 1 "notejar.keepers" 975 607),(614,RZ (r_ "code") Y (Sz #[kS "clock" 1006,kS "Keeper.clock" 1007,kS "/claim/cut.py" 1008,kI 429 0,kI 1 0,kI 0 0,kI 0 0,kI 3 0,kR 609,QQ U,kI 181 0,kR 610,H_,kR 611,kR 612,kR 613,kI 1010 0,kI 429 0,kS "/claim/cut.py" 1011]) #[]),(615,kM "clock" "Keeper.clock" 132 2 "notejar.keepers" 975 614),(621,RZ (r_ "code") Y (Sz #[kS "need_no_earlier" 1013,kS "Keeper.need_no_earlier" 1014,kS "/claim/cut.py" 1015,kI 432 0,kI 2 0,kI 0 0,kI 0 0,kI 3 0,kR 616,QQ U,kI 181 0,kR 617,H_,kR 618,kR 619,kR 620,kI 1018 0,kI 432 0,kS "/claim/cut.py" 1019]) #[]),(622,kM "need_no_earlier" "Keeper.need_no_earlier" 132 3 "notejar.keepers" 975 621),(628,RZ (r_ "code") Y (Sz #[kS "hear" 1021,kS "Keeper.hear" 1022,kS "/claim/cut.py" 1023,kI 436 0,kI 4 0,kI 0 0,kI 0 0,kI 3 0,kR 623,QQ U,kI 181 0,kR 624,H_,kR 625,kR 626,kR 627,kI 1030 0,kI 436 0,kS "/claim/cut.py" 1031]) #[]),(629,kM "hear" "Keeper.hear" 132 4 "notejar.keepers" 975 628),(635,RZ (r_ "code") Y (Sz #[kS "send" 1033,kS "Keeper.send" 1034,kS "/claim/cut.py" 1035,kI 444 0,kI 3 0,kI 0 0,kI 0 0,kI 3 0,kR 630,QQ U,kI 181 0,kR 631,H_,kR 632,kR 633,kR 634,kI 1040 0,kI 444 0,kS "/claim/cut.py" 1041]) #[]),(636,kM "send" "Keeper.send" 132 5 "notejar.keepers" 975 635),(642,RZ (r_ "code") Y (Sz #[kS "step" 1043,kS "Keeper.step" 1044,kS "/claim/cut.py" 1045,kI 451 0,kI 2 0,kI 0 0,kI 0 0,kI 3 0,kR 637,QQ U,kI 181 0,kR 638,H_,kR 639,kR 640,kR 641,kI 1049 0,kI 451 0,kS "/claim/cut.py" 1050]) #[]),(643,kM "step" "Keeper.step" 132 6 "notejar.keepers" 975 642),(649,RZ (r_ "code") Y (Sz #[kS "forget" 1052,kS "Keeper.forget" 1053,kS "/claim/cut.py" 1054,kI 457 0,kI 2 0,kI 0 0,kI 0 0,kI 3 0,kR 644,QQ U,kI 181 0,kR 645,H_,kR 646,kR 647,kR 648,kI 1059 0,kI 457 0,kS "/claim/cut.py" 1060]) #[]),(650,kM "forget" "Keeper.forget" 132 7 "notejar.keepers" 975 649),(652,RZ (r_ "dict") Y (S7 #[kE P "__module__" 984 (kS "notejar.keepers" 975),kE P "__firstlineno__" 988 (kI 414 987),kE P "__init__" 998 (kR 601),kE P "notes" 1005 (kR 608),kE P "clock" 1012 (kR 615),kE P "need_no_earlier" 1020 (kR 622),kE P "hear" 1032 (kR 629),kE P "send" 1042 (kR 636),kE P "step" 1051 (kR 643),kE P "forget" 1061 (kR 650),kE P "__static_attributes__" 1067 (kR 651),kE P "__dict__" 1069 (kR 654),kE P "__weakref__" 1071 (kR 655),kE P "__doc__" 1072 H_] 4) #[]),(653,RZ (r_ "type") Y (Vr (RN (b_ "Keeper") [r_ "object"] [kR 653,r_ "object"] 652 (b_ "Keeper") U [] [] L Y L)) #[Y,Y,Z (kS "Keeper" 977),Z (kS "Keeper" 985),Z (Sw "object.__new__"),Z (QQ U)]),(663,kD "_law_cell" 1077 1078 1079 463 2 3 658 181 659 660 661 662 1082 463 1083),(664,ŕ "_law_cell" 134 663),(670,kD "_law_drawn" 1085 1086 1087 467 3 3 665 181 666 667 668 669 1092 467 1093),(671,ŕ "_law_drawn" 135 670),(677,kD "_law_name" 1095 1096 1097 471 2 3 672 181 673 674 675 676 1101 471 1102),(678,ŕ "_law_name" 136 677),(682,kC "_law_table" 1104 1105 1106 475 2 3 679 181 680 681 1107 475 1108),(683,ŕ "_law_table" 137 682),(689,kD "_law_path" 1110 1111 1112 478 2 3 684 181 685 686 687 688 1116 478 1117),(690,ŕ "_law_path" 138 689),(696,kD "_law_ask" 1119 1120 1121 481 2 3 691 181 692 693 694 695 1125 481 1126),(697,ŕ "_law_ask" 139 696),(703,kD "_law_given" 1128 1129 1130 484 3 3 698 181 699 700 701 702 1142 484 1143),(704,ŕ "_law_given" 140 703),(710,kD "_law_text" 1145 1146 1147 495 1 3 705 181 706 707 708 709 1160 495 1161),(711,ŕ "_law_text" 141 710),(715,kC "_law_jar" 1163 1164 1165 503 3 3 712 181 713 714 1166 503 1167),(716,ŕ "_law_jar" 142 715),(722,kD "_law_refuses" 1169 1170 1171 521 5 3 717 181 718 719 720 721 1178 521 1179),(723,ŕ "_law_refuses" 143 722),(727,kC "law" 1181 1182 1183 535 1 3 724 181 725 726 1184 535 1185),(728,ŕ "law" 144 727),(4,RZ (r_ "module") (Z builtinsNs) Data.plain #[])]
noncomputable def KKb(P:Vz):Frag:=ZY P++[(524,{cls:=.none,data:=.fields #[]})]
noncomputable def KK(P:Vz):Frag:=X' P++KKb P
noncomputable def KAa:List B:=[2,3,23,24,36,37,48,49,60,61,72,73,84,85,96,97,108,109,115,116,122,123,129,130,136,137,141,142,148,149,153,154,160,161,167,168,174,175,181,182,186,187,193,194,200,201,207,208,214,215,221,222,228,229,235,236,242,243,249,250,256,257,263,264,270,271,277,278,284,285,291,292,296,297,303,304,310,311,317,318,324,325,331,332,336,337,343,344,350,351,357,358,364,365,371,372,378,379,385,386,392,393]
noncomputable def KAb:List B:=[399,400,406,407,413,414,420,421,427,428,432,433,437,438,442,443,449,450,456,457,463,464,468,469,473,474,478,479,485,486,492,493,497,498,504,505,509,510,514,515,521,522,526,527,531,532,536,543,550,551,557,558,562,563,567,568,574,575,581,582,586,587,600,601,607,608,614,615,621,622,628,629,635,636,642,643,649,650,652,653,663,664,670,671,677,678,682,683,689,690,696,697,703,704,710,711,715,716,722,723,727,728,4,524]
noncomputable def KA:List B:=KAa++KAb
noncomputable def KL(P:Vz):Frag:=X' P++ZY P
variable{I:J_}
theorem KL_in{P:Vz}(X:(KK P).In I):(KL P).In I:=λb o e=>X b o (by show TB b (X' P++(ZY P++_))=Z o;rw[<-U1,S0,show TB b (X' P++ZY P)=Z o from e];rfl)
theorem KT_in{P:Vz}(X:(KK P).In I):I.get? 524=Z {cls:=.none,data:=.fields #[]}:=X 524 _ (by lk)
theorem KA_ok(P:Vz):KA=(KK P).map (·.1):=by lk
noncomputable def VQ:n_:=view p9_ [144]
theorem hbr:r9_.row.prog.bare:=⟨rfl,rfl,rfl,rfl,rfl,by decide+kernel⟩
theorem slo:PySem.W.looksOpen r9_.row.prog=U:=by lk
set_option maxRecDepth 100000 in
theorem sd1:r9_.row.wellSaid=U:=by unfold PySem.W.OpenRow.wellSaid PySem.W.OpenRow.partSaid;rw[slo];lk
set_option maxRecDepth 100000 in
theorem sd:r9_.wellSaid=U:=by unfold PySem.W.OpenLaw.wellSaid;rw[sd1];lk
theorem hld(h:r9_.row.wellSaid=U->r9_.row.Holds):r9_.Holds:=PySem.W.holds_law sd h
noncomputable def VL:List Str:=(["JarError","NoName","NoTable","NoPath","NoAsk","NoNote","NoJar","NoNumber","is_text_of","is_whole_number","is_tuple_of","FIGURES","LABEL_SIGNS","LONGEST_LABEL","MOST_LABELS","MOST_RULES","is_label","is_name","is_rule","is_table","need_name","need_table","labels","lies_within","ends_longest_first","behind_first_dot","is_told_open","find_open_end","find_own_end","PATH_SIGNS","LONGEST_PATH","is_path","need_path","folder","lies_under","LAST_MOMENT","ASK_SAFE","ASK_HOUSE","ASK_PATH","ASK_ORIGIN","ASK_PARTS","is_moment","is_moment_or_none","need_moment","is_ask","need_ask","comes_from_near","NOTE_NAME_SIGNS","LONGEST_NOTE_NAME","NO_WORTH_SIGNS","LONGEST_WORTH","MOST_FIGURES","GIVEN_NAME","GIVEN_WORTH","GIVEN_HOUSE","GIVEN_PATH","GIVEN_UNTIL","GIVEN_LASTS","GIVEN_SAFE","GIVEN_REACH","GIVEN_PARTS","is_note_name","is_worth","is_reach","is_given","need_given","is_written_moment","what_is_told","read_given","NOTE_NAME","NOTE_WORTH","NOTE_HOUSE","NOTE_EXACT","NOTE_PATH","NOTE_ENDS","NOTE_SAFE","NOTE_REACH","NOTE_MADE","NOTE_USED","NOTE_PARTS","is_open","is_exact","keeps_its_mark","why_refused","is_note","house_for","path_for","end_for","made","key","has_ended","is_for","goes","MOST_NOTES","is_jar","is_by_made","has_no_key_twice","need_jar","need_no_more_than_a_jar_has","swept","without_ended","forgotten","put","read_what_is_given","verdict","word_of","shadows","taken","take_in","need_sending","sent","sent_text","used","used_at","LARGEST_ROOM","need_room","group_of","groups","fit","too_many","rank","without","Keeper","_law_cell","_law_drawn","_law_name","_law_table","_law_path","_law_ask","_law_given","_law_text","_law_jar","_law_refuses"].map b_)
theorem Ps{e d:Type}{o:Option υ}{f:υ->e}{g:υ->d}{a:e}{b:d}(h:o.map f=Z a)(i:o.map g=Z b):o.map (λs=>(f s,g s))=Z (a,b):=by cases o with|none=>cases h|some x=>cases h;cases i;rfl
set_option maxRecDepth 100000 in
theorem MI(w:w_):(TR.openQ XB p9_ w 10300).map (openSeen VQ VL (W0 p9_.main.body) (λs=>recOk [] s) U)=Z (openGood VQ VL):=by lk
set_option maxRecDepth 100000 in
theorem HK(w:w_):(TR.openQ XB p9_ w 10300).map (λs=>KAa.map s.heap.get?)=Z ((X' w.params).map λp=>Z p.2):=by lk
set_option maxRecDepth 100000 in
theorem HL(w:w_):(TR.openQ XB p9_ w 10300).map (λs=>KAb.map s.heap.get?)=Z ((KKb w.params).map λp=>Z p.2):=by lk
theorem Al{d b:Type}{o:Option υ}{f:υ->d->b}{A B:List d}{X a:List b}(e:o.map (λs=>A.map (f s))=Z X)(g:o.map (λs=>B.map (f s))=Z a):o.map (λs=>(A++B).map (f s))=Z (X++a):=by cases o with|none=>cases e|some x=>cases e;cases g;simp
theorem MJ(w:w_):(TR.openQ XB p9_ w 10300).map (λs=>KA.map s.heap.get?)=Z ((KK w.params).map λp=>Z p.2):=by show(TR.openQ XB p9_ w 10300).map (λs=>(KAa++KAb).map s.heap.get?)=Z ((X' w.params++KKb w.params).map λp=>Z p.2);rw[S8];exact Al (f:=λs:g_=>s.heap.get?) (HK w) (HL w)
theorem left:LeftO p9_ VQ VL (λs=>recOk [] s) (Hook.obs (Zk KK KA KA_ok)) (Hook.val (Zk KK KA KA_ok)) 10300:=λw=>TR.openQ_map (Ps (MI w) (MJ w))
end G
variable{I:J_}
set_option Elab.async false
set_option linter.all false
set_option maxRecDepth 100000
noncomputable section
open PySem PySem.Spec PyProof.Rows
namespace L2
abbrev Ĺ:=Sum Int Str
noncomputable def HM:Ĺ->D->Bool|.inl k,v=>Value.isInt k v|.inr x,v=>Vj x v
noncomputable def Pu(w:w_):Ĺ->Int|.inl k=>hashInt k|.inr x=>hashStr w x
theorem cr:∀{k:Ĺ}{v:D},HM k v=U->(∃i t,k=XA i/\v=XH i t)\/(∃x t,k=Xz x/\v=RK x t)|.inl i,v,h=>by obtain⟨t,e⟩:=Value.isInt_shape (k:=i) (v:=v) h;exact .inl ⟨i,t,rfl,e⟩|.inr x,v,h=>by obtain⟨t,e⟩:=XN (x:=x) (v:=v) h;exact .inr ⟨x,t,rfl,e⟩
theorem HN(a b:Int):A_ ((XA a:Ĺ)=XA b)=(a==b):=by
 by_cases e:a=b;·subst e;simp
 ·have h:¬(XA a:Ĺ)=XA b:=λq=>e (Sum.inl.inj q);rw[decide_eq_false h];exact(beq_eq_false_iff_ne.mpr e).symm
theorem HP(a b:Str):A_ ((Xz a:Ĺ)=Xz b)=A_ (a=b):=by
 by_cases e:a=b;·subst e;simp
 ·have h:¬(Xz a:Ĺ)=Xz b:=λq=>e (Sum.inr.inj q);rw[decide_eq_false h,decide_eq_false e]
theorem HQ(a:Int)(b:Str):A_ ((XA a:Ĺ)=Xz b)=L:=decide_eq_false (λq=>nomatch q)
theorem HR(a:Str)(b:Int):A_ ((Xz a:Ĺ)=XA b)=L:=decide_eq_false (λq=>nomatch q)
def wf(f:n_)(w:w_):PySem.KeyKind f w Ĺ where
 is:=HM;hash:=Pu w;inj:=λv a b o m=>by
  rcases cr o with⟨i,t,rfl,rfl⟩|⟨x,t,rfl,rfl⟩
  · rcases cr m with⟨j,u,rfl,e⟩|⟨y,u,rfl,e⟩;·injection e with d _;rw[d]
    ·exact nomatch e
  · rcases cr m with⟨j,u,rfl,e⟩|⟨y,u,rfl,e⟩;·exact nomatch e
    ·injection e with d _;rw[d]
 byValue:=λk v h=>by rcases cr h with⟨i,t,rfl,rfl⟩|⟨x,t,rfl,rfl⟩<;>rfl
 pyHash:=λg h=>by
  rcases cr g with⟨i,t,rfl,rfl⟩|⟨x,t,rfl,rfl⟩;·exact wpAny_pyHash_int h
  ·exact wpAny_pyHash_str h
 eqBool:=λn g h=>by
  rcases cr n with⟨i,t,rfl,rfl⟩|⟨x,t,rfl,rfl⟩
  · rcases cr g with⟨j,u,rfl,rfl⟩|⟨y,u,rfl,rfl⟩;·rw[HN]at h;exact wpAny_eqBool_int h
    ·rw[HQ]at h;exact X7 i t y u _ _ _ _ h
  · rcases cr g with⟨j,u,rfl,rfl⟩|⟨y,u,rfl,rfl⟩;·rw[HR]at h;exact X6 x t j u _ _ _ _ h
    ·rw[HP]at h;exact wpAny_eqBool_str h
 «strs»:=λk x t v h=>by
  rcases cr h with⟨i,u,rfl,e⟩|⟨y,u,rfl,e⟩;·exact nomatch e
  ·injection e with d _;subst d;cases v<;>rfl
inductive V where|non|bl(b:Bool)|int(i:Int)|str(x:Str)|byt(b:Array UInt8)|flt(b:UInt64)|ref(a:B)|ty(n:String)deriving DecidableEq
def Ü:V->D->Prop|.non,u=>u=H_|.bl b,u=>u=QQ b|.int i,u=>∃t,u=XH i t|.str x,u=>∃t,u=RK x t|.byt b,u=>∃t,u=Value.bytes b t|.flt b,u=>∃t,u=YM b t|.ref a,u=>u=y_ a|.ty n,u=>u=r_ n
abbrev Ð:List V->List D->Prop:=Paired Ü
variable{μ:List V}{ξ:List D}
theorem Ð.length(r:Ð μ ξ):μ.length=ξ.length:=Paired.length r
theorem Ð.get:∀{a:List V}{b:List D}{i:Nat}{x:V},Ð a b->a[i]?=Z x->∃u,b[i]?=Z u/\Ü x u|_,_,_,_,.nil,e=>by simp at e|_,_,0,_,.cons r _,e=>by simp at e;subst e;exact⟨_,rfl,r⟩|_,_,i+1,x,.cons _ t,e=>by obtain⟨u,f,d⟩:=Ð.get (i:=i) (x:=x) t (by simpa using e);exact⟨u,by simpa using f,d⟩
theorem Ð.set{x:V}{u:D}(r:Ü x u):∀{a:List V}{b:List D}(i:Nat),Ð a b->Ð (a.set i x) (b.set i u)|_,_,_,.nil=>.nil|_,_,0,.cons _ t=>.cons r t|_,_,i+1,.cons q t=>.cons q (Ð.set r i t)
theorem Ð.append:∀{b a:List V}{e d:List D},Ð b e->Ð a d->Ð (b++a) (e++d)|_,_,_,_,.nil,s=>s|_,_,_,_,.cons r t,s=>.cons r (Ð.append t s)
theorem Ð.take:∀{a:List V}{b:List D}(n:Nat),Ð a b->Ð (a.take n) (b.take n)|_,_,0,_=>.nil|_,_,_+1,.nil=>.nil|_,_,n+1,.cons r t=>.cons r (Ð.take n t)
theorem Ð.drop:∀{a:List V}{b:List D}(n:Nat),Ð a b->Ð (a.drop n) (b.drop n)|_,_,0,r=>r|_,_,_+1,.nil=>.nil|_,_,n+1,.cons _ t=>Ð.drop n t
theorem Ð.none_of:∀{a:List V}{b:List D}{i:Nat},Ð a b->a[i]?=Y->b[i]?=Y:=λ{a b i}r e=>by have f:=r.length;have d:a.length<=i:=V9.mp e;exact V9.mpr (by omega)
def Ĩ:Option V->Option D->Prop|some v,Z u=>Ü v u|none,Y=>True|_,_=>False
def KV:List (υ×V)->List (υ×D)->Prop:=Paired λ(p:υ×V)(q:υ×D)=>p.1=q.1/\Ü p.2 q.2
noncomputable def kV:Ĺ->V|.inl i=>.int i|.inr x=>.str x
inductive HO where|lst(xs:List V)|tup(xs:List V)|dK(kvs:List (Ĺ×V))|dT(kvs:List (List Ĺ×V))|set(S:Int->Bool)(n:Nat)|ins(C dx:B)(fs:List (Str×V))|own(x:B)|xd(fs:List (Str×V))|met(f x:B)|rng(lo hi:Int)|frz(o:Obj)(u:HO)|tbl(ps:Array D)|ext(φ:J_->Prop)
abbrev Hp:=B->Option HO
noncomputable def Ý(H:Hp)(a:B)(o:HO):Hp:=λb=>if b=a then Z o else H b
variable{h:Hp}{e:B}
theorem aw{o:HO}:Ý h e o e=Z o:=by unfold Ý;rw[if_pos rfl]
variable{v:B}
theorem ay{o:HO}(a:v≠e):Ý h e o v=h v:=by unfold Ý;rw[if_neg a]
theorem wg{o u:HO}:Ý (Ý h e o) e u=Ý h e u:=by funext b;unfold Ý;split<;>rfl
theorem An{o u:HO}(a:h e=Z o)(f:h v=Z u)(d:o≠u):e≠v:=by intro b;subst b;rw[a]at f;exact d (Q4 f)
theorem au{o:HO}(a:h e=Z o)(d:h v=Y):e≠v:=by intro b;subst b;rw[a]at d;cases d
def é(P:n_)(w:w_)(H:Hp)(h:J_)(a:B):HO->Prop|.lst e=>e.length<=sizeLine/\∃(d:List D)(n:Nat),Ð e d/\h.get? a=Z {cls:=.type "list",data:=.seq d.toArray n}|.tup e=>e.length<=sizeLine/\∃d:List D,Ð e d/\Zd h a d.toArray|.dK b=>b.length<=sizeLine/\(a==sysModules)=L/\∃i,KV b i/\h.DictOf (wf P w) a i|.dT b=>b.length<=sizeLine/\(a==sysModules)=L/\∃e:List (List Ĺ×B×D),Paired (λ(p:List Ĺ×V)(q:List Ĺ×B×D)=>p.1=q.1/\H q.2.1=Z (.tup (p.1.map kV))/\Ü p.2 q.2.2) b e/\∃o A ep,h.get? a=Z o/\o.ExactDict/\o.data=.dict A ep/\A.toList=e.map (entryOfKey (tupleKind (wf P w)))/\(e.map (·.1)).Nodup|.set S n=>h.SetOf (intKind P w) a S n|.ins C j fs=>H j=Z (.own a)/\fs.length<=1000/\j≠a/\h.get? a=Z (SF C j)/\∃g,h.Ns1 j g/\(∀f,Ĩ (fs.lookup f) (g f))/\Yg g (fs.map (·.1))|.own _=>∃o,h.get? a=Z o|.xd fs=>∃g,h.Ns1 a g/\∀f,Ĩ (fs.lookup f) (g f)|.rng lo hi=>∃t u v,h.get? a=Z {cls:=.type "range",data:=.fields #[.int lo t,.int hi u,.int 1 v]}|.frz o u=>h.get? a=Z o/\é P w H h a u|.tbl I=>∃m:Array D,h.get? a=Z {cls:=.none,data:=.fields m}/\Yv m.toList/\∀pos v,Wq pos m.toList=Z v->∃c r i q t E,v=.ref c/\H c=Z (.frz r (.ext λ_=>True))/\r.data=.fields i/\i[1]?=Z (.str q t)/\I[0]?=Z (.str q E)|.met f x=>h.get? a=Z (Wa (.ref f) (.ref x))|.ext k=>k h/\(∃o,h.get? a=Z o)/\∀z y:J_,k z->(∀o,z.get? a=Z o->y.get? a=Z o)->k y
def Ċ(P:n_)(w:w_)(H:Hp)(h:J_):Prop:=∀a o,H a=Z o->é P w H h a o
theorem é.lt{o:HO}(x:é p m h I e o):e<I.objs.size:=by cases o with|lst g=>obtain⟨_,_,_,_,a⟩:=x;exact v_ a|tup g=>obtain⟨_,_,_,b⟩:=x;exact b.lt|dK d=>obtain⟨_,_,_,_,o,_,_,a,_⟩:=x;exact v_ a|dT d=>obtain⟨_,_,_,_,o,_,_,a,_⟩:=x;exact v_ a|set S n=>obtain⟨o,_,_,_,a,_⟩:=x;exact v_ a|ins C r fs=>obtain⟨_,_,_,a,_⟩:=x;exact v_ a|own y=>obtain⟨_,a⟩:=x;exact v_ a|xd fs=>obtain⟨_,⟨_,_,_,a,_⟩,_⟩:=x;exact v_ a|rng lo q=>obtain⟨_,_,_,a⟩:=x;exact v_ a|frz k u=>obtain⟨a,_⟩:=x;exact v_ a|tbl j=>obtain⟨_,a,_⟩:=x;exact v_ a|met f y=>exact v_ (show I.get? e=Z _ from x)|ext i=>obtain⟨_,⟨_,a⟩,_⟩:=x;exact v_ a
theorem Paired.mapP{h g:Type}{F G:h->g->Prop}:∀{e:List h}{d:List g},Paired F e d->(∀a b,F a b->G a b)->Paired G e d|_,_,.nil,_=>.nil|_,_,.cons r t,f=>.cons (f _ _ r) (Paired.mapP t f)
variable{Ζ:Hp}{É:J_}
theorem é.stay{o:HO}(x:é p m h I e o)(k:∀b u,(b=e\/h b=Z (.own e))->I.get? b=Z u->É.get? b=Z u)(ho:∀b,h b=Z (.own e)->Ζ b=Z (.own e))(ht:∀b E,h b=Z (.tup E)->Ζ b=Z (.tup E))(hf:∀b o u,h b=Z (.frz o u)->Ζ b=Z (.frz o u):=by first|exactλ_ _ _ q=>q|(intro c _ _ q;rw[ay (au q (by assumption))];exact q)):é p m Ζ É e o:=by induction o with|lst E=>obtain⟨z,A,n,r,a⟩:=x;exact⟨z,A,n,r,k _ _ (.inl rfl) a⟩|tup E=>obtain⟨z,A,r,i,a,c⟩:=x;exact⟨z,A,r,i,k _ _ (.inl rfl) a,c⟩|dK a'=>obtain⟨z,y,H,r,i,j,w,a,c⟩:=x;exact⟨z,y,H,r,i,j,w,k _ _ (.inl rfl) a,c⟩|dT a'=>obtain⟨z,y,E,r,i,j,w,a,c⟩:=x;exact⟨z,y,E,Paired.mapP r λg q z=>⟨z.1,ht _ _ z.2.1,z.2.2⟩,i,j,w,k _ _ (.inl rfl) a,c⟩|set S n=>obtain⟨i,j,w,t,a,c⟩:=x;exact⟨i,j,w,t,k _ _ (.inl rfl) a,c⟩|ins C dx fs=>obtain⟨d,z,ne,a,mA,⟨P,j,w,e2,c⟩,r⟩:=x;exact⟨ho _ d,z,ne,k _ _ (.inl rfl) a,mA,⟨P,j,w,k _ _ (.inr d) e2,c⟩,r⟩|own y=>obtain⟨i,a⟩:=x;exact⟨i,k _ _ (.inl rfl) a⟩|xd fs=>obtain⟨mA,⟨P,j,w,a,c⟩,r⟩:=x;exact⟨mA,⟨P,j,w,k _ _ (.inl rfl) a,c⟩,r⟩|rng lo hi=>obtain⟨t,u,v,a⟩:=x;exact⟨t,u,v,k _ _ (.inl rfl) a⟩|frz i u ih=>obtain⟨a,q⟩:=x;exact⟨k _ _ (.inl rfl) a,ih q⟩|tbl ps=>obtain⟨qs,a,tr,ch⟩:=x;exact⟨qs,k e _ (.inl rfl) a,tr,λpos v hv=>let⟨c,oc,H,q,t,t',e1,e2,r⟩:=ch pos v hv;⟨c,oc,H,q,t,t',e1,hf _ _ _ e2,r⟩⟩|met f y=>have a:I.get? e=Z (Wa (.ref f) (.ref y)):=x;show É.get? e=Z (Wa (.ref f) (.ref y));exact k e _ (.inl rfl) a|ext φ=>obtain⟨g,⟨o,a⟩,st⟩:=x;exact⟨st _ _ g λo q=>k _ _ (.inl rfl) q,⟨o,k _ _ (.inl rfl) a⟩,st⟩
theorem Ċ.lt{P:n_}{w:w_}{H:Hp}{h:J_}{a:B}{o:HO}(x:Ċ P w H h)(e:H a=Z o):a<h.objs.size:=(x a o e).lt
theorem Ċ.fresh(x:Ċ p m h I)(a:I.objs.size<=e):h e=Y:=by cases q:h e with|none=>rfl|some u=>exact absurd (QJ (x.lt q) a) (RQ _)
theorem Ċ.kept{h':J_}(x:Ċ p m h I)(k:∀b u,I.get? b=Z u->h'.get? b=Z u):Ċ p m h h':=λa o e=>(x a o e).stay (λb u _ q=>k b u q) (λ_ q=>q) λ_ _ q=>q
theorem Ċ.laid{h':J_}{a:B}{o:HO}(x:Ċ p m h I)(k:∀b u,I.get? b=Z u->h'.get? b=Z u)(i:I.objs.size<=a)(d:é p m (Ý h a o) h' a o):Ċ p m (Ý h a o) h':=λb u e=>by
 have f:=x.fresh i;by_cases g:b=a;·subst g;rw[aw]at e;cases e;exact d
 ·rw[ay g]at e;exact(x b u e).stay (λc v _ q=>k c v q) (λc q=>by rw[ay (au q f)];exact q) λc j q=>by rw[ay (au q f)];exact q
def Rd(H:Hp)(a:B)(u:HO):Prop:=H a=Z u\/∃o,H a=Z (.frz o u)
theorem Rd.of{u:HO}(a:h e=Z u):Rd h e u:=.inl a
theorem Rd.ok{u:HO}(r:Rd h e u)(x:Ċ p m h I):é p m h I e u:=by
 rcases r with r|⟨o,r⟩;·exact x e u r
 ·obtain⟨_,q⟩:=x e _ r;exact q
def ZT:Option HO->Prop|some (.lst _)=>True|some (.dK _)=>True|some (.dT _)=>True|some (.set _ _)=>True|some (.ins _ _ _)=>True|some (.ext _)=>True|_=>False
theorem Ċ.write{h':J_}{x e:B}{o:HO}(H:Ċ p m h I)(f:ZT (h x))(E:e=x\/h e=Z (.own x))(k:∀b u,b≠e->I.get? b=Z u->h'.get? b=Z u)(w:∃u,h'.get? e=Z u)(t:é p m (Ý h x o) h' x o):Ċ p m (Ý h x o) h':=λb u q=>by
 have d:∀c y,h c=Z (.own y)->c≠x:=λc y r z=>by subst z;rw[r]at f;exact f
 have g:∀c i,h c=Z (.tup i)->c≠x:=λc i r z=>by subst z;rw[r]at f;exact f
 by_cases n:b=x;·subst n;rw[aw]at q;cases q;exact t
 · rw[ay n]at q;by_cases a:b=e
   · have A:h b=Z (.own x):=by
      rcases E with z|z;·exact absurd (a.trans z) n
      ·rw[a];exact z
     rw[q]at A;cases A;obtain⟨v,P⟩:=w;exact⟨v,by rw[a];exact P⟩
   · refine(H b u q).stay (λc v j r=>k c v ?_ r) (λc r=>by rw[ay (d c b r)];exact r) (λc i r=>by rw[ay (g c i r)];exact r) λc _ _ r=>by rw[ay (λz=>by subst z;rw[r]at f;exact f)];exact r
     rcases j with rfl|j;·exact a
     · rintro rfl;rcases E with z|z;·exact d c b j z
       ·rw[j]at z;cases z;exact n rfl
structure Un(fs ex:List B)(H H':Hp)(h h':J_):Prop where
 keep:∀b o,h.get? b=Z o->H b=Y->b∉fs->b∉ex->h'.get? b=Z o
 slot:∀b o,h.get? b=Z o->H b=Y->b∈fs->b∉ex->∃sl,h'.get? b=Z {o with slots:=sl}free:∀b o,h.get? b=Z o->H b=Y->b∉ex->H' b=Y
 there:∀b o,h.get? b=Z o->b∉ex->∃o',h'.get? b=Z o'
 tups:∀b xs,H b=Z (.tup xs)->H' b=Z (.tup xs)frzs:∀b o u,H b=Z (.frz o u)->H' b=Z (.frz o u)tbls:∀b ps,H b=Z (.tbl ps)->∃more,H' b=Z (.tbl (ps++more))
variable{Ã:List B}
theorem Un.any{f:List B}(u:Un Ã f h Ζ I É){b:B}{a:Obj}(q:I.get? b=Z a)(n:h b=Y)(d:b∉f):∃g,É.get? b=Z {a with slots:=g}:=by
 by_cases e:b∈Ã;·exact u.slot b a q n e d
 ·exact⟨a.slots,u.keep b a q n e d⟩
theorem Un.trans{k:List B}{r:Hp}{p:J_}(a:Un Ã k h Ζ I É)(b:Un Ã k Ζ r É p):Un Ã k h r I p where
 keep:=λc d q n i e=>b.keep c d (a.keep c d q n i e) (a.free c d q n e) i e;slot:=λc d q n i e=>by obtain⟨w,f⟩:=a.slot c d q n i e;obtain⟨o,m⟩:=b.slot c _ f (a.free c d q n e) i e;exact⟨o,m⟩
 free:=λc d q n e=>by obtain⟨j,f⟩:=a.there c d q e;exact b.free c j f (a.free c d q n e) e
 there:=λc d q e=>by obtain⟨j,f⟩:=a.there c d q e;exact b.there c j f e
 tups:=λc g q=>b.tups c g (a.tups c g q);frzs:=λc d g q=>b.frzs c d g (a.frzs c d g q);tbls:=λc t q=>by obtain⟨v,f⟩:=a.tbls c t q;obtain⟨u,m⟩:=b.tbls c _ f;exact⟨v++u,by rw[m,V7]⟩
theorem Un.kept{d:List B}{h':J_}(k:∀b u,I.get? b=Z u->h'.get? b=Z u):Un Ã d h h I h':=⟨λb a q _ _ _=>k b a q,λb a q _ _ _=>⟨a.slots,k b a q⟩,λ_ _ _ n _=>n,λb a q _=>⟨a,k b a q⟩,λ_ _ q=>q,λ_ _ _ q=>q,λ_ e q=>⟨#[],by rw[q];simp⟩⟩
theorem Un.refl{a:List B}:Un Ã a h h I I:=Un.kept λ_ _ q=>q
theorem Un.laid{g:List B}{h':J_}{a:B}{o:HO}(k:∀b u,I.get? b=Z u->h'.get? b=Z u)(f:I.objs.size<=a)(d:h a=Y):Un Ã g h (Ý h a o) I h' where
 keep:=λb u q _ _ _=>k b u q;slot:=λb u q _ _ _=>⟨u.slots,k b u q⟩;free:=λb u q n _=>by rw[ay (F_ (QJ (v_ q) f))];exact n
 there:=λb u q _=>⟨u,k b u q⟩;tups:=λb e q=>by rw[ay (au q d)];exact q
 frzs:=λb u e q=>by rw[ay (au q d)];exact q
 tbls:=λb i q=>⟨#[],by rw[ay (au q d),q];simp⟩
theorem Un.write{v:List B}{h':J_}{x e:B}{o:HO}(d:ZT (h x))(t:e=x\/h e=Z (.own x))(k:∀b u,b≠e->I.get? b=Z u->h'.get? b=Z u)(g:∃u,h'.get? e=Z u):Un Ã v h (Ý h x o) I h':=by
 have i:∀b,h b=Y->b≠x:=λb n z=>by subst z;rw[n]at d;exact d
 have j:∀b,h b=Y->b≠e:=λb n z=>by
  subst z;rcases t with r|r;·exact i b n r
  ·rw[n]at r;cases r
 have f:∀b u,h b=Z u->¬ZT (Z u)->b≠x:=λb u q p z=>by subst z;rw[q]at d;exact p d
 refine⟨λb u q n _ _=>k b u (j b n) q,λb u q n _ _=>⟨u.slots,k b u (j b n) q⟩,λb u q n _=>by rw[ay (i b n)];exact n,λb u q _=>?_,λb m q=>by rw[ay (f b _ q λz=>z)];exact q,λb u m q=>by rw[ay (f b _ q λz=>z)];exact q,λb w q=>⟨#[],by rw[ay (f b _ q λz=>z),q];simp⟩⟩;by_cases a:b=e;·subst a;exact g
 ·exact⟨u,k b u a q⟩
theorem Un.mono{e i f:List B}(u:Un Ã i h Ζ I É)(j:∀b∈Ã,b∈e)(g:∀b∈i,b∈f):Un e f h Ζ I É:=⟨λb d q n k a=>u.keep b d q n (λz=>k (j b z)) λz=>a (g b z),λ_ _ q n _ a=>u.any q n λz=>a (g _ z),λb d q n a=>u.free b d q n λz=>a (g b z),λb d q a=>u.there b d q λz=>a (g b z),u.tups,u.frzs,u.tbls⟩
noncomputable def ZO(h:J_)(H:Hp):List B:=(rl h.objs.size).filter λa=>(H a).isSome
def Ao(h:J_)(H:Hp):J_:=YS h (ZO h H)
theorem wj(h:J_)(H:Hp):(Ao h H).objs.size=h.objs.size:=PySem.W.hideAll_size _ _
theorem Ap{o:Obj}(a:I.get? e=Z o)(n:h e=Y):(Ao I h).get? e=Z o:=VD _ a λb=>by have q:(h e).isSome=U:=(Rp.mp b).2;rw[n]at q;simp at q
theorem DW{o:Obj}(a:(Ao I h).get? e=Z o):I.get? e=Z o/\h e=Y:=by have b:I.get? e=Z o:=TD (ZO I h) a;refine⟨b,?_⟩;cases q:h e with|none=>rfl|some x=>have d:e∈ZO I h:=Rp.mpr ⟨Rt.mpr (v_ b),by simp[q]⟩;have z:(Ao I h).get? e=Y:=Sc (ZO I h) d;rw[z]at a;cases a
noncomputable def DX(g h:J_)(b:B):List (B×Obj):=(rl h.objs.size).filterMap λa=>if a=b\/(g.get? a).isSome=U then Y else(h.get? a).map λo=>(a,o)
def rest(g h:J_)(a d:B):List (B×Obj):=(DX g h a).filter λp=>A_ (p.1≠d)
structure Mod(K:d_)(mg:Str->Option D)(base:J_):Prop where
 kin:K.In base
 glob:base.Ns z_ mg
 blt:∃mb,base.Ns builtinsNs mb/\∀x:Str,x≠"__name__"->mb x=R_ x
 nolimit:base.NoLimit
structure C where
 prog:n_
 w:w_
 K:d_
 mg:Str->Option D
 base:J_
 A:xy
 N:List Str
 s₀:g_
 H₀:Hp
 env:Env
 outer:List Env
 stack:List Env
 ex:List B
 fn:Str->Bool
 calm:Bool
 pn:List (B×Obj)xe:D->g_->Prop
noncomputable def frs(l:List Env):List B:=l.filterMap (·.frame)
abbrev C.fs(X:C):List B:=frs X.outer
def Vis(a:RS)(x:Str):Prop:=a.names.lookup x=Z .local\/a.names.lookup x=Z .cell\/a.names.lookup x=Z .free
def Ļ(a:RS)(x:Str):Prop:=a.names.lookup x=Z .local\/a.names.lookup x=Z .cell
def Pw(a:Env)(h:J_)(m:Str->Option D)(x:Str)(u:D):Prop:=(a.kindOf x=Z .local/\m x=Z u)\/((a.kindOf x=Z .cell\/a.kindOf x=Z .free)/\∃c,a.cells.lookup x=Z c/\h.IsCell c (Z u))
structure C.Ok(X:C):Prop where
 mod:Mod X.K X.mg X.base
 kind:X.env.scope.kind=.function
 glob:X.env.globals=z_
 blt:X.env.builtins=builtinsNs
 above:X.s₀.heap.objs.size<=X.env.locals
 inj:∀x y c,X.env.cells.lookup x=Z c->X.env.cells.lookup y=Z c->x=y
 has:∀x,(X.env.kindOf x=Z .cell\/X.env.kindOf x=Z .free)->∃c,X.env.cells.lookup x=Z c
 cab:∀x c,X.fn x=U->X.env.cells.lookup x=Z c->X.s₀.heap.objs.size<=c
 hd:X.calm=U->X.A.handled=Y
 frames:X.A.frames=Z X.stack
 stk:X.stack=X.outer\/(X.stack=X.env::X.outer/\X.env.frame=Z X.env.locals)exf:∀b∈X.ex,b≠X.env.locals/\∀x c,X.env.cells.lookup x=Z c->c≠b
 bs:∀b o,X.base.get? b=Z o->X.s₀.heap.get? b=Z o/\X.H₀ b=Y
 bsz:X.base.objs.size<=X.s₀.heap.objs.size
 noex:∀b o,X.base.get? b=Z o->b∉X.ex
 exfs:∀b∈X.ex,b∉X.fs
 funs:X.s₀.heap.FunFrames X.base X.outer
 frf:∀b∈X.fs,X.H₀ b=Y
structure Ì(X:C)(j':List (B×Obj))(σ:List (Option V))(H:Hp)(s:g_):Prop where
 ok:X.Ok
 os:s.os=X.s₀.os
 bare:VM s.gens
 base:Un X.fs X.ex X.H₀ H X.s₀.heap s.heap
 loc:∃m,s.heap.Ns X.env.locals m/\∀(i:Nat)(x:Str)(v:V),X.N[i]?=Z x->σ[i]?=Z (Z v)->Vis X.env.scope x->∃u,Ü v u/\Pw X.env s.heap m x u
 cell:∀x c,X.env.cells.lookup x=Z c->∃v,s.heap.IsCell c v
 free:H X.env.locals=Y
 freeC:∀x c,X.env.cells.lookup x=Z c->H c=Y
 pin:∀p∈X.pn++j',s.heap.get? p.1=Z p.2/\H p.1=Y/\p.1≠X.env.locals/\p.1∉X.fs/\∀v,p.2.data≠.cell v
 hok:Ċ X.prog X.w H s.heap
 len:σ.length=X.N.length
variable{a:C}
theorem C.Ok.nofr(d:a.Ok){b:B}{o:Obj}(e:a.base.get? b=Z o):b∉a.fs:=λf=>by have:=(d.funs.mem f).1;rw[e]at this;cases this
variable{ζ:List (B×Obj)}{Ä:List (Option V)}
theorem Ì.bs(I:Ì a ζ Ä h f):∀b o,a.base.get? b=Z o->f.heap.get? b=Z o/\h b=Y:=λb o e=>⟨I.base.keep b o (I.ok.bs b o e).1 (I.ok.bs b o e).2 (I.ok.nofr e) (I.ok.noex b o e),I.base.free b o (I.ok.bs b o e).1 (I.ok.bs b o e).2 (I.ok.noex b o e)⟩
theorem Ì.bk(I:Ì a ζ Ä h f):∀b o,a.base.get? b=Z o->f.heap.get? b=Z o:=λb o e=>(I.bs b o e).1
theorem Ì.mod(I:Ì a ζ Ä h f):Mod a.K a.mg a.base:=I.ok.mod
theorem Ì.kIn(I:Ì a ζ Ä h f):a.K.In f.heap:=I.ok.mod.kin.keeps I.bk
theorem Ì.nolimit(I:Ì a ζ Ä h f):f.heap.NoLimit:=I.ok.mod.nolimit.keeps I.bk
theorem Ì.fr(I:Ì a ζ Ä h f):∃m,Fr a.base a.env.locals f.heap m:=let⟨m,b,_⟩:=I.loc;⟨m,b,I.bk,QV I.ok.bsz I.ok.above⟩
theorem Ì.lt(I:Ì a ζ Ä h f):a.env.locals<f.heap.objs.size:=let⟨_,b,_⟩:=I.loc;b.lt
theorem Ì.sz(I:Ì a ζ Ä h f):a.s₀.heap.objs.size<=f.heap.objs.size:=QV I.ok.above (SN I.lt)
theorem Ì.nofs(I:Ì a ζ Ä h f){b:B}(d:f.heap.objs.size<=b):b∉a.fs:=λg=>by obtain⟨_,o,e,_⟩:=I.ok.funs.mem g;exact absurd (QJ (v_ e) (QV I.sz d)) (RQ _)
theorem Ì.cne(I:Ì a ζ Ä h f):∀x c,a.env.cells.lookup x=Z c->c≠a.env.locals:=λx c e z=>by obtain⟨v,o,g,i⟩:=I.cell x c e;obtain⟨m,⟨j,k,n,b,d,_⟩,_⟩:=I.loc;rw[z,b]at g;cases g;rw[d]at i;cases i
theorem Ì.funs(I:Ì a ζ Ä h f):f.heap.FunFrames a.base a.outer:=by
 have all:∀(l:List Env),(∀b∈frs l,b∈a.fs)->a.s₀.heap.FunFrames a.base l->f.heap.FunFrames a.base l:=by intro l;induction l with|nil=>intro _ _;trivial|cons w r m=>intro k t;obtain⟨u,⟨d,o,g,q,p,v⟩,n⟩:=t;have j:d∈a.fs:=k d (by unfold frs;rw[Ut,g];exact q_);obtain⟨y,e⟩:=I.base.slot d o p (I.ok.frf d j) j λz=>I.ok.exfs d z j;exact⟨u,⟨d,_,g,q,e,v⟩,m (λb i=>k b (by unfold frs;rw[Ut,g];exact on _ i)) n⟩
 exact all a.outer (λ_ i=>i) I.ok.funs
theorem Ì.stack(I:Ì a ζ Ä h f):f.heap.FunFrames a.base a.stack:=by
 rcases I.ok.stk with e|⟨e,d⟩;·rw[e];exact I.funs
 ·rw[e];obtain⟨m,b,_⟩:=I.loc;refine .cons (by rw[I.ok.kind];decide) d b ?_ I.funs;exact Vq (QV I.ok.bsz I.ok.above)
theorem Ì.stkSub(I:Ì a ζ Ä h f):∀b∈frs a.stack,b∈a.env.locals::a.fs:=λb d=>by
 rcases I.ok.stk with e|⟨e,g⟩;·rw[e]at d;exact on _ d
 ·rw[e]at d;unfold frs at d;rw[Ut,g]at d;exact d
theorem Ì.stkFree(I:Ì a ζ Ä h f):∀b∈frs a.stack,h b=Y:=λb d=>by
 rcases t_.mp (I.stkSub b d)with e|d;·rw[e];exact I.free
 ·obtain⟨_,o,g,_⟩:=I.ok.funs.mem d;exact I.base.free b o g (I.ok.frf b d) λz=>I.ok.exfs b z d
theorem Ì.step{g':Array Xq}{t':Nat}{d':Drawn}{ch:List B}(g:Ì a ζ Ä h f)(y:∀b∈ch,(b∈a.ex\/a.s₀.heap.objs.size<=b)/\b≠a.env.locals/\(∀x c,a.env.cells.lookup x=Z c->c≠b)/\∀p∈a.pn++ζ,p.1≠b)(A:∀b o,b≠a.env.locals->b∉a.fs->b∉ch->f.heap.get? b=Z o->h b=Y->I.get? b=Z o)(a':∀b o,b≠a.env.locals->b∈a.fs->b∉ch->f.heap.get? b=Z o->h b=Y->∃sl,I.get? b=Z {o with slots:=sl})(t:∀b o,b∉ch->f.heap.get? b=Z o->h b=Y->Ζ b=Y)(b':∀b o,b∉ch->f.heap.get? b=Z o->∃o',I.get? b=Z o')(e':∀b xs,h b=Z (.tup xs)->Ζ b=Z (.tup xs))(k':∀b o u,h b=Z (.frz o u)->Ζ b=Z (.frz o u))(f':∀b ps,h b=Z (.tbl ps)->∃i',Ζ b=Z (.tbl (ps++i')))(ns:∀m,f.heap.Ns a.env.locals m->I.Ns a.env.locals m)(m':Ċ a.prog a.w Ζ I)(hg:VM g'):Ì a ζ Ä Ζ {f with heap:=I,gens:=g',drawn:=d',toks:=t'}:=by
 have c':∀b o,a.s₀.heap.get? b=Z o->b≠a.env.locals:=λb o e=>F_ (QJ (v_ e) g.ok.above);have P:∀b o,a.s₀.heap.get? b=Z o->b∉a.ex->b∉ch:=λb o e j hb=>by
  rcases(y b hb).1 with z|z;·exact j z
  ·exact absurd (QJ (v_ e) z) (RQ _)
 have E:∀x c,a.env.cells.lookup x=Z c->∀v,f.heap.IsCell c v->I.IsCell c v:=λx c e v⟨o,ho,hd⟩=>by
  have w:c∉ch:=λz=>(y c z).2.2.1 x c e rfl;by_cases hc:c∈a.fs;·obtain⟨sl,q⟩:=a' c o (g.cne x c e) hc w ho (g.freeC x c e);exact⟨_,q,hd⟩
  ·exact⟨o,A c o (g.cne x c e) hc w ho (g.freeC x c e),hd⟩
 refine⟨g.ok,g.os,hg,⟨λb o e n hb j=>?_,λb o e n hb j=>?_,λb o e n j=>?_,λb o e j=>?_,λb xs e=>e' b xs (g.base.tups b xs e),λb o xs e=>k' b o xs (g.base.frzs b o xs e),λb ps e=>?_⟩,?_,λx c e=>?_,?_,λx c e=>?_,λp hp=>?_,m',g.len⟩;·exact A b o (c' b o e) hb (P b o e j) (g.base.keep b o e n hb j) (g.base.free b o e n j)
 ·obtain⟨sl,H⟩:=g.base.slot b o e n hb j;obtain⟨l',e2⟩:=a' b _ (c' b o e) hb (P b o e j) H (g.base.free b o e n j);exact⟨l',e2⟩
 ·obtain⟨o',H⟩:=g.base.there b o e j;exact t b o' (P b o e j) H (g.base.free b o e n j)
 ·obtain⟨o',H⟩:=g.base.there b o e j;exact b' b o' (P b o e j) H
 ·obtain⟨m1,H⟩:=g.base.tbls b ps e;obtain⟨m2,e2⟩:=f' b _ H;exact⟨m1++m2,by rw[e2,V7]⟩
 · obtain⟨m,hn,hl⟩:=g.loc;refine⟨m,ns m hn,λi x v H e2 e3=>?_⟩;obtain⟨u,r,l⟩:=hl i x v H e2 e3;refine⟨u,r,?_⟩;rcases l with l|⟨k,c,e,z⟩;·exact .inl l
   ·exact .inr ⟨k,c,e,E x c e _ z⟩
 ·obtain⟨v,z⟩:=g.cell x c e;exact⟨v,E x c e v z⟩
 ·obtain⟨m,⟨o,_,_,ho,_⟩,_⟩:=g.loc;exact t _ o (λz=>(y _ z).2.1 rfl) ho g.free
 ·obtain⟨v,o,ho,hd⟩:=g.cell x c e;exact t c o (λz=>(y c z).2.2.1 x c e rfl) ho (g.freeC x c e)
 ·obtain⟨e,n,ne,nf,d⟩:=g.pin p hp;have w:p.1∉ch:=λz=>(y p.1 z).2.2.2 p hp rfl;exact⟨A p.1 p.2 ne nf w e n,t p.1 p.2 w e n,ne,nf,d⟩
theorem Ì.un{h':J_}{t':Nat}(I:Ì a ζ Ä h f)(u:Un a.fs [] h Ζ f.heap h')(i:Ċ a.prog a.w Ζ h'):Ì a ζ Ä Ζ {f with heap:=h',toks:=t'}:=by obtain⟨m,⟨o,E,H,p,r⟩,_⟩:=id I.loc;obtain⟨w,v⟩:=u.any p I.free (by simp);exact I.step (g':=f.gens) (d':=f.drawn) (ch:=[]) (λ_ z=>nomatch z) (λb o _ g _ e n=>u.keep b o e n g (by simp)) (λb o _ g _ e n=>u.slot b o e n g (by simp)) (λb o _ e n=>u.free b o e n (by simp)) (λb o _ e=>u.there b o e (by simp)) u.tups u.frzs u.tbls (λA t=>by obtain⟨y,j,k,d,q⟩:=t;rw[p]at d;cases d;exact⟨_,j,k,v,q⟩) i I.bare
theorem Ì.call{h':J_}{g':Array Xq}{t':Nat}{d':Drawn}{ch:List B}(I:Ì a ζ Ä h f)(u:Un (frs a.stack) ch h Ζ f.heap h')(k:Ċ a.prog a.w Ζ h')(A:VM g')(i:∀b∈ch,(b∈a.ex\/a.s₀.heap.objs.size<=b)/\b≠a.env.locals/\(∀x c,a.env.cells.lookup x=Z c->c≠b)/\∀p∈a.pn++ζ,p.1≠b):Ì a ζ Ä Ζ {f with heap:=h',gens:=g',drawn:=d',toks:=t'}:=by obtain⟨m,⟨o,es,ep,v,r⟩,_⟩:=id I.loc;obtain⟨H,j⟩:=u.any v I.free λz=>(i _ z).2.1 rfl;exact I.step (ch:=ch) i (λb o j E d e n=>u.keep b o e n (λz=>(t_.mp (I.stkSub b z)).elim j E) d) (λb o _ _ d e n=>u.any e n d) (λb o d e n=>u.free b o e n d) (λb o d e=>u.there b o e d) u.tups u.frzs u.tbls (λm' y=>by obtain⟨P,q,t,g,w⟩:=y;rw[v]at g;cases g;exact⟨_,q,t,j,w⟩) k A
theorem Ì.turned{h':J_}{t':Nat}{it:B}(I:Ì a ζ Ä h f)(k:∀b o,b≠it->f.heap.get? b=Z o->h'.get? b=Z o)(t:h it=Y)(i:it≠a.env.locals)(H:it∈a.ex\/a.s₀.heap.objs.size<=it)(E:∀x c,a.env.cells.lookup x=Z c->c≠it)(A:∀p∈a.pn++ζ,p.1≠it):Ì a ζ Ä h {f with heap:=h',toks:=t'}:=by
 have g:∀b u,h b=Z u->b≠it:=λb u e z=>by rw[z,t]at e;cases e
 refine I.step (g':=f.gens) (d':=f.drawn) (ch:=[it]) (λb y=>?_) (λb o _ _ d e _=>k b o (λz=>d (by simp[z])) e) (λb o _ _ d e _=>⟨o.slots,k b o (λz=>d (by simp[z])) e⟩) (λ_ _ _ _ n=>n) (λb o d e=>⟨o,k b o (λz=>d (by simp[z])) e⟩) (λ_ _ e=>e) (λ_ _ _ e=>e) (λb ps e=>⟨#[],by rw[e];simp⟩) (λm w=>?_) (λb u e=>?_) I.bare
 · have e:b=it:=by simpa using y
   subst e;exact⟨H,i,E,A⟩
 ·obtain⟨o,P,ep,j,r⟩:=w;exact⟨o,P,ep,k _ o (SM i) j,r⟩
 · refine(I.hok b u e).stay (λc v d q=>k c v ?_ q) (λ_ q=>q) λ_ _ q=>q;rcases d with z|z;·rw[z];exact g b u e
   ·exact g c _ z
theorem Ì.tok(I:Ì a ζ Ä h f)(t:Nat):Ì a ζ Ä h {f with toks:=t}:=I.un (h':=f.heap) (t':=t) Un.refl I.hok
theorem Ì.kept{h':J_}{t':Nat}(I:Ì a ζ Ä h f)(k:∀b u,f.heap.get? b=Z u->h'.get? b=Z u):Ì a ζ Ä h {f with heap:=h',toks:=t'}:=I.un (Un.kept k) (I.hok.kept k)
theorem Ì.laid{X:C}{g:List (B×Obj)}{f:List (Option V)}{H:Hp}{s:g_}{h':J_}{a:B}{o:HO}{t':Nat}(I:Ì X g f H s)(k:∀b u,s.heap.get? b=Z u->h'.get? b=Z u)(d:s.heap.objs.size<=a)(e:é X.prog X.w (Ý H a o) h' a o):Ì X g f (Ý H a o) {s with heap:=h',toks:=t'}:=I.un (Un.laid k d (I.hok.fresh d)) (I.hok.laid k d e)
theorem Ì.write{h':J_}{x e:B}{o:HO}{t':Nat}(I:Ì a ζ Ä h f)(i:ZT (h x))(j:e=x\/h e=Z (.own x))(k:∀b u,b≠e->f.heap.get? b=Z u->h'.get? b=Z u)(d:∃u,h'.get? e=Z u)(g:é a.prog a.w (Ý h x o) h' x o):Ì a ζ Ä (Ý h x o) {f with heap:=h',toks:=t'}:=I.un (Un.write i j k d) (I.hok.write i j k d g)
theorem Ì.weak{b:List (Option V)}(I:Ì a ζ Ä h f)(g:b.length=Ä.length)(w:∀(i:Nat)v,b[i]?=Z (Z v)->Ä[i]?=Z (Z v)):Ì a ζ b h f:=⟨I.ok,I.os,I.bare,I.base,let⟨m,e,d⟩:=I.loc;⟨m,e,λi x v n k j=>d i x v n (w i v k) j⟩,I.cell,I.free,I.freeC,I.pin,I.hok,g.trans I.len⟩
theorem Ì.pins_of{pins':List (B×Obj)}(I:Ì a ζ Ä h f)(b:∀p∈pins',f.heap.get? p.1=Z p.2/\h p.1=Y/\p.1≠a.env.locals/\p.1∉a.fs/\∀v,p.2.data≠.cell v):Ì a pins' Ä h f:=⟨I.ok,I.os,I.bare,I.base,I.loc,I.cell,I.free,I.freeC,λp d=>(QS.mp d).elim (λz=>I.pin p (G_ _ z)) (b p),I.hok,I.len⟩
variable{z:List Str}
theorem tV(d:z.Nodup){i j:Nat}{x:Str}(a:z[i]?=Z x)(b:z[j]?=Z x):i=j:=by obtain⟨h,f⟩:=D_.mp a;obtain⟨g,e⟩:=D_.mp b;exact(YG d).mp (f.trans e.symm)
variable{Æ:T_}{E:xy}{ο:D->g_->Prop}{b:Str}{Κ:V}{Ε:D}
theorem wm{Q:Unit->g_->Prop}(I:Ì a ζ Ä h f)(hN:a.N.Nodup)(hi:a.N[d]?=Z b)(P:Ļ a.env.scope b)(r:Ü Κ Ε)(u:∀s',Ì a ζ (Ä.set d (Z Κ)) h s'->(∃i,SK i f.heap s'.heap/\(i=a.env.locals\/a.env.cells.lookup b=Z i))->Q () s')(hf:a.fn b=U\/a.env.scope.names.lookup b=Z .local:=by first|exact .inl rfl|exact .inr rfl|assumption):uk Æ E (storeName a.env b Ε) Q ο f:=by
 obtain⟨m,hn,hl⟩:=id I.loc;have k':(a.env.scope.kind==.class||(a.env.scope.kind==.module&&a.env.locals !=a.env.globals))=L:=by rw[I.ok.kind];rfl
 have b':d<Ä.length:=by rw[I.len];exact(D_.mp hi).1
 have cne:=I.cne;have A:∀{i:B}{h':J_},(∃o,f.heap.get? i=Z o/\h i=Y)->SK i f.heap h'->Ċ a.prog a.w h h':=λ{i h'}ha v g ob e=>by
  obtain⟨_,_,a'⟩:=ha;refine(I.hok g ob e).stay (λc w' H q=>(v.2 c ?_).trans q) (λ_ q=>q) λ_ _ q=>q;rintro rfl;rcases H with rfl|H;·rw[a']at e;cases e
  ·rw[a']at H;cases H
 rcases P with hk|hk
 · refine wpAny_storeName_local hk hn (λh' m' v=>?_) k';obtain⟨oL,_,_,l',_⟩:=id hn;refine u _ ⟨I.ok,I.os,I.bare,⟨λg o e n hb P=>?_,λg o e n hb P=>?_,I.base.free,λg o e P=>?_,I.base.tups,I.base.frzs,I.base.tbls⟩,⟨_,m',λj y v' w e2 e3=>?_⟩,λy c e=>?_,I.free,I.freeC,λp hp=>?_,A ⟨oL,l',I.free⟩ v,by simpa using I.len⟩ ⟨_,v,.inl rfl⟩;·exact(v.2 g (F_ (QJ (v_ e) I.ok.above))).trans (I.base.keep g o e n hb P)
   ·obtain⟨sl,w⟩:=I.base.slot g o e n hb P;exact⟨sl,(v.2 g (F_ (QJ (v_ e) I.ok.above))).trans w⟩
   ·obtain⟨o',w⟩:=I.base.there g o e P;exact⟨o',(v.2 g (F_ (QJ (v_ e) I.ok.above))).trans w⟩
   · by_cases hj:j=d;·subst hj;rw[hi]at w;cases w;rw[QH b']at e2;cases e2;exact⟨Ε,r,.inl ⟨hk,by simp⟩⟩
     · rw[I_ (SM hj)]at e2;obtain⟨u',r',q⟩:=hl j y v' w e2 e3;refine⟨u',r',?_⟩;rcases q with⟨k,e⟩|⟨k,c,e,z⟩;·refine .inl ⟨k,?_⟩;have:y≠b:=λe=>hj (tV hN w (e▸hi));simp[this,e]
       ·exact .inr ⟨k,c,e,z.sameBut v (cne y c e)⟩
   ·obtain⟨w',z⟩:=I.cell y c e;exact⟨w',z.sameBut v (cne y c e)⟩
   ·obtain⟨e,n,ne,nf,t⟩:=I.pin p hp;exact⟨(v.2 p.1 ne).trans e,n,ne,nf,t⟩
 · have d':a.fn b=U:=by
    rcases hf with z|z;·exact z
    ·rw[z]at hk;cases hk
   obtain⟨c,H⟩:=I.ok.has b (.inl hk);obtain⟨w',z⟩:=I.cell b c H;refine wpAny_storeName_cell I.ok.kind hk H z (λh' g' v=>?_);obtain⟨oc,e',i'⟩:=id z;refine u {f with heap:=h'} ⟨I.ok,I.os,I.bare,⟨λg o e n hb P=>?_,λg o e n hb P=>?_,I.base.free,λg o e P=>?_,I.base.tups,I.base.frzs,I.base.tbls⟩,⟨m,hn.sameBut v (SM (cne b c H)),λj y v' w e2 e3=>?_⟩,λy c' e=>?_,I.free,I.freeC,λp hp=>?_,A ⟨oc,e',I.freeC b c H⟩ v,by simpa using I.len⟩ ⟨c,v,.inr H⟩;·exact(v.2 g (F_ (QJ (v_ e) (I.ok.cab b c d' H)))).trans (I.base.keep g o e n hb P)
   ·obtain⟨sl,w⟩:=I.base.slot g o e n hb P;exact⟨sl,(v.2 g (F_ (QJ (v_ e) (I.ok.cab b c d' H)))).trans w⟩
   ·obtain⟨o',w⟩:=I.base.there g o e P;exact⟨o',(v.2 g (F_ (QJ (v_ e) (I.ok.cab b c d' H)))).trans w⟩
   · by_cases hj:j=d;·subst hj;rw[hi]at w;cases w;rw[QH b']at e2;cases e2;exact⟨Ε,r,.inr ⟨.inl hk,c,H,g'⟩⟩
     · rw[I_ (SM hj)]at e2;obtain⟨u',r',q⟩:=hl j y v' w e2 e3;refine⟨u',r',?_⟩;rcases q with q|⟨k,c',e,z'⟩;·exact .inl q
       ·refine .inr ⟨k,c',e,z'.sameBut v ?_⟩;rintro rfl;exact hj (tV hN w (I.ok.inj _ _ _ e H▸hi))
   · by_cases f':c'=c;·subst f';exact⟨_,g'⟩
     ·obtain⟨w2,z2⟩:=I.cell y c' e;exact⟨w2,z2.sameBut v f'⟩
   ·obtain⟨e,n,ne,nf,t⟩:=I.pin p hp;refine⟨(v.2 p.1 ?_).trans e,n,ne,nf,t⟩;intro q;rw[q,e']at e;have q':oc=p.2:=Q4 e;exact t w' (by rw[<-q'];exact i')
theorem tW{Q:Unit->g_->Prop}(I:Ì a ζ Ä h f)(m:a.N.Nodup)(j:a.N[d]?=Z b)(i:Ļ a.env.scope b)(r:Ü Κ Ε)(e:∀g,Ì a ζ (Ä.set d (Z Κ)) h g->Q () g)(k:a.fn b=U\/a.env.scope.names.lookup b=Z .local:=by first|exact .inl rfl|exact .inr rfl|assumption):uk Æ E (storeName a.env b Ε) Q ο f:=wm I m j i r (λg n _=>e g n) k
theorem Ì.call'{s':g_}{ch:List B}(I:Ì a ζ Ä h f)(k:s'.os=f.os)(u:Un (frs a.stack) ch h Ζ f.heap s'.heap)(d:Ċ a.prog a.w Ζ s'.heap)(m:VM s'.gens)(g:∀b∈ch,(b∈a.ex\/a.s₀.heap.objs.size<=b)/\b≠a.env.locals/\(∀x c,a.env.cells.lookup x=Z c->c≠b)/\∀p∈a.pn++ζ,p.1≠b):Ì a ζ Ä Ζ s':=by obtain⟨q,n,o,i,j⟩:=s';have e:j=f.os:=k;subst e;exact I.call (g':=n) (t':=i) (d':=o) u d m g
abbrev XK:=D->Option B->Hp->Prop
abbrev St:=List (Option V)
abbrev VK:=V->Hp->Prop
abbrev TE:=St->Hp->VK->Prop
abbrev TT:=St->Hp->(Bool->Hp->Prop)->Prop
abbrev TA:=St->Hp->(List V->Hp->Prop)->Prop
structure mI where
 nx:St->Hp->Prop
 rt:VK
 bk:St->Hp->Prop:=λ_ _=>False
 ct:St->Hp->Prop:=λ_ _=>False
abbrev TS:=mI->St->Hp->Prop
def EP(X:C)(e:List (B×Obj))(b:St)(Q:VK)(u:D)(d:g_):Prop:=∃v a,Ì X e b a d/\Ü v u/\Q v a
def TP(X:C)(f:List (B×Obj))(d:St)(Q:Bool->Hp->Prop)(b:Bool)(e:g_):Prop:=∃a,Ì X f d a e/\Q b a
def AP(X:C)(g:List (B×Obj))(d:St)(Q:List V->Hp->Prop)(e:List D)(f:g_):Prop:=∃a b,Ì X g d b f/\Ð a e/\Q a b
def SP(X:C)(e:List (B×Obj))(D:mI)(f:Flow)(d:g_):Prop:=match f with|.next=>∃a b,Ì X e a b d/\D.nx a b|.brk=>∃a b,Ì X e a b d/\D.bk a b|.cont=>∃a b,Ì X e a b d/\D.ct a b|.ret u=>∃v a b,Ì X e a b d/\Ü v u/\D.rt v b
def PE(X:C)(e:u_)(t:TE):Prop:=∀(b:List (B×Obj))(s:g_)(a:St)(H:Hp)(Q:VK),Ì X b a H s->t a H Q->uk (x_ X.prog X.w) X.A (eval e X.env) (EP X b a Q) X.xe s
def PT(X:C)(e:u_)(t:TT):Prop:=∀(b:List (B×Obj))(s:g_)(a:St)(H:Hp)(Q:Bool->Hp->Prop),Ì X b a H s->t a H Q->uk (x_ X.prog X.w) X.A (isTrue e X.env (eval e X.env)) (TP X b a Q) X.xe s
def PW(X:C)(e:u_)(t:TT):Prop:=∀(a:Sem D)(d:List (B×Obj))(s:g_)(b:St)(H:Hp)(Q:Bool->Hp->Prop),Ì X d b H s->t b H Q->uk (x_ X.prog X.w) X.A (isTrue e X.env a) (TP X d b Q) X.xe s
variable{g:u_}
theorem PW.pt{t:TT}(h:PW a g t):PT a g t:=h _
def PA(X:C)(d:List u_)(t:TA):Prop:=∀(pos:Pos)(b:List (B×Obj))(s:g_)(a:St)(H:Hp)(Q:List V->Hp->Prop),Ì X b a H s->t a H Q->uk (x_ X.prog X.w) X.A (spliced (O_ pos (k_ d X.env))) (AP X b a Q) X.xe s
def PS(X:C)(d:Re)(t:TS):Prop:=∀(b:List (B×Obj))(s:g_)(a:St)(H:Hp)(D:mI),Ì X b a H s->t D a H->uk (x_ X.prog X.w) X.A (exec d X.env) (SP X b D) X.xe s
def ķ(X:C)(d:List Re)(t:TS):Prop:=∀(b:List (B×Obj))(s:g_)(a:St)(H:Hp)(D:mI),Ì X b a H s->t D a H->uk (x_ X.prog X.w) X.A (execs d X.env) (SP X b D) X.xe s
theorem â{t:Sem υ}{Q b:υ->g_->Prop}(h:uk Æ E t Q ο f)(d:∀a f,Q a f->b a f):uk Æ E t b ο f:=QX h d λ_ _ x=>x
noncomputable def mJ(i:Nat):TE:=λa H Q=>∃v,a[i]?=Z (Z v)/\Q v H
noncomputable def tC(v:V):TE:=λ_ H Q=>Q v H
variable{o:Pos}
theorem wn(A:a.N[d]?=Z b)(t:Vis a.env.scope b)(j:(b==("__debug__":Str))=L:=by decide)(k:(b==("__classdict__":Str))=L:=by decide):PE a (.Name b o) (mJ d):=by
 intro q s p H Q I h;obtain⟨v,e,h⟩:=h;obtain⟨m,w,z⟩:=I.loc;obtain⟨u,r,l⟩:=z d b v A e t;have i:EP a q p Q u s:=⟨v,H,I,r,h⟩;rcases l with⟨g,y⟩|⟨g,c,n,f⟩;·exact wpAny_Name (wpAny_loadName_local I.ok.kind g w y i) j
 · rcases g with g|g;·exact wpAny_Name (wpAny_loadName_cell I.ok.kind g n f i) j
   ·exact wpAny_Name (wpAny_loadName_free I.ok.kind g n f i k) j
theorem HS{i j b}:PE a (.Constant (.int i) j b) (tC (.int i)):=λ_ _ _ H _ I h=>wpAny_Constant_int ⟨.int i,H,I.tok _,⟨_,rfl⟩,h⟩
theorem MK{b j d}:PE a (.Constant (.bool b) j d) (tC (.bl b)):=λ_ _ _ H _ I h=>Constant_bool ⟨.bl b,H,I,rfl,h⟩
theorem HU{j b}:PE a (.Constant .none j b) (tC .non):=λ_ _ _ H _ I h=>Constant_none ⟨.non,H,I,rfl,h⟩
theorem CS{x j b}:PE a (.Constant (.str x) j b) (tC (.str x)):=λ_ _ _ H _ I h=>Calls.Constant_str ⟨.str x,H,I.tok _,⟨_,rfl⟩,h⟩
def Gl(X:C)(x:Str):Prop:=X.env.kindOf x=Z .globalImplicit
variable{Φ:St}{Å:D->g_->Prop}
theorem kt(I:Ì a ζ Φ h f)(g:Gl a b)(e:a.mg b=Z Ε)(d:Å Ε f)(i:(b==("__debug__":Str))=L:=by decide):uk (x_ a.prog a.w) a.A (eval (.Name b o) a.env) Å ο f:=VX I.ok.kind g (Calls.loadGlobal_global (by rw[I.ok.glob];exact I.mod.glob.keeps I.bk) e d) i
theorem gD(I:Ì a ζ Φ h f)(j:Gl a b)(i:a.mg b=Y)(e:R_ b=Z Ε)(d:Å Ε f)(g:b≠"__name__":=by decide)(k:(b==("__debug__":Str))=L:=by decide):uk (x_ a.prog a.w) a.A (eval (.Name b o) a.env) Å ο f:=by obtain⟨p,n,m⟩:=I.mod.blt;exact VX I.ok.kind j (Calls.loadGlobal_builtin (by rw[I.ok.glob];exact I.mod.glob.keeps I.bk) i (by rw[I.ok.blt];exact n.keeps I.bk) ((m b g).trans e) d) k
theorem wo(e:Gl a b)(d:a.mg b=Z Ε)(r:Ü Κ Ε)(f:(b==("__debug__":Str))=L:=by decide):PE a (.Name b o) (tC Κ):=λ_ _ _ H _ I h=>kt I e d ⟨Κ,H,I,r,h⟩ f
theorem DY(g:Gl a b)(f:a.mg b=Y)(d:R_ b=Z Ε)(r:Ü Κ Ε)(e:b≠"__name__":=by decide)(i:(b==("__debug__":Str))=L:=by decide):PE a (.Name b o) (tC Κ):=λ_ _ _ H _ I h=>gD I g f d ⟨Κ,H,I,r,h⟩ e i
noncomputable def tB(t:TE):TT:=λa H Q=>t a H λx b=>∃c,x=.bl c/\Q c b
variable{Á:TE}
theorem HV(h:PE a g Á)(m:∀b,isTrue g a.env b=(do let v<-b;XD g.pos;Um [v] (truthy v)):=by intro _;rfl):PT a g (tB Á):=by intro j s e H Q I k;refine isTrue_plain (â (h j s e H _ I k) λv p⟨x,o,n,f,i⟩=>?_) (m _);obtain⟨d,rfl,q⟩:=i;cases f;exact SA ⟨o,n,q⟩
noncomputable def Px(t u:TT):TT:=λa H Q=>t a H λc b=>if c=U then u a b Q else Q L b
noncomputable def tOr(t u:TT):TT:=λa H Q=>t a H λc b=>if c=U then Q U b else u a b Q
noncomputable def Py(t:TT):TT:=λa H Q=>t a H λc b=>Q (!c) b
theorem DZ{b:TT}(i:PT a g b):PW a (.BoolOp .And [g] o) b:=by intro j f s d H Q I h;refine isTrue_and (â (i f s d H Q I h) λc k e=>?_);cases c with|true=>exact isTrue_and_nil e|false=>exact e
theorem CU{b:TT}(i:PT a g b):PW a (.BoolOp .Or [g] o) b:=by intro j f s d H Q I h;refine isTrue_or (â (i f s d H Q I h) λc k e=>?_);cases c with|false=>exact isTrue_or_nil e|true=>exact e
variable{P:u_}{t:List u_}
theorem HW{e b:TT}(q:PT a g e)(p:PW a (.BoolOp .And (P::t) o) b):PW a (.BoolOp .And (g::P::t) o) (Px e b):=by intro m i s d H Q I h;refine isTrue_and (â (q i s d H _ I h) λc n⟨k,j,f⟩=>?_);cases c with|true=>exact p m i n d k Q j f|false=>exact⟨k,j,f⟩
theorem HX{e b:TT}(q:PT a g e)(p:PW a (.BoolOp .Or (P::t) o) b):PW a (.BoolOp .Or (g::P::t) o) (tOr e b):=by intro m i s d H Q I h;refine isTrue_or (â (q i s d H _ I h) λc n⟨k,j,f⟩=>?_);cases c with|true=>exact⟨k,j,f⟩|false=>exact p m i n d k Q j f
theorem HY{b:TT}(f:PT a g b):PT a (.UnaryOp .Not g o) (Py b):=by intro e s d H Q I h;exact isTrue_not (f e s d H (λc i=>Q (!c) i) I h)
noncomputable def ML(e d:TE):TE:=λa H Q=>e a H λx b=>∃c,x=.bl c/\if c=U then d a b Q else Q (.bl L) b
noncomputable def Pz(e d:TE):TE:=λa H Q=>e a H λx b=>∃c,x=.bl c/\if c=U then Q (.bl U) b else d a b Q
noncomputable def MM(b:TE):TE:=λa H Q=>b a H λx d=>∃c,x=.bl c/\Q (.bl (!c)) d
theorem HZ{d}(h:PE a g Á):PE a (.BoolOp d [g] o) Á:=λe s b H Q I f=>BoolOp_one (h e s b H Q I f)
theorem Ia{e:TE}(p:PE a g Á)(n:PE a (.BoolOp .And (P::t) o) e):PE a (.BoolOp .And (g::P::t) o) (ML Á e):=by intro f s d H Q I h;refine BoolOp_and (â (p f s d H _ I h) λv k⟨x,j,i,m,b⟩=>?_);obtain⟨c,rfl,b⟩:=b;cases m;refine SA ?_;cases c with|true=>exact n f k d j Q i b|false=>exact⟨.bl L,j,i,rfl,b⟩
theorem MN{e:TE}(p:PE a g Á)(n:PE a (.BoolOp .Or (P::t) o) e):PE a (.BoolOp .Or (g::P::t) o) (Pz Á e):=by intro f s d H Q I h;refine BoolOp_or (â (p f s d H _ I h) λv k⟨x,j,i,m,b⟩=>?_);obtain⟨c,rfl,b⟩:=b;cases m;refine SA ?_;cases c with|false=>exact n f k d j Q i b|true=>exact⟨.bl U,j,i,rfl,b⟩
theorem Ib(i:PE a g Á):PE a (.UnaryOp .Not g o) (MM Á):=by intro f s d H Q I h;refine UnaryOp_ (â (i f s d H _ I h) λv m⟨x,k,j,e,b⟩=>?_);obtain⟨c,rfl,b⟩:=b;cases e;exact not_of (SA ⟨.bl (!c),k,j,rfl,b⟩)
noncomputable def tIf(t:TT)(e d:TE):TE:=λa H Q=>t a H λc b=>if c=U then e a b Q else d a b Q
theorem Aq{f:TE}{i:TT}{c:u_}(p:PT a c i)(r:PE a g Á)(q:PE a P f):PE a (.IfExp c g P o) (tIf i Á f):=by intro e s b H Q I h;refine wpAny_IfExp (â (p e s b H _ I h) λd j⟨n,m,k⟩=>?_);cases d with|true=>exact r e j b n Q m k|false=>exact q e j b n Q m k
def ô(K:d_)(H:Hp)(a:B)(d:List V):Prop:=Rd H a (.lst d)\/∃(o:Obj)(b:Array D)(n:Nat),K.lookup a=Z o/\o.cls=.type "list"/\o.dict=Y/\o.data=.seq b n/\b.size<=sizeLine/\Ð d b.toList
def ü(K:d_)(H:Hp)(a:B)(d:List V):Prop:=Rd H a (.tup d)\/∃(o:Obj)(b:Array D)(n:Nat),K.lookup a=Z o/\o.cls=.type "tuple"/\o.data=.seq b n/\b.size<=sizeLine/\Ð d b.toList
noncomputable def PB:D->Option V|.none=>Z .non|.bool b=>Z (.bl b)|.int i _=>Z (.int i)|.str x _=>Z (.str x)|.bytes b _=>Z (.byt b)|.float b _=>Z (.flt b)|.ref a=>Z (.ref a)|.type n=>Z (.ty n)|_=>Y
theorem Ü.abs(r:Ü Κ Ε):PB Ε=Z Κ:=by cases Κ with|non=>cases r;rfl|bl _=>cases r;rfl|int _=>obtain⟨t,rfl⟩:=r;rfl|str _=>obtain⟨t,rfl⟩:=r;rfl|byt _=>obtain⟨t,rfl⟩:=r;rfl|flt _=>obtain⟨t,rfl⟩:=r;rfl|ref _=>cases r;rfl|ty _=>cases r;rfl
theorem Ü.inj{y:V}(r:Ü Κ Ε)(q:Ü y Ε):Κ=y:=Q4 (r.abs.symm.trans q.abs)
theorem Ð.inj:∀{b a:List V}{d:List D},Ð b d->Ð a d->b=a|_,_,_,.nil,.nil=>rfl|_,_,_,.cons r t,.cons f e=>by rw[r.inj f,Ð.inj t e]
variable{u:d_}
theorem ô.of(a:h e=Z (.lst μ)):ô u h e μ:=.inl (.inl a)
theorem ü.of(a:h e=Z (.tup μ)):ü u h e μ:=.inl (.inl a)
theorem Ì.list(I:Ì a ζ Φ h f)(b:ô a.K h e μ):∃g:List D,Ð μ g/\PlainL f.heap e g.toArray/\μ.length<=sizeLine:=by
 rcases b with b|⟨o,g,n,j,m,k,i,p,r⟩;·obtain⟨z,g,n,r,d⟩:=b.ok I.hok;exact⟨g,r,⟨_,n,d,rfl,rfl,rfl⟩,z⟩
 ·refine⟨g.toList,r,⟨o,n,I.kIn e o j,m,k,by simpa using i⟩,?_⟩;have d:=r.length;simp only[Rb]at d;omega
theorem Ì.tuple(I:Ì a ζ Φ h f)(b:ü a.K h e μ):∃g:List D,Ð μ g/\Zd f.heap e g.toArray/\μ.length<=sizeLine:=by
 rcases b with b|⟨o,g,n,j,k,i,m,r⟩;·obtain⟨z,g,r,p⟩:=b.ok I.hok;exact⟨g,r,p,z⟩
 ·refine⟨g.toList,r,⟨o,I.kIn e o j,k,n,by simpa using i⟩,?_⟩;have d:=r.length;simp only[Rb]at d;omega
theorem Ì.list_inj{k:List V}(I:Ì a ζ Φ h f)(b:ô a.K h e μ)(t:ô a.K h e k):μ=k:=by
 obtain⟨j,r,⟨o,n,g,_,_,d⟩,_⟩:=I.list b;obtain⟨i,q,⟨v,w,m,_,_,p⟩,_⟩:=I.list t;rw[g]at m;cases m;rw[d]at p;injection p with u _;have:j=i:=by simpa using congrArg U6 u
 subst this;exact r.inj q
theorem Ì.tuple_inj{k:List V}(I:Ì a ζ Φ h f)(b:ü a.K h e μ)(t:ü a.K h e k):μ=k:=by
 obtain⟨j,r,⟨o,g,_,n,d⟩,_⟩:=I.tuple b;obtain⟨i,q,⟨v,m,_,w,p⟩,_⟩:=I.tuple t;rw[g]at m;cases m;rw[d]at p;injection p with u _;have:j=i:=by simpa using congrArg U6 u
 subst this;exact r.inj q
abbrev C.wish(X:C)(E:D->g_->Prop):C:={X with xe:=E}
abbrev C.nox(X:C):C:=X.wish λ_ _=>False
theorem C.Ok.wish(b:a.Ok)(E:D->g_->Prop):(a.wish E).Ok:=⟨b.mod,b.kind,b.glob,b.blt,b.above,b.inj,b.has,b.cab,b.hd,b.frames,b.stk,b.exf,b.bs,b.bsz,b.noex,b.exfs,b.funs,b.frf⟩
theorem C.Ok.unwish(b:(a.wish ο).Ok):a.Ok:=⟨b.mod,b.kind,b.glob,b.blt,b.above,b.inj,b.has,b.cab,b.hd,b.frames,b.stk,b.exf,b.bs,b.bsz,b.noex,b.exfs,b.funs,b.frf⟩
theorem Ì.wish(I:Ì a ζ Φ h f)(E:D->g_->Prop):Ì (a.wish E) ζ Φ h f:=⟨I.ok.wish E,I.os,I.bare,I.base,I.loc,I.cell,I.free,I.freeC,I.pin,I.hok,I.len⟩
theorem Ì.unwish(I:Ì (a.wish ο) ζ Φ h f):Ì a ζ Φ h f:=⟨I.ok.unwish,I.os,I.bare,I.base,I.loc,I.cell,I.free,I.freeC,I.pin,I.hok,I.len⟩
theorem SP.unwish{d:mI}{b:Flow}(h:SP (a.wish ο) ζ d b f):SP a ζ d b f:=by cases b with|next=>obtain⟨e,g,I,q⟩:=h;exact⟨e,g,I.unwish,q⟩|brk=>obtain⟨e,g,I,q⟩:=h;exact⟨e,g,I.unwish,q⟩|cont=>obtain⟨e,g,I,q⟩:=h;exact⟨e,g,I.unwish,q⟩|ret u=>obtain⟨v,e,g,I,r,q⟩:=h;exact⟨v,e,g,I.unwish,r,q⟩
theorem PE.nox(h:PE a.nox g Á):PE a g Á:=λd s b H Q I e=>QX (h d s b H Q (I.wish _) e) (λ_ _⟨v,i,f,r,q⟩=>⟨v,i,f.unwish,r,q⟩) λ_ _ z=>QN z
theorem PT.nox{t:TT}(h:PT a.nox g t):PT a g t:=λd s b H Q I e=>QX (h d s b H Q (I.wish _) e) (λ_ _⟨i,f,q⟩=>⟨i,f.unwish,q⟩) λ_ _ z=>QN z
variable{Ξ:List Re}
theorem ķ.nox{t:TS}(h:ķ a.nox Ξ t):ķ a Ξ t:=λd s b H D I e=>QX (h d s b H D (I.wish _) e) (λ_ _ q=>q.unwish) λ_ _ z=>QN z
noncomputable def MO:TS:=λD a H=>D.nx a H
noncomputable def PC(t u:TS):TS:=λD a H=>t {D with nx:=u D} a H
theorem lB:ķ a [] MO:=λ_ _ b H _ I h=>Ux ⟨b,H,I,h⟩
variable{τ:Re}
theorem cL{t u:TS}(j:PS a τ t)(i:ķ a Ξ u):ķ a (τ::Ξ) (PC t u):=by intro d s e H D I h;refine Wm (â (j d s e H {D with nx:=u D} I h) λf g q=>?_);cases f with|next=>obtain⟨b,m,k,q⟩:=q;exact i d g b m D k q|ret v=>exact q|brk=>exact q|cont=>exact q
theorem ku{t:TS}(e:PS a τ t):ķ a [τ] t:=by intro d s b H D I h;refine Wm (â (e d s b H D I h) λf g q=>?_);cases f with|next=>exact Ux q|ret v=>exact q|brk=>exact q|cont=>exact q
theorem Ì.quiet(I:Ì a ζ Φ h f):interactive a.env=L:=by simp[interactive,I.ok.kind]
noncomputable def MP(b:TE):TS:=λD a H=>b a H λ_ d=>D.nx a d
theorem lC(i:PE a g Á)(f:Q8 g Y o.line a.env=pure L:=by rfl):PS a (.Expr g o) (MP Á):=by intro e s b H D I h;exact Xg (â (i e s b H _ I h) λv m⟨x,k,j,n,d⟩=>⟨b,k,j,d⟩) I.quiet f
noncomputable def OO(b:TE):TS:=λD a H=>b a H D.rt
theorem pJ(i:PE a g Á):PS a (.Return (Z g) o) (OO Á):=by intro f s b H D I h;exact wpAny_Return_some (â (i f s b H _ I h) λv m⟨x,k,j,d,e⟩=>⟨x,b,k,j,d,e⟩)
noncomputable def PD(c:TT)(t u:TS):TS:=λD a H=>c a H λb d=>if b=U then t D a d else u D a d
theorem wp{t u:TS}{b:List Re}{i:TT}(p:PT a g i)(r:ķ a Ξ t)(q:ķ a b u):PS a (.If g Ξ b o) (PD i t u):=by intro f s e H D I h;refine wpAny_If (â (p f s e H _ I h) λd j⟨n,m,k⟩=>?_);cases d with|true=>exact r f j e n D m k|false=>exact q f j e n D m k
noncomputable def Ic:TS:=λ_ _ _=>False
theorem wq:ķ a Ξ Ic:=λ_ _ _ _ _ _ h=>h.elim
abbrev TG:=V->St->Hp->(St->Hp->Prop)->Prop
abbrev Ũ:=List V->St->Hp->(St->Hp->Prop)->Prop
def PG(X:C)(a:u_)(t:TG):Prop:=∀(e:List (B×Obj))(s:g_)(d:St)(H:Hp)(v:V)(u:D)(Q:St->Hp->Prop),Ì X e d H s->Ü v u->t v d H Q->uk (x_ X.prog X.w) X.A (S4 a X.env u) (λ_ g=>∃b f,Ì X e b f g/\Q b f) X.xe s
def Œ(X:C)(h:List u_)(t:Ũ):Prop:=∀(f:List (B×Obj))(s:g_)(b:St)(H:Hp)(d:List V)(e:List D)(Q:St->Hp->Prop),Ì X f b H s->Ð d e->t d b H Q->uk (x_ X.prog X.w) X.A (assignInOrder ((QY h X.env).map (·.2)) e) (λ_ i=>∃a g,Ì X f a g i/\Q a g) X.xe s
abbrev MQ:=V->V->V->Hp->(Hp->Prop)->Prop
def OP(X:C)(t:MQ):Prop:=∀(d:List (B×Obj))(s:g_)(a:St)(H:Hp)(o i v:V)(b e u:D)(Q:Hp->Prop),Ì X d a H s->Ü o b->Ü i e->Ü v u->t o i v H Q->uk (x_ X.prog X.w) X.A (setItem b e u) (λ_ g=>∃f,Ì X d a f g/\Q f) X.xe s
noncomputable def wt(i:Nat):TG:=λv a H Q=>Q (a.set i (Z v)) H
theorem gX(i:a.N.Nodup)(f:a.N[d]?=Z b)(e:Ļ a.env.scope b)(g:a.fn b=U\/a.env.scope.names.lookup b=Z .local:=by first|exact .inl rfl|exact .inr rfl|assumption):PG a (.Name b o) (wt d):=by intro n s k H v u Q I r h;exact wpAny_assign_Name (tW I i f e r (λm j=>⟨_,H,j,h⟩) g)
noncomputable def PF:Ũ:=λb a H Q=>b=[]/\Q a H
noncomputable def MR(t:TG)(u:Ũ):Ũ:=λd b H Q=>∃v r,d=v::r/\t v b H λa e=>u r a e Q
theorem wu:Œ a [] PF:=by intro g s b H d f Q I r h;obtain⟨e,h⟩:=h;subst e;cases r;exact assignInOrder_nil ⟨b,H,I,h⟩
theorem oa{b:TG}{u:Ũ}(o:PG a g b)(n:Œ a t u)(m:(QY (g::t) a.env).map (·.2)=S4 g a.env::(QY t a.env).map (·.2):=by rfl):Œ a (g::t) (MR b u):=by intro e s f H y A Q I r h;obtain⟨v,z,p,h⟩:=h;subst p;cases r with|cons r j=>rw[m];refine assignInOrder_cons (â (o e s f H _ _ _ I r h) λ_ i⟨d,w,q,k⟩=>?_);exact n e i d w _ _ Q q j k
noncomputable def PH(K:d_)(n:Nat)(t:Ũ):TG:=λv d H Q=>∃a b,v=.ref a/\ü K H a b/\b.length=n/\t b d H Q
variable{r:Nat}
theorem CV{f:Ũ}(hc:a.calm=U)(h:Œ a t f)(E:(QY t a.env).length=r:=by rfl)(m:(QY t a.env).findIdx? (·.1)=Y:=by rfl):PG a (.Tuple t d o) (PH a.K r f):=by intro q s n H v u Q I g k;obtain⟨j,w,e1,A,P,k⟩:=k;subst e1;cases g;obtain⟨a',p,z,hz⟩:=I.tuple A;refine assign_Tuple_tuple (I.ok.hd hc) z (by simp[E,<-P,p.length]) m λh' y=>?_;have I1:Ì a q n H {s with heap:=h'}:=I.kept (t':=s.toks) λb i e=>y b i (F_ (v_ e)) e;exact h q _ n H w _ Q I1 (by simpa using p) k
noncomputable def PJ(b d:TE)(t:MQ):TG:=λv a H Q=>b a H λo g=>d a g λi f=>t o i v f λe=>Q a e
theorem Ie{i:TE}{t:MQ}(A:PE a g Á)(E:PE a P i)(z:OP a t)(ha:∀v,S4 (.Subscript g P o) a.env v=(do
 let b<-Um [v] (eval g a.env)let d<-Um [v,b] (eval P a.env)XD o
 Um [v,b,d] (setItem b d v)release [v,b,d] []):=by intro _;rfl):PG a (.Subscript g P o) (PJ Á i t):=by intro f s e H v u Q I r h;rw[ha];refine e_ (Rv (â (A f s e H _ I h) λb k⟨x,H1,I1,n,w⟩=>?_));refine e_ (Rv (â (E f k e H1 _ I1 w) λd j⟨y,H2,I2,m,q⟩=>?_));refine e_ (We (e_ (Rv (â (z f j e H2 x y v b d u _ I2 n m r q) λ_ s3⟨H3,I3,p⟩=>?_))));exact wpAny_release ⟨e,H3,I3,p⟩
noncomputable def OQ(b:TE)(g:TG):TS:=λD a H=>b a H λx d=>g x a d D.nx
theorem CW{b:TG}(p:PE a P Á)(n:PG a g b)(m:XV [g] P o.line a.env=pure L:=by rfl)(k:XX [g] P a.env=pure Y:=by rfl)(r:(QY [g] a.env).map (·.2)=[S4 g a.env]:=by rfl):PS a (.Assign [g] P o) (OQ Á b):=by intro e s d H D I h;refine wpAny_Assign_stores (â (p e s d H _ I h) λv f⟨x,u,t,i,j⟩=>?_) m k;rw[r];exact â (n e f d u x v _ t i j) λ_ w q=>q
variable{w:Pos}
theorem mY(r:a.N.Nodup)(n:a.N[d]?=Z b)(k:Ļ a.env.scope b)(q:PE a g Á)(m:Q8 g (Z (.Name b w)) o.line a.env=pure L:=by rfl)(p:a.fn b=U\/a.env.scope.names.lookup b=Z .local:=by first|exact .inl rfl|exact .inr rfl|assumption):PS a (.Assign [.Name b w] g o) (OQ Á (wt d)):=by intro j s e H D I h;refine wpAny_Assign_Name (â (q j s e H _ I h) λv E⟨y,z,u,f,i⟩=>?_) m;exact tW u r n k f (λA t=>⟨_,z,t,i⟩) p
structure It where
 go:Nat->Hp->Prop
 yld:Nat->Hp->V->Hp->Prop
 stop:Nat->Hp->Prop
def rL(X:C)(a:List (B×Obj))(H:Hp)(b:B):Prop:=H b=Y/\b≠X.env.locals/\b∉X.fs/\(b∈X.ex\/X.s₀.heap.objs.size<=b)/\(∀x c,X.env.cells.lookup x=Z c->c≠b)/\∀p∈X.pn++a,p.1≠b
theorem Ì.fpOk(I:Ì a ζ Φ h f)(d:f.heap.objs.size<=e)(i:Ζ e=Y):rL a ζ Ζ e:=by
 refine⟨i,Td (QJ I.lt d),I.nofs d,.inr (QV I.sz d),λx c b z=>?_,λp g z=>?_⟩;·obtain⟨v,q⟩:=I.cell x c b;exact absurd (QJ q.lt (by rw[z];exact d)) (RQ _)
 ·exact absurd (QJ (v_ (I.pin p g).1) (by rw[z];exact d)) (RQ _)
structure Aa(P:n_)(w:w_)(K:d_)(tg:u_)(J:It)(fp:List B)(it:B)(tn:Nat->J_->Prop):Prop where
 mem:it∈fp
 obj:∀i h,tn i h->∀b∈fp,∃o,h.get? b=Z o/\∀v,o.data≠.cell v
 keep:∀i h h',tn i h->(∀b∈fp,∀o,h.get? b=Z o->h'.get? b=Z o)->tn i h'
 item:∀(X:C),X.prog=P->X.w=w->X.K=K->X.calm=U->∀(i:Nat)(j':List (B×Obj))(s:g_)(σ:St)(H:Hp)(E:D->g_->Prop),Ì X j' σ H s->(∀b∈fp,rL X j' H b)->tn i s.heap->J.go i H->uk (x_ P w) X.A (TX (.ref it)) (λr s1=>∃u,r=Z u/\uk (x_ P w) X.A (Vx tg (.ref it) u) (λ_ s2=>∃x H',Ì X j' σ H' s2/\Ü x u/\J.yld i H x H'/\tn (i+1) s2.heap/\∀b∈fp,H' b=Y) E s1) E s
 done:∀(X:C),X.prog=P->X.w=w->X.K=K->X.calm=U->∀(i:Nat)(j':List (B×Obj))(s:g_)(σ:St)(H:Hp)(E:D->g_->Prop),Ì X j' σ H s->(∀b∈fp,rL X j' H b)->tn i s.heap->J.stop i H->uk (x_ P w) X.A (TX (.ref it)) (λr s1=>r=Y/\Ì X j' σ H s1) E s
 self:∀(A:xy)(i:Nat)(s:g_)(Q:D->g_->Prop)(E:D->g_->Prop),tn i s.heap->Q (.ref it) s->uk (x_ P w) A (X3 (.ref it)) Q E s
abbrev TI:=St->Hp->(It->Hp->Prop)->Prop
def PIE(X:C)(g:List (B×Obj))(i:St)(j:u_)(R:It->Hp->Prop)(d:D)(f:g_):Prop:=∃(it:B)(h:List B)(e:Nat->J_->Prop)(J:It)(a:Hp),d=.ref it/\Ì X g i a f/\Aa X.prog X.w X.K j J h it e/\e 0 f.heap/\(∀b∈h,rL X g a b)/\R J a
def PI(X:C)(f a:u_)(e:TI):Prop:=∀(d:List (B×Obj))(s:g_)(b:St)(H:Hp)(R:It->Hp->Prop),Ì X d b H s->e b H R->uk (x_ X.prog X.w) X.A (eval a X.env) (λv g=>uk (x_ X.prog X.w) X.A (X3 v) (PIE X d b f R) X.xe g) X.xe s
variable{Δ:Array D}
theorem Ar{o:Obj}{n:String}{Q:Unit->g_->Prop}(b:f.heap.get? e=Z o)(j:o.cls=.type n)(i:o.data=.fields Δ)(d:["enumerate","zip","dict_itemiterator","dict_reverseitemiterator","odict_iterator","itertools.zip_longest","itertools.pairwise"].contains n=L)(a:Q () f):uk Æ E (Vx g (.ref e) Ε) Q ο f:=by unfold Vx;cases g<;>first|exact m_ a|(cases Ε<;>first|exact m_ a|(refine e_ (wpAny_load b ?_);rw[j,i];show uk Æ E (if(["enumerate","zip","dict_itemiterator","dict_reverseitemiterator","odict_iterator","itertools.zip_longest","itertools.pairwise"].contains n&&Δ[0]?==Z (RY _))=U then _ else _) Q ο f;rw[if_neg (by intro h;rw[d,Bool.false_and]at h;cases h)];exact m_ a))
noncomputable def ŧ(K:d_)(a:B):It:=⟨λi H=>∃b x,ô K H a b/\b[i]?=Z x,λi H x d=>d=H/\∀b,ô K H a b->b[i]?=Z x,λi H=>∃b,ô K H a b/\b.length<=i⟩
noncomputable def Z1(K:d_)(a:B):It:=⟨λi H=>∃b x,ü K H a b/\b[i]?=Z x,λi H x d=>d=H/\∀b,ü K H a b->b[i]?=Z x,λi H=>∃b,ü K H a b/\b.length<=i⟩
noncomputable def Zq(a:Int)(n:Nat):It:=⟨λi _=>i<n,λi H x b=>b=H/\x=.int (a+i),λi _=>n<=i⟩
theorem lD(a n:B):Aa p m u g (ŧ u a) [n] n (λi h=>h.IsListIter n a i)where
 mem:=by simp
 obj:=λi h st b q=>by
  have e:b=n:=by simpa using q
  subst e;obtain⟨o,e,c,d⟩:=st;exact⟨o,e,λv z=>by rw[d]at z;cases z⟩
 keep:=λi h y st k=>st.at λo e=>k n (by simp) o e;item:=by intro X hP hw hK hc i j' s σ H E I w st hg;subst hP hw hK;obtain⟨xs,x,t,P⟩:=hg;obtain⟨a',A,f,hz⟩:=I.list t;obtain⟨j,hu,ru⟩:=A.get P;obtain⟨f0,f1,Q,f3,f4,f5⟩:=w n (by simp);refine wpAny_pyNext_list_item st f.isList (x:=j) (by simpa using hu) λy r sb=>?_;have I1:Ì X j' σ H {s with heap:=y}:=I.turned (t':=s.toks) (λb o q e=>(sb.2 b q).trans e) f0 f1 f3 f4 f5;obtain⟨o,e,c,d⟩:=id r;exact⟨j,rfl,Ar (f:={s with heap:=y}) e c d (by decide) ⟨x,H,I1,ru,⟨rfl,λys hy=>by rw[I.list_inj hy t];exact P⟩,r,λb q=>(w b q).1⟩⟩
 done:=by intro X hP hw hK hc i j' s σ H E I w st hg;subst hP hw hK;obtain⟨xs,t,P⟩:=hg;obtain⟨a',A,f,hz⟩:=I.list t;obtain⟨f0,f1,Q,f3,f4,f5⟩:=w n (by simp);have hl:=A.length;exact wpAny_pyNext_list_end (I.ok.hd hc) st f.isList (by simp;omega) λy eb=>⟨rfl,I.turned (t':=s.toks) (λb o q e=>eb b o q e) f0 f1 f3 f4 f5⟩
 self:=λ_ _ _ _ _ st h=>wpAny_pyIter_listiter st h
theorem u3(a n:B):Aa p m u g (Z1 u a) [n] n (λi h=>h.IsTupleIter n a i)where
 mem:=by simp
 obj:=λi h st b q=>by
  have e:b=n:=by simpa using q
  subst e;obtain⟨o,e,c,d⟩:=st;exact⟨o,e,λv z=>by rw[d]at z;cases z⟩
 keep:=λi h A st k=>st.at λo e=>k n (by simp) o e;item:=by intro X hP hw hK hc i j' s σ H E I y st hg;subst hP hw hK;obtain⟨xs,x,w,hx⟩:=hg;obtain⟨r,P,f,hz⟩:=I.tuple w;obtain⟨j,hu,ru⟩:=P.get hx;obtain⟨f0,f1,Q,f3,f4,f5⟩:=y n (by simp);refine wpAny_pyNext_tuple_item st (show s.heap.IsTuple a r.toArray from f) (x:=j) (by simpa using hu) λA t sb=>?_;have I1:Ì X j' σ H {s with heap:=A}:=I.turned (t':=s.toks) (λb o q e=>(sb.2 b q).trans e) f0 f1 f3 f4 f5;obtain⟨o,e,c,d⟩:=id t;exact⟨j,rfl,Ar (f:={s with heap:=A}) e c d (by decide) ⟨x,H,I1,ru,⟨rfl,λys hy=>by rw[I.tuple_inj hy w];exact hx⟩,t,λb q=>(y b q).1⟩⟩
 done:=by intro X hP hw hK hc i j' s σ H E I y st hg;subst hP hw hK;obtain⟨xs,w,hx⟩:=hg;obtain⟨r,P,f,hz⟩:=I.tuple w;obtain⟨f0,f1,Q,f3,f4,f5⟩:=y n (by simp);have hl:=P.length;exact wpAny_pyNext_tuple_end (I.ok.hd hc) st (show s.heap.IsTuple a r.toArray from f) (by simp;omega) λA eb=>⟨rfl,I.turned (t':=s.toks) (λb o q e=>eb b o q e) f0 f1 f3 f4 f5⟩
 self:=λ_ _ _ _ _ st h=>wpAny_pyIter_tupleiter st h
theorem u4(a:B)(j:Int)(n:Nat):Aa p m u g (Zq j n) [a] a (λi h=>IsRangeIter h a (j+(i:Nat)*1) ((n:Int)-(i:Nat)) 1)where
 mem:=by simp
 obj:=λi h st b d=>by
  have e:b=a:=by simpa using d
  subst e;exact⟨_,st,λv z=>by have z':Sz _=Data.cell v:=z;cases z'⟩
 keep:=λi h r st k=>k a (by simp) _ st;item:=by intro X P w hK A i j' s σ H E I q st y;subst P w hK;obtain⟨f0,f1,Q,f3,f4,f5⟩:=q a (by simp);have W:=Walks.range (prog:=X.prog) (w:=X.w) (I.ok.hd A) a j 1 n;refine W.item i s _ _ y st λv r tk hv f kk=>?_;obtain⟨t,rfl⟩:=hv;have I1:Ì X j' σ H {s with heap:=r,toks:=tk}:=I.turned (λb o d e=>kk b o (by simpa using d) e) f0 f1 f3 f4 f5;refine⟨_,rfl,Ar (f:={s with heap:=r,toks:=tk}) (n:="range_iterator") f rfl rfl (by decide) ⟨.int (j+i),H,I1,⟨t,?_⟩,⟨rfl,rfl⟩,f,λb d=>(q b d).1⟩⟩;rw[Int.mul_one]
 done:=by intro X P w hK A i j' s σ H E I q st y;subst P w hK;obtain⟨f0,f1,Q,f3,f4,f5⟩:=q a (by simp);exact wpAny_pyNext_range_end (I.ok.hd A) st (by have:n<=i:=y;omega) λr eb=>⟨rfl,I.turned (t':=s.toks) (λb o d e=>eb b o d e) f0 f1 f3 f4 f5⟩
 self:=λ_ _ _ _ _ st h=>wpAny_pyIter_rangeiter st h
def MS(K:d_)(f:TE):TI:=λd H R=>f d H λx b=>∃a,x=.ref a/\(∃e,ô K b a e)/\R (ŧ K a) b
theorem D4(t:PE a P Á):PI a g P (MS a.K Á):=by
 intro n s j H R I h;refine â (t n s j H _ I h) λv f⟨x,w,i,k,m⟩=>?_;obtain⟨d,e,⟨z,r⟩,q⟩:=m;subst e;cases k;obtain⟨y,A,p,E⟩:=i.list r;refine SD p.isList ?_;refine⟨f.heap.objs.size,[f.heap.objs.size],_,_,w,rfl,i.kept (t':=f.toks) λb o e=>j_ _ e,lD d _,⟨_,pi _ rfl,rfl,rfl⟩,λb u=>?_,q⟩;have e:b=f.heap.objs.size:=by simpa using u
 subst e;exact i.fpOk (s_ _) (i.hok.fresh (s_ _))
variable{k π:Int}
theorem tX{R:It->Hp->Prop}{t u v:Tok}(I:Ì a ζ Φ h f)(r:-(2^62)<=k)(p:k<2^62)(n:-(2^62)<=π)(m:π<2^62)(q:R (Zq k (π-k).toNat) h):uk (x_ a.prog a.w) a.A (X3 (.ref f.heap.objs.size)) (PIE a ζ Φ g R) ο {f with heap:=f.heap.push {cls:=.type "range",data:=.fields #[.int k t,.int π u,.int 1 v]},toks:=d}:=by
 refine wpAny_pyIter_range (IsRange.new ..) (small_one r p n m) ?_;have i:Ì a ζ Φ h {f with heap:=f.heap.push {cls:=.type "range",data:=.fields #[.int k t,.int π u,.int 1 v]},toks:=d}:=I.kept λb o e=>j_ _ e;refine⟨(f.heap.push {cls:=.type "range",data:=.fields #[.int k t,.int π u,.int 1 v]}).objs.size,[(f.heap.push {cls:=.type "range",data:=.fields #[.int k t,.int π u,.int 1 v]}).objs.size],_,_,h,rfl,i.kept (t':=d) λb o e=>j_ _ e,u4 _ k (π-k).toNat,?_,λb j=>?_,q⟩
 · have y:k+((0:Nat):Int)*1=k:=by simp
   have w:(((π-k).toNat:Nat):Int)-((0:Nat):Int)=Builtin.Range.rangeSize k π 1:=by rw[rangeSize_one];split<;>omega
   show IsRangeIter _ _ (k+((0:Nat):Int)*1) ((((π-k).toNat:Nat):Int)-((0:Nat):Int)) 1;rw[y,w];exact pi _ rfl
 · have e:b=(f.heap.push {cls:=.type "range",data:=.fields #[.int k t,.int π u,.int 1 v]}).objs.size:=by simpa using j
   subst e;exact i.fpOk (s_ _) (i.hok.fresh (s_ _))
def MT(d:TA):TI:=λa H R=>d a H λb e=>∃j:Int,b=[.int j]/\-(2^62)<=j/\j<2^62/\R (Zq 0 j.toNat) e
def MU(d:TA):TI:=λa H R=>d a H λb e=>∃i j:Int,b=[.int i,.int j]/\(-(2^62)<=i/\i<2^62/\-(2^62)<=j/\j<2^62)/\R (Zq i (j-i).toNat) e
theorem ww{d:TA}(v:Gl a "range")(u:a.mg "range"=Y)(y:PA a [P] d)(p:k_ [P] a.env=[(L,eval P a.env)]:=by rfl):PI a g (.Call (.Name "range" o) [P] [] w) (MT d):=by intro n s f H R I h;refine Call_ (gD I v u boot_range (Rz (â (y w n s f H _ I h) λE s1⟨A,H1,z,k,b⟩=>?_) p rfl));obtain⟨j,e,b,m,q⟩:=b;subst e;cases k with|cons r i=>cases i;obtain⟨t,rfl⟩:=r;exact call_range_1 (tX z (by omega) (by omega) b m (by simpa using q))
theorem wx{b:u_}{m:TA}(hg:Gl a "range")(hm:a.mg "range"=Y)(ha:PA a [P,b] m)(E:k_ [P,b] a.env=[(L,eval P a.env),(L,eval b a.env)]:=by rfl)(d:k_ [b] a.env=[(L,eval b a.env)]:=by rfl):PI a g (.Call (.Name "range" o) [P,b] [] w) (MU m):=by intro A s n H R I h;refine Call_ (gD I hg hm boot_range (Rz (â (ha w A s n H _ I h) λus s1⟨vs,H1,I1,p,k⟩=>?_) (by rw[E,d]) (by rw[d];rfl)));obtain⟨i,j,e,⟨k,z,y,v⟩,q⟩:=k;subst e;cases p with|cons r f=>cases f with|cons u f=>cases f;obtain⟨t,rfl⟩:=r;obtain⟨t',rfl⟩:=u;exact call_range_2 (tX I1 k z y v q)
def PK(h:TI)(g:TG)(j:TS):TS:=λD a H=>h a H λJ n=>∃W:Nat->Nat->St->Hp->Prop,(∃m,W 0 m a n)/\∀i m a H,W i m a H->(J.stop i H/\D.nx a H)\/(J.go i H/\∃N:St->Hp->Prop,(∀d b,N d b->∃f,f<m/\W (i+1) f d b)/\∀x b,J.yld i H x b->g x a b λe k=>j {D with nx:=N,ct:=N,bk:=D.nx} e k)
noncomputable def el(a:List B)(h:J_):List (B×Obj):=a.filterMap λb=>(h.get? b).map λo=>(b,o)
theorem cZ{o:Obj}(b:e∈Ã)(a:I.get? e=Z o):(e,o)∈el Ã I:=V1.mpr ⟨e,b,by rw[a];rfl⟩
theorem lE{p:B×Obj}(a:p∈el Ã I):p.1∈Ã/\I.get? p.1=Z p.2:=by obtain⟨b,d,e⟩:=V1.mp a;cases q:I.get? b with|none=>rw[q]at e;cases e|some o=>rw[q]at e;have f:(b,o)=p:=Q4 e;subst f;exact⟨d,q⟩
theorem Ì.pinned{fp:List B}(I:Ì a ζ Φ h f)(m:∀b∈fp,rL a ζ h b)(k:∀b∈fp,∃o,f.heap.get? b=Z o/\∀v,o.data≠.cell v):Ì a (ζ++el fp f.heap) Φ h f:=I.pins_of λp j=>(QS.mp j).elim (λz=>I.pin p (o_ _ z)) λz=>by obtain⟨g,e⟩:=lE z;obtain⟨n,f1,Q,_⟩:=m p.1 g;obtain⟨o,i,d⟩:=k p.1 g;rw[e]at i;cases i;exact⟨e,n,f1,Q,d⟩
theorem Ì.unpinned{b:List (B×Obj)}(I:Ì a (ζ++b) Φ h f):Ì a ζ Φ h f:=I.pins_of λp d=>I.pin p (o_ _ (G_ _ d))
theorem tY{wi:TI}{k:TG}{tb:TS}(hp:UI (x_ a.prog a.w) a.A a.env a.xe)(hc:a.calm=U)(hi:PI a g P wi)(hg:PG a g k)(q:ķ a Ξ tb)(hs:∀x,QT P a.env x=pure x:=by intro _;rfl):PS a (.For g P Ξ [] o) (PK wi k tb):=by
 intro j' s σ H D I h;refine wpAny_For (â (hi j' s σ H _ I h) λv s1 h1=>â h1 λi' s2 h2=>?_) hs;obtain⟨it,fp,tn,J,H2,e,I2,T,f',Q,W,⟨m0,w0⟩,turn⟩:=h2;subst e;have A:∀{E:Hp},(∀b∈fp,E b=Y)->∀b∈fp,rL a j' E b:=λhn b q=>⟨hn b q,(Q b q).2⟩;refine codeAny_forLoop_any (λn s'=>∃i z E,Ì a j' z E s'/\tn i s'.heap/\(∀b∈fp,E b=Y)/\W i n z E) ?_ m0 ⟨0,σ,H2,I2,f',λb q=>(Q b q).1,w0⟩;rintro n s3⟨i,y,H3,I3,b',c',w3⟩;rcases turn i n y H3 w3 with⟨d',qn⟩|⟨go,N,hN,step⟩;·refine Uw hp (â (T.done a rfl rfl rfl hc i j' s3 y H3 a.xe I3 (A c') b' d') λr s4⟨hr,I4⟩=>?_);subst hr;exact Ux ⟨y,H3,I4,qn⟩
 · refine Uw hp (â (T.item a rfl rfl rfl hc i j' s3 y H3 a.xe I3 (A c') b' go) λr s4⟨u,hr,h4⟩=>?_);subst hr;refine Uw hp (â h4 λ_ s5⟨x,H5,I5,r5,y5,a',g'⟩=>?_);have h':=I5.pinned (A g') (T.obj _ _ a');refine Uw hp (â (hg _ s5 y H5 x u _ h' r5 (step x H5 y5)) λ_ s6⟨e',H6,I6,q6⟩=>?_);refine Uw hp (â (q _ s6 e' H6 _ I6 q6) λf s7 q7=>?_);have Y8:∀{p:St}{w:Hp},Ì a (j'++el fp s5.heap) p w s7->N p w->∃m,m<n/\∃i z E,Ì a j' z E s7/\tn i s7.heap/\(∀b∈fp,E b=Y)/\W i m z E:=λ{p w}t n7=>by obtain⟨m',hm,w7⟩:=hN p w n7;refine⟨m',hm,i+1,p,w,t.unpinned,T.keep _ _ _ a' λb q j e=>(t.pin (b,j) (o_ _ (o_ _ (cZ q e)))).1,λb q=>?_,w7⟩;obtain⟨j,e,d⟩:=T.obj _ _ a' b q;exact(t.pin (b,j) (o_ _ (o_ _ (cZ q e)))).2.1
   cases f with|next=>obtain⟨p,w,t,n7⟩:=q7;exact Y8 t n7|cont=>obtain⟨p,w,t,n7⟩:=q7;exact Y8 t n7|brk=>obtain⟨p,w,t,q7⟩:=q7;exact⟨p,w,t.unpinned,q7⟩|ret v=>obtain⟨x7,p,w,t,r7,q7⟩:=q7;exact⟨x7,p,w,t.unpinned,r7,q7⟩
theorem As{g:TG}{o:TS}{D:mI}(b:Nat->St->Hp->Prop)(E:b 0 Φ h)(w:∀i Φ h,i<=μ.length->b i Φ h->ô u h e μ)(v:∀i x Φ h,μ[i]?=Z x->b i Φ h->g x Φ h λf n=>o {D with nx:=b (i+1),ct:=b (i+1),bk:=D.nx} f n)(A:∀Φ h,b μ.length Φ h->D.nx Φ h):∃W:Nat->Nat->St->Hp->Prop,(∃m,W 0 m Φ h)/\∀i m Φ h,W i m Φ h->((ŧ u e).stop i h/\D.nx Φ h)\/((ŧ u e).go i h/\∃N:St->Hp->Prop,(∀j d,N j d->∃r,r<m/\W (i+1) r j d)/\∀x d,(ŧ u e).yld i h x d->g x Φ d λf n=>o {D with nx:=N,ct:=N,bk:=D.nx} f n):=by
 refine⟨λi m Φ h=>m=μ.length-i/\i<=μ.length/\b i Φ h,⟨μ.length,by simp,QZ _,E⟩,?_⟩;rintro i m Φ h⟨rfl,z,p⟩;have q:=w i Φ h z p;by_cases k:i<μ.length;·refine .inr ⟨⟨μ,μ[i],q,by simp[k]⟩,b (i+1),λj d t=>⟨μ.length-(i+1),by omega,rfl,k,t⟩,λx d y=>?_⟩;obtain⟨a,y⟩:=y;subst a;exact v i x Φ _ (y μ q) p
 · have a:i=μ.length:=by omega
   subst a;exact .inl ⟨⟨μ,q,s_ _⟩,A Φ h p⟩
abbrev R2:=V->V->Hp->VK->Prop
def û(X:C)(f:D->D->Sem D)(r:R2):Prop:=∀(b:List (B×Obj))(s:g_)(a:St)(H:Hp)(x y:V)(v u:D)(Q:VK),Ì X b a H s->Ü x v->Ü y u->r x y H Q->uk (x_ X.prog X.w) X.A (f v u) (EP X b a Q) X.xe s
def Z4(X:C)(f:D->Sem D)(r:V->Hp->VK->Prop):Prop:=∀(b:List (B×Obj))(s:g_)(a:St)(H:Hp)(x:V)(v:D)(Q:VK),Ì X b a H s->Ü x v->r x H Q->uk (x_ X.prog X.w) X.A (f v) (EP X b a Q) X.xe s
def ó(X:C)(f:D)(r:List V->Hp->VK->Prop):Prop:=∀(e:List (B×Obj))(s:g_)(a:St)(H:Hp)(b:List V)(d:List D)(Q:VK),Ì X e a H s->Ð b d->r b H Q->uk (x_ X.prog X.w) X.A (call f d) (EP X e a Q) X.xe s
noncomputable def R'(r:R2)(d b:TE):TE:=λa H Q=>d a H λx f=>b a f λy e=>r x y e Q
def tUn(r:V->Hp->VK->Prop)(b:TE):TE:=λa H Q=>b a H λx d=>r x d Q
def rI(C:Int->Int->Prop)(g:Int->Int->V):R2:=λx y H Q=>∃i j,x=.int i/\y=.int j/\C i j/\Q (g i j) H
noncomputable def ő(g:Int->Int->V):R2:=λx y H Q=>∃i j,x=.int i/\y=.int j/\Q (g i j) H
def rU(g:Int->V):V->Hp->VK->Prop:=λx H Q=>∃i,x=.int i/\Q (g i) H
theorem MV{n:TE}(A:PE a g Á)(z:PE a P n){k:List (B×Obj)}{s:g_}{b:St}{H:Hp}{R:V->V->Hp->Prop}(I:Ì a k b H s)(h:Á b H λx m=>n b m λy d=>R x y d){Q:D->g_->Prop}{f:D->D->Sem D}(w:∀v u j x y d,Ì a k b d j->Ü x v->Ü y u->R x y d->uk (x_ a.prog a.w) a.A (f v u) Q a.xe j):uk (x_ a.prog a.w) a.A (eval g a.env) (λv i=>uk (x_ a.prog a.w) a.A (eval P a.env) (λu e=>uk (x_ a.prog a.w) a.A (f v u) Q a.xe e) a.xe i) a.xe s:=by refine â (A k s b H _ I h) λv o⟨x,m,I1,q,t⟩=>?_;refine â (z k o b m _ I1 t) λu j⟨y,d,E,p,r⟩=>?_;exact w v u j x y d E q p r
theorem MW{b:TE}{d:Operator}{r:R2}(m:û a (Tc d) r)(p:PE a g Á)(n:PE a P b):PE a (.BinOp g d P o) (R' r Á b):=by intro k s e H Q I h;exact wpAny_BinOp (MV p n I h λv u f x y w t j i q=>m k f e w x y v u Q t j i q)
theorem MX{d:UnaryOp}{r:V->Hp->VK->Prop}(k:Z4 a (unaryOp d) r)(m:PE a g Á):PE a (.UnaryOp d g o) (tUn r Á):=by intro e s b H Q I h;exact UnaryOp_ (â (m e s b H _ I h) λv f⟨x,p,n,i,j⟩=>k e f b p x v Q n i j)
theorem opI{f:D->D->Sem D}{b:Int->Int->Prop}{g:Int->Int->Int}(d:∀(i j:Int)(t u:Tok)(s:g_)(Q:D->g_->Prop)(E:D->g_->Prop),b i j->Q (.int (g i j) s.toks) {s with toks:=s.toks+1}->uk (x_ a.prog a.w) a.A (f (.int i t) (.int j u)) Q E s):û a f (rI b λi j=>.int (g i j)):=by intro p s o H x y v u Q I m k h;obtain⟨i,j,rfl,rfl,n,q⟩:=h;obtain⟨t,rfl⟩:=m;obtain⟨e,rfl⟩:=k;exact d i j t e s _ _ n ⟨.int (g i j),H,I.tok _,⟨_,rfl⟩,q⟩
theorem OR{f:D->D->Sem D}{g:Int->Int->Int}(b:∀(i j:Int)(t u:Tok)(s:g_)(Q:D->g_->Prop)(E:D->g_->Prop),Q (.int (g i j) s.toks) {s with toks:=s.toks+1}->uk (x_ a.prog a.w) a.A (f (.int i t) (.int j u)) Q E s):û a f (ő λi j=>.int (g i j)):=by intro n s m H x y v u Q I k e h;obtain⟨i,j,rfl,rfl,q⟩:=h;obtain⟨t,rfl⟩:=k;obtain⟨d,rfl⟩:=e;exact b i j t d s _ _ ⟨.int (g i j),H,I.tok _,⟨_,rfl⟩,q⟩
theorem MY{f:D->D->Sem D}{g:Int->Int->Bool}(b:∀(i j:Int)(t u:Tok)(s:g_)(Q:D->g_->Prop)(E:D->g_->Prop),Q (.bool (g i j)) s->uk (x_ a.prog a.w) a.A (f (.int i t) (.int j u)) Q E s):û a f (ő λi j=>.bl (g i j)):=by intro n s m H x y v u Q I k e h;obtain⟨i,j,rfl,rfl,q⟩:=h;obtain⟨t,rfl⟩:=k;obtain⟨d,rfl⟩:=e;exact b i j t d s _ _ ⟨.bl (g i j),H,I,rfl,q⟩
def OS(i j:Int):Prop:=0<j/\j<1073741824
def Ű(i j:Int):Prop:=(-(2^64)<i/\i<2^64)\/(-(2^64)<j/\j<2^64)
theorem Ű.ok(h:Ű k π):IntMulOk k π:=by
 rcases h with⟨b,a⟩|⟨b,a⟩;·exact .of_left (intBits_le_64 b a)
 ·exact .of_right (intBits_le_64 b a)
theorem op_add:û a (Tc .Add) (ő λi j=>.int (i+j)):=OR λ_ _ _ _ _ _ _ q=>add_int q
theorem Ig:û a (Tc .Sub) (ő λi j=>.int (i-j)):=OR λ_ _ _ _ _ _ _ q=>sub_int q
theorem Ih:û a (Tc .Mult) (rI Ű λi j=>.int (i*j)):=opI λ_ _ _ _ _ _ _ b q=>mul_int q b.ok
theorem D6:û a (Tc .FloorDiv) (rI OS λi j=>.int (i/j)):=opI λi j _ _ _ _ _ b q=>by have e:(0:Int)<j:=b.1;have d:j<1073741824:=b.2;exact floordiv_int (by omega) (by rw[Int.fdiv_eq_ediv_of_nonneg i (by omega)];exact q) (.inl (PyProof.noPylong_small (by omega)))
theorem Ii:û a (Tc .Mod) (rI (λ_ j=>0<j) λi j=>.int (i%j)):=opI λi j _ _ _ _ _ b q=>by have d:(0:Int)<j:=b;exact mod_int' (by omega) (by rw[Int.fmod_eq_emod_of_nonneg i (by omega)];exact q)
theorem unI{f:D->Sem D}{g:Int->Int}(b:∀(i:Int)(t:Tok)(s:g_)(Q:D->g_->Prop)(E:D->g_->Prop),Q (.int (g i) s.toks) {s with toks:=s.toks+1}->uk (x_ a.prog a.w) a.A (f (.int i t)) Q E s):Z4 a f (rU λi=>.int (g i)):=by intro j s e H x v Q I d h;obtain⟨i,rfl,q⟩:=h;obtain⟨t,rfl⟩:=d;exact b i t s _ _ ⟨.int (g i),H,I.tok _,⟨_,rfl⟩,q⟩
theorem Ij:Z4 a (unaryOp .USub) (rU λi=>.int (-i)):=unI λ_ _ _ _ _ q=>neg_int q
noncomputable def MZ:V->V->Bool|.non,.non=>U|.non,.int _=>U|.int _,.non=>U|.non,.bl _=>U|.bl _,.non=>U|.non,.str _=>U|.str _,.non=>U|.int _,.int _=>U|.bl _,.bl _=>U|.str _,.str _=>U|.byt _,.byt _=>U|.int _,.str _=>U|.str _,.int _=>U|.bl _,.str _=>U|.str _,.bl _=>U|_,_=>L
def rEq:R2:=λx y H Q=>MZ x y=U/\Q (.bl (A_ (x=y))) H
def rNe:R2:=λx y H Q=>MZ x y=U/\Q (.bl (!A_ (x=y))) H
theorem rM:A_ (V.int k=V.int π)=(k==π):=by rw[RH];simp
variable{A Χ:Bool}
theorem wy:A_ (V.bl A=V.bl Χ)=(A==Χ):=by rw[RH];simp
variable{i:Str}
theorem rN:A_ (V.str b=V.str i)=(b==i):=by rw[RH];simp
theorem wz{i j:Array UInt8}:A_ (V.byt i=V.byt j)=(i.toList==j.toList):=by rw[RH];cases i;cases j;simp
variable{Ê:VK}
theorem bH(I:Ì a ζ Φ h f)(q:Ê (.bl A) h)(e:A=Χ):EP a ζ Φ Ê (.bool Χ) f:=by subst e;exact⟨.bl A,h,I,rfl,q⟩
theorem op_eq:û a (Rk .Eq) rEq:=by intro k s g H x y v u Q I f b h;obtain⟨e,q⟩:=h;cases x with
 |non=>cases f;cases y with|non=>cases b;exact PySem.EqNone.eq_none_none (bH I q (by simp))|bl j=>cases b;exact PySem.EqNone.eq_none_bool (bH I q (by simp))|int j=>obtain⟨d,rfl⟩:=b;exact PySem.EqNone.eq_none_int (bH I q (by simp))|str j=>obtain⟨d,rfl⟩:=b;exact PySem.EqNone.eq_none_str (bH I q (by simp))|_=>exact absurd (show L=U from e) B_
 |bl i=>cases f;cases y with|non=>cases b;exact PySem.EqNone.eq_bool_none (bH I q (by simp))|bl j=>cases b;exact eq_bool (bH I q wy)|str j=>obtain⟨d,rfl⟩:=b;exact PySem.EqMixed.eq_bool_str (bH I q (by simp))|_=>exact absurd (show L=U from e) B_
 |int i=>obtain⟨t,rfl⟩:=f;cases y with|non=>cases b;exact PySem.EqNone.eq_int_none (bH I q (by simp))|int j=>obtain⟨d,rfl⟩:=b;exact eq_int (bH I q rM)|str j=>obtain⟨d,rfl⟩:=b;exact PySem.EqMixed.eq_int_str (bH I q (by simp))|_=>exact absurd (show L=U from e) B_
 |str i=>obtain⟨t,rfl⟩:=f;cases y with|non=>cases b;exact PySem.EqNone.eq_str_none (bH I q (by simp))|bl j=>cases b;exact PySem.EqMixed.eq_str_bool (bH I q (by simp))|int j=>obtain⟨d,rfl⟩:=b;exact PySem.EqMixed.eq_str_int (bH I q (by simp))|str j=>obtain⟨d,rfl⟩:=b;exact eq_str (bH I q rN)|_=>exact absurd (show L=U from e) B_
 |byt i=>obtain⟨t,rfl⟩:=f;cases y with|byt j=>obtain⟨d,rfl⟩:=b;exact PySem.W.eq_bytes (bH I q wz)|_=>exact absurd (show L=U from e) B_
 |_=>cases y<;>exact absurd (show L=U from e) B_
theorem op_ne:û a (Rk .NotEq) rNe:=by intro k s g H x y v u Q I f b h;obtain⟨e,q⟩:=h;cases x with
 |non=>cases f;cases y with|non=>cases b;exact PySem.EqNone.ne_none_none (bH I q (by simp))|bl j=>cases b;exact PySem.EqNone.ne_none_bool (bH I q (by simp))|int j=>obtain⟨d,rfl⟩:=b;exact PySem.EqNone.ne_none_int (bH I q (by simp))|str j=>obtain⟨d,rfl⟩:=b;exact PySem.EqNone.ne_none_str (bH I q (by simp))|_=>exact absurd (show L=U from e) B_
 |bl i=>cases f;cases y with|non=>cases b;exact PySem.EqNone.ne_bool_none (bH I q (by simp))|bl j=>cases b;exact ne_bool (bH I q (congrArg not wy))|str j=>obtain⟨d,rfl⟩:=b;exact PySem.EqMixed.ne_bool_str (bH I q (by simp))|_=>exact absurd (show L=U from e) B_
 |int i=>obtain⟨t,rfl⟩:=f;cases y with|non=>cases b;exact PySem.EqNone.ne_int_none (bH I q (by simp))|int j=>obtain⟨d,rfl⟩:=b;exact ne_int (bH I q (congrArg not rM))|str j=>obtain⟨d,rfl⟩:=b;exact PySem.EqMixed.ne_int_str (bH I q (by simp))|_=>exact absurd (show L=U from e) B_
 |str i=>obtain⟨t,rfl⟩:=f;cases y with|non=>cases b;exact PySem.EqNone.ne_str_none (bH I q (by simp))|bl j=>cases b;exact PySem.EqMixed.ne_str_bool (bH I q (by simp))|int j=>obtain⟨d,rfl⟩:=b;exact PySem.EqMixed.ne_str_int (bH I q (by simp))|str j=>obtain⟨d,rfl⟩:=b;exact ne_str (bH I q (congrArg not rN))|_=>exact absurd (show L=U from e) B_
 |byt i=>obtain⟨t,rfl⟩:=f;cases y with|byt j=>obtain⟨d,rfl⟩:=b;exact PySem.W.ne_bytes (bH I q (congrArg not wz))|_=>exact absurd (show L=U from e) B_
 |_=>cases y<;>exact absurd (show L=U from e) B_
theorem op_lt:û a (Rk .Lt) (ő λi j=>.bl (A_ (i<j))):=MY λ_ _ _ _ _ _ _ q=>lt_int q
theorem op_le:û a (Rk .LtE) (ő λi j=>.bl (A_ (i<=j))):=MY λ_ _ _ _ _ _ _ q=>le_int q
theorem Ik:û a (Rk .Gt) (ő λi j=>.bl (A_ (j<i))):=MY λ_ _ _ _ _ _ _ q=>gt_int q
theorem wA:û a (Rk .Lt) (λx y H Q=>∃i j,x=.str i/\y=.str j/\Q (.bl (A_ (i.cps.toList<j.cps.toList))) H):=by intro g s e H x y v u Q I d b h;obtain⟨i,j,rfl,rfl,q⟩:=h;obtain⟨t,rfl⟩:=d;obtain⟨f,rfl⟩:=b;exact lt_str (bH I q rfl)
theorem op_in_str:û a (Rk .In) (λx y H Q=>∃i j,x=.str i/\y=.str j/\Q (.bl (!(Q_ j i 0 j.length 1).isEmpty)) H):=by intro g s e H x y v u Q I d b h;obtain⟨i,j,rfl,rfl,q⟩:=h;obtain⟨t,rfl⟩:=d;obtain⟨f,rfl⟩:=b;exact in_str (bH I q rfl)
theorem CY:û a (Rk .Is) (λx y H Q=>y=.non/\Q (.bl (A_ (x=.non))) H):=by intro f s e H x y v u Q I b d h;obtain⟨rfl,q⟩:=h;cases d;refine is_none_gen (bH I q ?_);cases x<;>first|(cases b;rfl)|(obtain⟨t,rfl⟩:=b;rfl)
theorem wB:û a (Rk .IsNot) (λx y H Q=>y=.non/\Q (.bl (!A_ (x=.non))) H):=by intro f s e H x y v u Q I b d h;obtain⟨rfl,q⟩:=h;cases d;refine isnot_none_gen (bH I q ?_);cases x<;>first|(cases b;rfl)|(obtain⟨t,rfl⟩:=b;rfl)
theorem û.or{f:D->D->Sem D}{r g:R2}(h:û a f r)(j:û a f g):û a f (λx y H Q=>r x y H Q\/g x y H Q):=by
 intro i s b H x y v u Q I e d q;rcases q with q|q;·exact h i s b H x y v u Q I e d q
 ·exact j i s b H x y v u Q I e d q
theorem OT(b:u_){a:CmpOp}(h:a≠.In:=by decide)(d:a≠.NotIn:=by decide):QR a b=L:=by
 have f:(a==CmpOp.In)=L:=by cases a<;>first|rfl|exact absurd rfl h
 have e:(a==CmpOp.NotIn)=L:=by cases a<;>first|rfl|exact absurd rfl d
 cases b<;>simp[QR,f,e]
theorem D7{d:TE}{b:CmpOp}{r:R2}(m:û a (Rk b) r)(t:PE a g Á)(p:PE a P d)(n:QR b P=L):PE a (.Compare g [b] [P] o) (R' r Á d):=by intro k s e H Q I h;exact wpAny_Compare1 (MV t p I h λv u f x y z w j i q=>m k f e z x y v u Q w j i q) n
noncomputable def M0(t:TE):TT:=λa H Q=>t a H λx b=>∃k,x=.bl k/\Q k b
theorem wC{i:TE}{d:CmpOp}{r:R2}(E:û a (Rk d) r)(ha:PE a g Á)(hb:PE a P i)(hm:QR d P=L):PT a (.Compare g [d] [P] o) (M0 (R' r Á i)):=by intro f s b H Q I h;refine wpAny_isTrue_Compare1 (â (ha f s b H _ I h) λv m⟨x,H1,I1,q,A⟩=>â (hb f m b H1 _ I1 A) λu j⟨y,H2,I2,p,w⟩=>â (E f j b H2 x y v u _ I2 q p w) λc s3⟨z,H3,I3,n,k,e,t⟩=>?_) hm;subst e;cases n;exact SA ⟨H3,I3,t⟩
theorem pK:(sizeLine:Nat)<2^63:=by rw[UH];decide
theorem op_add_str:û a (Tc .Add) (λx y H Q=>∃i j,x=.str i/\y=.str j/\i.length+j.length<=sizeLine/\Q (.str (i++j)) H):=by intro m s g H x y v u Q I e d h;obtain⟨i,j,rfl,rfl,f,q⟩:=h;obtain⟨t,rfl⟩:=e;obtain⟨b,rfl⟩:=d;exact add_str (λb k=>⟨.str (i++j),H,I.tok _,⟨_,rfl⟩,q⟩) f
theorem eQ(r:Ð [Κ] ξ):∃u,ξ=[u]/\Ü Κ u:=by cases r with|cons b a=>cases a;exact⟨_,rfl,b⟩
theorem D8{y:V}(r:Ð [Κ,y] ξ):∃u a,ξ=[u,a]/\Ü Κ u/\Ü y a:=by cases r with|cons f e=>cases e with|cons d b=>cases b;exact⟨_,_,rfl,f,d⟩
theorem wD(e:a.calm=U):ó a (.builtin "max") (λd H Q=>∃i j,d=[.int i,.int j]/\Q (.int (if j>i then j else i)) H):=by
 intro p s f H d m Q I r h;obtain⟨i,j,rfl,q⟩:=h;obtain⟨u,g,rfl,⟨t,rfl⟩,⟨o,rfl⟩⟩:=D8 r;refine max_two_ints (I.ok.hd e) λv n k=>⟨_,H,I.kept k,?_,q⟩;by_cases b:j>i;·rw[if_pos b,if_pos b];exact⟨_,rfl⟩
 ·rw[if_neg b,if_neg b];exact⟨_,rfl⟩
theorem wE(e:a.calm=U):ó a (.builtin "min") (λd H Q=>∃i j,d=[.int i,.int j]/\Q (.int (if j<i then j else i)) H):=by
 intro p s f H d m Q I r h;obtain⟨i,j,rfl,q⟩:=h;obtain⟨u,g,rfl,⟨t,rfl⟩,⟨o,rfl⟩⟩:=D8 r;refine min_two_ints (I.ok.hd e) λv n k=>⟨_,H,I.kept k,?_,q⟩;by_cases b:j<i;·rw[if_pos b,if_pos b];exact⟨_,rfl⟩
 ·rw[if_neg b,if_neg b];exact⟨_,rfl⟩
def PM(K:d_)(x:V)(H:Hp)(n:Nat):Prop:=match x with|.str y=>y.length<=sizeLine/\n=y.length|.byt y=>y.size<=sizeLine/\n=y.size|.ref p=>(∃a,ô K H p a/\n=a.length)\/∃a,ü K H p a/\n=a.length|_=>False
theorem Au:ó a (.builtin "len") (λb H Q=>∃x n,b=[x]/\PM a.K x H n/\Q (.int n) H):=by intro A s w H b z Q I r h;obtain⟨x,n,rfl,e,q⟩:=h;obtain⟨u,rfl,g⟩:=eQ r;have P:=pK;have E:sizeLine=16777216:=UH;cases x with
 |str y=>obtain⟨t,rfl⟩:=g;obtain⟨v,f⟩:y.length<=sizeLine/\n=y.length:=e;subst f;exact len_str (by omega) ⟨.int _,H,I.tok _,⟨_,rfl⟩,q⟩|byt y=>obtain⟨t,rfl⟩:=g;obtain⟨v,f⟩:y.size<=sizeLine/\n=y.size:=e;subst f;exact PySem.W.len_bytes (by omega) ⟨.int _,H,I.tok _,⟨_,rfl⟩,q⟩|ref p=>
 cases g;have f:(∃b,ô a.K H p b/\n=b.length)\/∃b,ü a.K H p b/\n=b.length:=e;rcases f with⟨b,k,f⟩|⟨b,k,f⟩;·subst f;obtain⟨m,i,j,o⟩:=I.list k;have d:=i.length;exact Calls.call_len_list j.isList (by simp only[E_];omega) ⟨.int b.length,H,I.tok _,⟨_,by simp only[E_];rw[d]⟩,q⟩
 ·subst f;obtain⟨m,i,j,o⟩:=I.tuple k;have d:=i.length;exact len_tuple j (by simp only[E_];omega) ⟨.int b.length,H,I.tok _,⟨_,by simp only[E_];rw[d]⟩,q⟩|_=>exact(show False from e).elim
structure ľ(h:J_)(x dx C:B)(mA:Str->Option D):Prop where
 obj:h.get? x=Z (SF C dx)ns:h.Ns1 dx mA
 ne:dx≠x
variable{Α:Str->Option D}
theorem wF(n:I.Ns1 e Α):∃g,I.get? e=Z g/\∀d,VS d g=Z (Α d):=by
 obtain⟨o,h,u,j,p,m,_,k⟩:=n;refine⟨o,j,λd=>?_⟩;have b:=k d;unfold nsFind findBy at b;rw[<-Array.find?_toList]at b;unfold VS;rw[p];dsimp only;split;·rename_i y q;rw[q]at b;exact congrArg Z b
 · rename_i q;rw[q]at b;have a:h.toList.any (·.refKey)=L:=by rw[Yq];intro y i;obtain⟨z,t,f⟩:=m y (Th.mp i);simp[DictEntry.refKey,f]
   have r:¬h.toList.any (·.refKey)=U:=by rw[a];exact B_
   rw[if_neg r];exact congrArg Z b
variable{Ι:B}
theorem ľ.look(a:ľ I e v Ι Α):∃d,PySem.W.InstAt I e (SF Ι v) Ι (Z d)/\∀b,VS b d=Z (Α b):=let⟨d,f,g⟩:=wF a.ns;⟨d,⟨a.obj,rfl,rfl,f⟩,g⟩
theorem Ea(X:u.In f.heap)(I:ľ f.heap e v Ι Α)(j:Uo u Ι b=U)(i:UR u Ι=U)(k:RF u (.ref Ι) b=Z Y)(d:Α b=Z Ε)(a:Yt Ε=U)(h:Å Ε {f with toks:=f.toks+1}):uk (x_ p m) E (getAttr (.ref e) b A) Å ο f:=by obtain⟨n,J,g⟩:=I.look;exact PySem.W.get_value X J (VC j).1 (PySem.W.findObj_own i k rfl (by rw[g,d])) a h
theorem Av{a:B}{g:Sem Bool}{Q:D×List D->g_->Prop}(X:u.In f.heap)(I:ľ f.heap e v Ι Α)(d:Uo u Ι b=U)(o:RF u (.ref Ι) b=Z (Z (.ref a)))(k:WJ u (.ref a)=U)(j:Α b=Y)(h:Q (.ref a,[.ref e]) f):uk (x_ p m) E (XE (.ref e) b g) Q ο f:=by obtain⟨i,J,n⟩:=I.look;exact PySem.W.method_fn X J (VC d).1 (VC d).2 o (beq_iff_eq.mp k) (by show(VS b i).map (·.isSome)=Z L;rw[n,j];rfl) h
theorem Eb{Q:Unit->g_->Prop}(X:u.In f.heap)(I:ľ f.heap e v Ι Α)(w:RF u (.ref Ι) "__setattr__"=Z (Z (.builtin "object.__setattr__")))(A:V_ u Ι=U)(t:W1 u Ι b=Z Y)(H:UR u Ι=U)(r:Yg Α z)(a':z.length<=sizeLine)(h:∀i,ľ i e v Ι (λy=>if y=b then Z Ε else Α y)->SK v f.heap i->Q () {f with heap:=i,toks:=f.toks+2}):uk (x_ p m) E (setAttr (.ref e) b Ε) Q ο f:=by obtain⟨od,J,hl⟩:=I.look;refine PySem.W.set_plain X J w (PySem.W.osa_open (s:={f with toks:=f.toks+1}) (r:=Y) X J A t λa=>?_);obtain⟨cd,P,n⟩:=PySem.W.any_some H;have q:f.heap.get? e=Z ⟨.ref Ι,Z v,.plain,#[]⟩:=I.obj;refine e_ (m_ (e_ (e_ (wpAny_loadPart q (e_ (PySem.W.Looks.here (s:={f with toks:=f.toks+1}) (PySem.W.looks_clsIn X P) ?_))))));rw[n];refine m_ (a:=Z v) (e_ (m_ (e_ ?_)));refine wpAny_nsSet1 (s:={f with toks:=f.toks+1}) I.ns λi g d=>?_;obtain⟨oD,b',c',j,k,o⟩:=g.count (PySem.Within.cons b Ε r);refine e_ (wpAny_lookBehind j (by rw[k];exact pastItsLine_dict (QV o (by rw[Q1];omega))) ?_);exact m_ (h _ ⟨(d.2 _ (SM I.ne)).trans I.obj,g,I.ne⟩ d)
theorem Aw{R:WN->g_->Prop}{b:List (Str×D)}(X:u.In f.heap)(i:YR u e=U)(j:RF u (.ref e) "__init__"=Z (Z (.ref v)))(k:PySem.W.typeIn u (.ref v)=Z (.type "function"))(h:Ta (x_ p m) (E.under (.builtin "type.__call__" ⟨.ref e::ξ,b⟩)) (.call (.ref v) ⟨.ref (f.heap.objs.size+1)::ξ,b⟩) (PySem.W.InitBack (f.heap.objs.size+1) R) {f with heap:=(f.heap.push RU).push (SF e f.heap.objs.size)}):Ta (x_ p m) E (.call (.ref e) ⟨ξ,b⟩) R f:=by obtain⟨n,g,d,t,os⟩:=f;exact PySem.W.make_core (PySem.W.makes_of X i) (PySem.W.looks_findIn X j) (λa=>PySem.W.bind_fn X a k) (.inl rfl) h
noncomputable def lf(f:Str)(v:V):List (Str×V)->List (Str×V)|[]=>[(f,v)]|(g,x)::r=>if g=f then(g,v)::r else(g,x)::lf f v r
theorem lF(f g:Str)(v:V):∀fs:List (Str×V),(lf f v fs).lookup g=if g=f then Z v else fs.lookup g
 |[]=>by
  show TB g [(f,v)]=_;by_cases h:g=f;·have a:(g==f)=U:=beq_iff_eq.mpr h;simp only[TB,a,if_pos h]
  ·have a:(g==f)=L:=beq_eq_false_iff_ne.mpr h;simp only[TB,a,if_neg h]|(k,x)::r=>by
  have d:=lF f g v r;rw[show lf f v ((k,x)::r)=(if k=f then(k,v)::r else(k,x)::lf f v r)from rfl];by_cases b:k=f
  · rw[if_pos b];by_cases h:g=k;·have a:(g==k)=U:=beq_iff_eq.mpr h;simp only[TB,a,if_pos (h.trans b)]
    ·have a:(g==k)=L:=beq_eq_false_iff_ne.mpr h;simp only[TB,a,if_neg (λe:g=f=>h (e.trans b.symm))]
  · rw[if_neg b];by_cases h:g=k;·have a:(g==k)=U:=beq_iff_eq.mpr h;simp only[TB,a,if_neg (λe:g=f=>b (h.symm.trans e))]
    ·have a:(g==k)=L:=beq_eq_false_iff_ne.mpr h;simp only[TB,a];exact d
theorem lG(f:Str)(v:V):∀fs:List (Str×V),f∈(lf f v fs).map (·.1)/\∀g,g∈fs.map (·.1)->g∈(lf f v fs).map (·.1)
 |[]=>⟨by simp[lf],λg h=>by simp at h⟩|(k,x)::r=>by
  obtain⟨b,i2⟩:=lG f v r;rw[show lf f v ((k,x)::r)=(if k=f then(k,v)::r else(k,x)::lf f v r)from rfl];by_cases a:k=f;·rw[if_pos a];subst a;exact⟨by simp,λg h=>by simpa using h⟩
  · rw[if_neg a];refine⟨?_,λg h=>?_⟩;·rw[QU];exact on _ b
    · rw[QU]at h⊢;rcases t_.mp h with e|e;·exact t_.mpr (.inl e)
      ·exact on _ (i2 g e)
theorem lH(f:Str)(v:V):∀fs:List (Str×V),(lf f v fs).length<=fs.length+1
 |[]=>by simp[lf]|(k,x)::r=>by
  have b:=lH f v r;rw[show lf f v ((k,x)::r)=(if k=f then(k,v)::r else(k,x)::lf f v r)from rfl];by_cases a:k=f;·rw[if_pos a,Q1,Q1];omega
  ·rw[if_neg a,Q1,Q1];omega
theorem Ĩ.some_of{o:Option D}(r:Ĩ (Z Κ) o):∃u,o=Z u/\Ü Κ u:=by cases o with|none=>exact(show False from r).elim|some u=>exact⟨u,rfl,r⟩
theorem Ĩ.none_of{o:Option D}(r:Ĩ Y o):o=Y:=by cases o with|none=>rfl|some u=>exact(show False from r).elim
theorem wG(r:Ü Κ Ε):Yt Ε=U:=by cases Κ with|non=>cases(show Ε=H_ from r);rfl|bl b=>cases(show Ε=QQ b from r);rfl|int i=>obtain⟨t,e⟩:=(show∃t,Ε=XH i t from r);cases e;rfl|str x=>obtain⟨t,e⟩:=(show∃t,Ε=RK x t from r);cases e;rfl|byt b=>obtain⟨t,e⟩:=(show∃t,Ε=Value.bytes b t from r);cases e;rfl|flt b=>obtain⟨t,e⟩:=(show∃t,Ε=YM b t from r);cases e;rfl|ref a=>cases(show Ε=y_ a from r);rfl|ty n=>cases(show Ε=r_ n from r);rfl
theorem og{g:List (Str×V)}(i:Ċ p m h I)(a:h e=Z (.ins v Ι g)):∃b,ľ I e Ι v b/\(∀f,Ĩ (g.lookup f) (b f))/\Yg b (g.map (·.1))/\g.length<=1000/\h Ι=Z (.own e):=by obtain⟨d,z,k,j,b,n,r,q⟩:=(show é p m h I e (.ins v Ι g)from i e _ a);exact⟨b,⟨j,n,k⟩,r,q,z,d⟩
structure Ş(K:d_)(C:B):Prop where
 pg:Uo K C Str.empty=U
 hd:UR K C=U
 po:V_ K C=U
 sa:RF K (.ref C) "__setattr__"=Z (Z (.builtin "object.__setattr__"))
theorem Ş.get(c:Ş u e)(f:Str):Uo u e f=U:=c.pg
def ĉ(K:d_)(C:B)(f:Str):Prop:=RF K (.ref C) f=Z Y
theorem ĉ.taker(n:ĉ u e b):W1 u e b=Z Y:=by unfold W1;rw[show RF u (.ref e) b=Z Y from n];rfl
structure CZ(K:d_)(C:B)(m:Str)(f:B):Prop where
 at_:RF K (.ref C) m=Z (Z (.ref f))fn:WJ K (.ref f)=U
 kp:Rr K (.ref f)=U
theorem u8{k:List (Str×V)}(I:Ì a ζ Φ h f)(g:h e=Z (.ins v Ι k))(c:Ş a.K v)(n:ĉ a.K v b)(l:k.lookup b=Z Κ)(d:∀u i,Ì a ζ Φ h i->Ü Κ u->Å u i):uk (x_ a.prog a.w) E (getAttr (.ref e) b A) Å ο f:=by obtain⟨m,O,r,_,_,_⟩:=og I.hok g;obtain⟨u,o,j⟩:=Ĩ.some_of (Κ:=Κ) (o:=m b) (by rw[<-l];exact r b);exact Ea I.kIn O (c.get b) c.hd n o (wG j) (d u _ (I.tok _) j)
theorem gE{j:List (Str×V)}{g:B}{m:Sem Bool}{Q:D×List D->g_->Prop}(I:Ì a ζ Φ h f)(i:h e=Z (.ins v Ι j))(c:Ş a.K v)(k:CZ a.K v b g)(l:j.lookup b=Y)(d:Q (.ref g,[.ref e]) f):uk (x_ a.prog a.w) E (XE (.ref e) b m) Q ο f:=by obtain⟨n,O,r,_,_,_⟩:=og I.hok i;have o:n b=Y:=Ĩ.none_of (by rw[<-l];exact r b);exact Av I.kIn O (c.get b) k.at_ k.fn o d
theorem u9{k:List (Str×V)}{Q:Unit->g_->Prop}(I:Ì a ζ Φ h f)(d:h e=Z (.ins v Ι k))(c:Ş a.K v)(n:ĉ a.K v b)(hl:k.length<1000)(A:Ü Κ Ε)(i:∀t,Ì a ζ Φ (Ý h e (.ins v Ι (lf b Κ k))) t->Q () t):uk (x_ a.prog a.w) E (setAttr (.ref e) b Ε) Q ο f:=by
 obtain⟨u,O,r,p,_,w⟩:=og I.hok d;have H:(k.map (·.1)).length<=sizeLine:=by rw[QL,UH];omega
 refine Eb I.kIn O c.sa c.po n.taker c.hd p H λh' m y=>i _ ?_;have hd:∃o,h'.get? Ι=Z o:=let⟨o,_,_,e',_⟩:=m.ns;⟨o,e'⟩;refine I.write (x:=e) (e:=Ι) (by rw[d];exact Vb) (.inr w) (λj q hb z=>(y.2 j hb).trans z) hd ?_;refine⟨by rw[ay O.ne];exact w,?_,O.ne,m.obj,_,m.ns,λg=>?_,λg P=>?_⟩;·have:=lH b Κ k;omega
 · show Ĩ ((lf b Κ k).lookup g) (if g=b then Z Ε else u g);rw[lF];by_cases q:g=b;·rw[if_pos q,if_pos q];exact A
   ·rw[if_neg q,if_neg q];exact r g
 · by_cases q:g=b;·rw[q];exact(lG b Κ k).1
   ·refine(lG b Κ k).2 g (p g λz=>P ?_);show(if g=b then Z Ε else u g)=Y;rw[if_neg q];exact z
theorem Ì.made(I:Ì a ζ Φ h f):Ì a ζ Φ (Ý (Ý h f.heap.objs.size (.own (f.heap.objs.size+1))) (f.heap.objs.size+1) (.ins e f.heap.objs.size [])) {f with heap:=(f.heap.push RU).push (SF e f.heap.objs.size)}:=by
 have i:(f.heap.push RU).get? f.heap.objs.size=Z RU:=pi f.heap rfl;have n:((f.heap.push RU).push (SF e f.heap.objs.size)).get? (f.heap.objs.size+1)=Z (SF e f.heap.objs.size):=by have:=pi (f.heap.push RU) (o:=SF e f.heap.objs.size) rfl;rwa[N_]at this
 have m:(f.heap.push RU).Ns f.heap.objs.size (λ_=>Y):=⟨RU,#[],_,i,rfl,(λd k=>absurd k (by simp)),λ_=>rfl⟩;have p:=I.laid (a:=f.heap.objs.size) (o:=.own (f.heap.objs.size+1)) (h':=f.heap.push RU) (t':=f.toks) (λb u q=>j_ _ q) (s_ _) ⟨_,i⟩;refine p.laid (a:=f.heap.objs.size+1) (o:=.ins e f.heap.objs.size []) (t':=f.toks) (λb u q=>j_ _ q) (UZ (N_ _ _)) ?_;have g:f.heap.objs.size≠f.heap.objs.size+1:=F_ (RI _);refine⟨by rw[ay g,aw],QZ _,g,n,λ_=>Y,(Heap.Ns1.of_empty m).at λo q=>j_ _ q,λ_=>Vb,λy j=>absurd rfl j⟩
theorem Ec{d:Env}(i:Rx g b d (eval g d)=eval g d)(h:uk (x_ p m) E (eval g d) (λa e=>uk (x_ p m) E (getAttr a b U) Å ο e) ο f):uk (x_ p m) E (eval (.Attribute g b o) d) Å ο f:=Attribute_any_ h (by rw[arm_eval_Attribute,i])
noncomputable def PN(K:d_)(e:TE)(f:Str):TE:=λd H Q=>e d H λx b=>∃a C g fs v,x=.ref a/\b a=Z (.ins C g fs)/\Ş K C/\ĉ K C f/\fs.lookup f=Z v/\Q v b
def PP(K:d_)(h g:TE)(f:Str):TS:=λD b H=>g b H λy i=>h b i λx e=>∃a C d fs,x=.ref a/\e a=Z (.ins C d fs)/\Ş K C/\ĉ K C f/\fs.length<1000/\D.nx b (Ý e a (.ins C d (lf f y fs)))
theorem Il(m:PE a g Á)(p:Rx g b a.env (eval g a.env)=eval g a.env):PE a (.Attribute g b o) (PN a.K Á b):=by intro k s f H Q I h;refine Ec p (â (m k s f H _ I h) λu P⟨x,z,y,i,d,e,dx,fs,v,r,t,c,n,l,q⟩=>?_);subst r;obtain rfl:u=y_ d:=i;exact u8 y t c n l λA E w j=>⟨v,z,w,j,q⟩
theorem Im{i:TE}(A:PE a g Á)(v:PE a P i)(z:Q8 P (Z (.Attribute g b w)) o.line a.env=pure L):PS a (.Assign [.Attribute g b w] P o) (PP a.K Á i b):=by intro j s f H D I h;refine plainObj_wpAny_Assign_Attribute (â (v j s f H _ I h) λu k⟨y,H1,I1,m,q⟩=>â (A j k f H1 _ I1 q) λt s2⟨x,H2,I2,p,d,e,dx,fs,E,ea,c,n,l,r⟩=>?_) z;subst E;obtain rfl:t=y_ d:=p;exact u9 I2 ea c n l m λs3 I3=>⟨f,_,I3,r⟩
inductive tZ(K:d_)(H:Hp):V->D->Prop where|non:tZ K H .non (.type "NoneType")|bl(x:Bool):tZ K H (.bl x) (.type "bool")|int(i:Int):tZ K H (.int i) (.type "int")|str(x:Str):tZ K H (.str x) (.type "str")|flt(x:UInt64):tZ K H (.flt x) (.type "float")|lst{a:B}{xs:List V}(e:H a=Z (.lst xs)):tZ K H (.ref a) (.type "list")|frz{a:B}{o:Obj}{xs:List V}(e:H a=Z (.frz o (.lst xs))):tZ K H (.ref a) (.type "list")|tup{a:B}{xs:List V}(e:H a=Z (.tup xs)):tZ K H (.ref a) (.type "tuple")|dK{a:B}{kvs:List (Ĺ×V)}(e:H a=Z (.dK kvs)):tZ K H (.ref a) (.type "dict")|dT{a:B}{kvs:List (List Ĺ×V)}(e:H a=Z (.dT kvs)):tZ K H (.ref a) (.type "dict")|ins{a C dx:B}{fs:List (Str×V)}(e:H a=Z (.ins C dx fs))(cl:Ş K C)(ha:RF K (.ref C) "__class__"=Z (Z (.builtin "object.__class__")))(hn:PySem.W.specialIn K (.builtin "object.__class__") "__get__"=Z (Z (.builtin "getset_descriptor.__get__")))(htk:PySem.W.takesIn K (.builtin "object.__class__")=Z U)(hm:PySem.W.mroIn K C (.type "object")=Z U):tZ K H (.ref a) (.ref C)
theorem wH{u t:D}(I:Ì a ζ Φ h f)(j:Ü Κ u)(ty:tZ a.K h Κ t)(e:Tt a.K t Ε=Z A)(d:∀tk,Å (.bool A) {f with toks:=tk}):uk (x_ a.prog a.w) E (call (.builtin "isinstance") [u,Ε]) Å ο f:=by cases ty with|non=>cases(show u=H_ from j);exact RP PySem.W.kitx_none I.kIn Vb e (λz=>nomatch z) d|bl y=>cases(show u=QQ y from j);exact RP PySem.W.kitx_bool I.kIn Vb e (λz=>nomatch z) d|int i=>obtain⟨t,q⟩:=(show∃t,u=XH i t from j);cases q;exact RP PySem.W.kitx_int I.kIn Vb e (λz=>nomatch z) d|str y=>obtain⟨t,q⟩:=(show∃t,u=RK y t from j);cases q;exact RP PySem.W.kitx_str I.kIn Vb e (λz=>nomatch z) d|flt y=>obtain⟨t,q⟩:=(show∃t,u=YM y t from j);cases q;exact RP PySem.W.kitx_float I.kIn Vb e (λz=>nomatch z) d|@lst b v k=>cases(show u=y_ b from j);obtain⟨_,_,n,_,m⟩:=(show é a.prog a.w h f.heap b (.lst v)from I.hok b _ k);exact RP Yh I.kIn ⟨_,m,rfl⟩ e (λz=>nomatch z) d|@frz b ob v k=>cases(show u=y_ b from j);obtain⟨_,_,_,n,_,m⟩:=(show é a.prog a.w h f.heap b (.frz ob (.lst v))from I.hok b _ k);exact RP Yh I.kIn ⟨_,m,rfl⟩ e (λz=>nomatch z) d|@tup b v k=>cases(show u=y_ b from j);obtain⟨_,_,_,p⟩:=(show é a.prog a.w h f.heap b (.tup v)from I.hok b _ k);obtain⟨o,m,w,_⟩:=p;exact RP PySem.W.kitx_tuple I.kIn ⟨o,m,w⟩ e (λz=>nomatch z) d|@dK b r k=>cases(show u=y_ b from j);obtain⟨_,_,vs,_,p⟩:=(show é a.prog a.w h f.heap b (.dK r)from I.hok b _ k);obtain⟨o,es,ep,m,w,_⟩:=p;exact RP Yi I.kIn ⟨o,m,w.1⟩ e (λz=>nomatch z) d|@dT b r k=>cases(show u=y_ b from j);obtain⟨_,_,v,_,o,es,ep,m,w,_⟩:=(show é a.prog a.w h f.heap b (.dT r)from I.hok b _ k);exact RP Yi I.kIn ⟨o,m,w.1⟩ e (λz=>nomatch z) d|@ins b g dx fs k P ha hn H hm=>cases(show u=y_ b from j);obtain⟨mA,O,_⟩:=og I.hok k;obtain⟨od,J,_⟩:=O.look;exact RP (PySem.W.kitx_own (P.get _) P.hd ha hn H hm) I.kIn J e (λz=>nomatch z) d
structure Ø(k:Nat)(A:xy):Prop where
 hd:A.handled=Y
 dp:A.depth+3*k+5<recursionLimit
 un:A.units+16*k+200<cLine
 gd:A.guards=Z []
theorem Ø.mono(a:Ø r E)(h:d<=r):Ø d E:=⟨a.hd,by have:=a.dp;omega,by have:=a.un;omega,a.gd⟩
theorem Ø.deeper(r:Ø (d+1) E)(a:Env):Ø d (E.deeper a):=⟨r.hd,by have:=r.dp;show E.depth+1+3*d+5<_;omega,by have:=r.un;show E.units+3+16*d+200<_;omega,r.gd⟩
theorem Ø.in1(r:Ø (d+1) E):Ø d E.in1:=⟨r.hd,by have:=r.dp;show E.depth+3*d+5<_;omega,by have:=r.un;show E.units+1+16*d+200<_;omega,r.gd⟩
theorem vb{a:List (Str×D)}:(E.under (.builtin "type.__call__" ⟨.ref e::ξ,a⟩)).depth=E.depth+1:=by first|rfl|simp[WS,Code.weight,Code.isCreation,Code.isGuard,Code.isCaller,Code.frames,Yl,guardIds]
theorem vd{a:List (Str×D)}:(E.under (.builtin "type.__call__" ⟨.ref e::ξ,a⟩)).units=E.units+1:=by first|rfl|simp[WS,Code.cUnits,Code.frames,Yl]
theorem Ø.make(r:Ø (d+1) E)(C:B)(a:List D)(b:List (Str×D)):Ø d (E.under (.builtin "type.__call__" ⟨.ref C::a,b⟩)):=⟨r.hd,by have:=r.dp;rw[vb];omega,by have:=r.un;rw[vd];omega,by have:=r.gd;simp[WS,Code.guards,Code.isGuard,guardIds,pushGuards,this]⟩
theorem Ø.depth(r:Ø d E):E.depth<recursionLimit:=by have:=r.dp;omega
theorem Ø.units(r:Ø d E):E.units+64<cLine:=by have:=r.un;omega
theorem Ø.units0(r:Ø d E):E.units<cLine:=by have:=r.un;omega
noncomputable def OU:TA:=λ_ H Q=>Q [] H
noncomputable def M1(e:TE)(d:TA):TA:=λa H Q=>e a H λx g=>d a g λb f=>Q (x::b) f
theorem wI:PA a [] OU:=λ_ _ _ _ H Q I h=>UW ⟨[],H,I,.nil,h⟩
theorem oh{b:TA}(q:PE a g Á)(p:PA a t b)(o:k_ (g::t) a.env=(L,eval g a.env)::k_ t a.env:=by rfl):PA a (g::t) (M1 Á b):=by intro pos e s d H Q I h;rw[o];show uk _ _ (spliced ((L,eval g a.env)::O_ pos (k_ t a.env))) _ _ s;refine VW (â (q e s d H _ I h) λu i⟨x,y,v,k,n⟩=>?_);exact â (p pos e i d y _ v n) λz A⟨f,w,r,j,m⟩=>⟨x::f,w,r,.cons k j,m⟩
def PQ(t:TA):TE:=λd H Q=>t d H λa b=>a.length<=sizeLine/\∀p,b p=Y->Q (.ref p) (Ý b p (.tup a))
def PR(t:TA):TE:=λd H Q=>t d H λa b=>a.length<=sizeLine/\∀p,b p=Y->Q (.ref p) (Ý b p (.lst a))
theorem Io{d:TA}{m}(h:PA a t d):PE a (.Tuple t m o) (PQ d):=by intro p s j H Q I v;refine wpAny_Tuple_spliced (â (h o p s j H _ I v) λn f⟨k,i,g,r,z,q⟩=>⟨by rw[<-r.length];exact z,?_⟩);have w:i f.heap.objs.size=Y:=g.hok.fresh (s_ _);refine⟨.ref f.heap.objs.size,Ý i f.heap.objs.size (.tup k),g.laid (t':=f.toks) (λb u e=>j_ _ e) (s_ _) ?_,rfl,q _ w⟩;exact⟨z,n,r,⟨_,pi _ rfl,rfl,_,rfl⟩⟩
theorem C7{d:TA}(h:PA a t d):PE a (.List t o) (PR d):=by intro n s j H Q I p;refine wpAny_List_spliced (â (h o n s j H _ I p) λm f⟨k,i,g,r,z,q⟩=>⟨by rw[<-r.length];exact z,?_⟩);have v:i f.heap.objs.size=Y:=g.hok.fresh (s_ _);refine⟨.ref f.heap.objs.size,Ý i f.heap.objs.size (.lst k),g.laid (t':=f.toks) (λb u e=>j_ _ e) (s_ _) ?_,rfl,q _ v⟩;exact⟨z,m,0,r,pi _ rfl⟩
abbrev Sp:=List V->Hp->VK->XK->Prop
abbrev Ĵ:=List Env->Hp->g_->XK->D->g_->Prop
structure ĕ(P:n_)(w:w_)(K:d_)(mg:Str->Option D)(base:J_)(A:xy)(outer:List Env)(s:g_)(H:Hp):Prop where
 frames:A.frames=Z outer
 mod:Mod K mg base
 bs:∀b o,base.get? b=Z o->s.heap.get? b=Z o/\H b=Y
 bsz:base.objs.size<=s.heap.objs.size
 funs:s.heap.FunFrames base outer
 frf:∀b∈frs outer,H b=Y
 hok:Ċ P w H s.heap
 bare:VM s.gens
def CE(a:List Env)(P:n_)(w:w_)(H:Hp)(s:g_)(Q:VK)(u:D)(b:g_):Prop:=∃v d,b.os=s.os/\VM b.gens/\Un (frs a) [] H d s.heap b.heap/\Ċ P w d b.heap/\Ü v u/\Q v d
def CR(d:Ĵ)(a:List Env)(P:n_)(w:w_)(H:Hp)(s:g_)(Q:VK)(E:XK)(r:WN)(b:g_):Prop:=match r with|.ok (.ret u)=>CE a P w H s Q u b|.ok _=>False|.error e=>d a H s E e b
structure è(P:n_)(w:w_)(K:d_)(mg:Str->Option D)(base:J_)(CX:Ĵ)(k:Nat)(f:B)(fd:Rj)(ps:List Str)(sp:Sp):Prop where
 len:∀vs H Q E,sp vs H Q E->vs.length=ps.length
 run:∀(A:xy)(outer:List Env)(s:g_)(H:Hp)(args:Args)(us:List D)(vs:List V)(Q:VK)(E:XK),Ø k A->ĕ P w K mg base A outer s H->WR s fd args (ps.zip us)->Ð vs us->sp vs H Q E->Ta (x_ P w) A (.call (.ref f) args) (CR CX outer P w H s Q E) s
variable{Â:Rj}
theorem è.mono{g:Ĵ}{f:Sp}(F:è p m u Α I g d e Â z f)(h:d<=r):è p m u Α I g r e Â z f:=⟨F.len,λA a s H b j i Q E k=>F.run A a s H b j i Q E (k.mono h)⟩
theorem è.imp{j:Ĵ}{i f:Sp}(F:è p m u Α I j d e Â z i)(h:∀b H Q E,f b H Q E->i b H Q E):è p m u Α I j d e Â z f:=⟨λb H Q E q=>F.len b H Q E (h _ _ _ _ q),λA a s H g k b Q E r t v n o=>F.run A a s H g k b Q E r t v n (h _ _ _ _ o)⟩
theorem ĕ.make{a:List Env}(e:ĕ p m u Α I E a f h)(C:B)(b:List D)(d:List (Str×D)):ĕ p m u Α I (E.under (.builtin "type.__call__" ⟨.ref C::b,d⟩)) a f h:=⟨by first|exact e.frames|(simpa[WS,Code.envs,Yl,pushEnvs]using e.frames),e.mod,e.bs,e.bsz,e.funs,e.frf,e.hok,e.bare⟩
theorem ĕ.in1{a:List Env}(e:ĕ p m u Α I E a f h):ĕ p m u Α I E.in1 a f h:=⟨e.frames,e.mod,e.bs,e.bsz,e.funs,e.frf,e.hok,e.bare⟩
theorem Ì.env0(I:Ì a ζ Φ h f):ĕ a.prog a.w a.K a.mg a.base a.A a.stack f h:=⟨I.ok.frames,I.ok.mod,I.bs,QV I.ok.bsz I.sz,I.stack,I.stkFree,I.hok,I.bare⟩
theorem Ì.after{j:g_}(I:Ì a ζ Φ h f)(e:CE a.stack a.prog a.w h f Ê Ε j):EP a ζ Φ Ê Ε j:=by obtain⟨v,o,os,i,un,m,r,q⟩:=e;obtain⟨n,g,d,t,k⟩:=j;obtain rfl:k=f.os:=os;exact⟨v,o,I.call (h':=n) (g':=g) (d':=d) (t':=t) (ch:=[]) un m i (λb z=>absurd z (by simp)),r,q⟩
noncomputable def M3(e:Sp)(a:List V)(E:XK)(t:TA):TE:=λb H Q=>t b H λd f=>e (d++a) f Q E
noncomputable def ve(C:B)(m:Str)(h:Sp)(b:List V)(E:XK)(g:TE)(t:TA):TE:=λd H Q=>g d H λx e=>∃a i fs,x=.ref a/\e a=Z (.ins C i fs)/\fs.lookup m=Y/\t d e λf j=>h (x::(f++b)) j Q E
def M4(C:B)(g:Sp)(d:List V)(E:XK)(t:TA):TE:=λe H Q=>t e H λf b=>∀x a,b x=Y->b a=Y->a≠x->g (.ref x::(f++d)) (Ý (Ý b a (.own x)) x (.ins C a [])) (λv h=>v=.non/\Q (.ref x) h) E
def ë(K:d_)(e:Rj)(b:List Str)(d:List D):Prop:=∀(s:g_)(a:List D),K.In s.heap->(a++d).length=b.length->WR s e ⟨a,[]⟩ (b.zip (a++d))
theorem ë.all(h:∀a:List D,a.length=z.length->VR Â ⟨a,[]⟩=pure (z.zip a)):ë u Â z []:=λs a _ b=>by rw[RB]at b⊢;exact .of_eq (h a b)
def jR(f:Ĵ)(X:C)(E:XK):Prop:=∀(d:List (B×Obj))(b:St)(H:Hp)(s:g_)(e:D)(a:g_),Ì X d b H s->f X.stack H s E e a->X.xe e a
theorem wJ{o:Ĵ}{m:Sp}{E:XK}{i:List D}{k:List V}(F:è a.prog a.w a.K a.mg a.base o d e Â z m)(t:Ø d a.A)(y:ë a.K Â z ξ)(w:Ð μ ξ)(q:jR o a E)(I:Ì a ζ Φ h f)(r:Ð k i)(b:m (k++μ) h Ê E):uk (x_ a.prog a.w) a.A (call (.ref e) i) (EP a ζ Φ Ê) a.xe f:=by
 have n:Ð (k++μ) (i++ξ):=r.append w;have v:(i++ξ).length=z.length:=by rw[<-n.length];exact F.len _ _ _ _ b
 refine Ue (RT (F.run a.A a.stack f h ⟨i,[]⟩ (i++ξ) (k++μ) Ê E t I.env0 (y f i I.kIn v) n b) λr p j=>?_);cases r with|error g=>exact q ζ Φ h f g p I j|ok A=>cases A with|ret u=>exact I.after j|next=>exact QN j|brk=>exact QN j|cont=>exact QN j
theorem lI{n:Ĵ}{k:Sp}{E:XK}{f:TA}(F:è a.prog a.w a.K a.mg a.base n d e Â z k)(y:Ø d a.A)(hg:Gl a b)(A:a.mg b=Z (.ref e))(P:Rr a.K (.ref e)=U)(hb:ë a.K Â z ξ)(hd:Ð μ ξ)(v:jR n a E)(ha:PA a (g::t) f)(j:(b==("__debug__":Str))=L:=by decide)(he:k_ (g::t) a.env=(L,eval g a.env)::k_ t a.env:=by rfl)(i:(O_ w (k_ t a.env)).any (·.1)=L:=by rfl):PE a (.Call (.Name b o) (g::t) [] w) (M3 k μ E f):=by intro u s p H Q I h;refine RD (kt I hg A ?_ j);refine TH (h₀:=a.base) I.ok.mod.kin P (â (ha w u s p H _ I h) λus s1⟨vs,H1,m,r,q⟩=>⟨m.kIn,?_⟩) he i;exact wJ F y hb hd v m r q
theorem wK{CX:Ĵ}{n:Sp}{E:XK}{i:TA}{p:Sem Bool}(he:PE a P Á)(c:Ş a.K v)(hm:CZ a.K v b e)(F:è a.prog a.w a.K a.mg a.base CX d e Â z n)(hr:Ø d a.A)(hb:ë a.K Â z ξ)(hd:Ð μ ξ)(hx:jR CX a E)(ha:PA a (g::t) i)(j:k_ (g::t) a.env=(L,eval g a.env)::k_ t a.env:=by rfl)(k:(O_ o (k_ t a.env)).any (·.1)=L:=by rfl)(ht:eval (.Call (.Attribute P b w) (g::t) [] o) a.env=(do
 let y<-eval P a.env
 XD w.atName let(e,first)<-Um [y] (XE y b p)callWith o e first (O_ o (k_ (g::t) a.env)) (RM o (Rc [] a.env))):=by rfl):PE a (.Call (.Attribute P b w) (g::t) [] o) (ve v b n μ E Á i):=by intro A s m H Q I h;refine S3 (pl:=p) (â (he A s m H _ I h) λu s1⟨x,H1,I1,rx,f,dx,fs,ex,ea,l,q⟩=>?_) ht;subst ex;obtain rfl:u=y_ f:=rx;refine gE I1 ea c hm l ?_;refine TH (first:=[.ref f]) (h₀:=a.base) I.ok.mod.kin hm.kp (â (ha o A s1 m H1 _ I1 q) λus s2⟨vs,H2,I2,r,q2⟩=>⟨I2.kIn,?_⟩) j k;exact wJ (i:=.ref f::us) (k:=.ref f::vs) F hr hb hd hx I2 (.cons rfl r) q2
theorem Ax{p:Ĵ}{j:Sp}{E:XK}{k:Sem Bool}(he:PE a g Á)(c:Ş a.K v)(n:CZ a.K v b e)(F:è a.prog a.w a.K a.mg a.base p d e Â z j)(hr:Ø d a.A)(hb:ë a.K Â z ξ)(hd:Ð μ ξ)(A:jR p a E)(P:eval (.Call (.Attribute g b w) [] [] o) a.env=(do
 let m<-eval g a.env
 XD w.atName let(e,first)<-Um [m] (XE m b k)callWith o e first (O_ o (k_ [] a.env)) (RM o (Rc [] a.env))):=by rfl):PE a (.Call (.Attribute g b w) [] [] o) (ve v b j μ E Á OU):=by intro y s r H Q I h;refine S3 (pl:=k) (â (he y s r H _ I h) λu s1⟨x,H1,i,t,f,dx,fs,ex,ea,l,q⟩=>?_) P;subst ex;obtain rfl:u=y_ f:=t;refine gE i ea c n l ?_;exact XM (first:=[.ref f]) i.kIn n.kp (wJ (i:=[.ref f]) (k:=[.ref f]) F hr hb hd A i (.cons rfl .nil) q)
structure Mk(K:d_)(C f:B):Prop where
 makes:YR K C=U
 init:RF K (.ref C) "__init__"=Z (Z (.ref f))fn:WJ K (.ref f)=U
 kp:Rr K (.ref C)=U
theorem Ay{w:Ĵ}{p:Sp}{E:XK}{k:List D}{o:List V}(M:Mk a.K v e)(F:è a.prog a.w a.K a.mg a.base w d e Â z p)(hr:Ø (d+1) a.A)(hb:ë a.K Â z ξ)(hd:Ð μ ξ)(P:jR w a E)(I:Ì a ζ Φ h f)(r:Ð o k)(i:∀x m,h x=Y->h m=Y->m≠x->p (.ref x::(o++μ)) (Ý (Ý h m (.own x)) x (.ins v m [])) (λg H2=>g=.non/\Ê (.ref x) H2) E):uk (x_ a.prog a.w) a.A (call (.ref v) k) (EP a ζ Φ Ê) a.xe f:=by
 have t:=i (f.heap.objs.size+1) f.heap.objs.size (I.hok.fresh (UK _)) (I.hok.fresh (s_ _)) (F_ (RI _));have n:=Ì.made (e:=v) I;have q:Ð (V.ref (f.heap.objs.size+1)::(o++μ)) (y_ (f.heap.objs.size+1)::(k++ξ)):=.cons rfl (r.append hd);have hl:(y_ (f.heap.objs.size+1)::k++ξ).length=z.length:=by have b:=q.length;rw[F.len _ _ _ _ t]at b;exact b.symm
 refine Ue (Aw (v:=e) I.kIn M.makes M.init (beq_iff_eq.mp M.fn) (RT (F.run _ a.stack _ _ ⟨y_ (f.heap.objs.size+1)::k,[]⟩ (y_ (f.heap.objs.size+1)::(k++ξ)) _ _ E (hr.make v k []) (n.env0.make v k []) (hb _ (y_ (f.heap.objs.size+1)::k) n.kIn hl) q t) λr y j=>?_));cases r with|error b=>exact P ζ Φ _ _ b y n j|ok fl=>cases fl with|ret u=>obtain⟨g,H',I3,A,ev,H⟩:=n.after j;subst ev;exact⟨A,⟨V.ref (f.heap.objs.size+1),H',I3,rfl,H⟩⟩|next=>exact QN j|brk=>exact QN j|cont=>exact QN j
theorem Ed{n:Ĵ}{k:Sp}{E:XK}{f:TA}(M:Mk a.K v e)(F:è a.prog a.w a.K a.mg a.base n d e Â z k)(A:Ø (d+1) a.A)(hg:Gl a b)(P:a.mg b=Z (.ref v))(hb:ë a.K Â z ξ)(hd:Ð μ ξ)(y:jR n a E)(ha:PA a (g::t) f)(j:(b==("__debug__":Str))=L:=by decide)(he:k_ (g::t) a.env=(L,eval g a.env)::k_ t a.env:=by rfl)(i:(O_ w (k_ t a.env)).any (·.1)=L:=by rfl):PE a (.Call (.Name b o) (g::t) [] w) (M4 v k μ E f):=by intro u s p H Q I h;refine RD (kt I hg P ?_ j);refine TH (h₀:=a.base) I.ok.mod.kin M.kp (â (ha w u s p H _ I h) λus s1⟨vs,H1,m,r,q⟩=>⟨m.kIn,?_⟩) he i;exact Ay M F A hb hd y m r q
structure dO(N P:List Str)(sc:RS):Prop where
 kind:sc.kind=.function
 co:sc.isCoroutine=L
 gen:sc.isGenerator=L
 nd:N.Nodup
 pre:N.take P.length=P
 par:∀x∈P,sc.names.lookup x=Z .local\/sc.names.lookup x=Z .cell
 nofree:∀y∈sc.names,y.2≠.free
theorem pL{a:Str->Option Tu}{x:Str}:∀{binds:List (Str×D)}{m:Str->Option D},(∀v,(x,v)∉binds)->Y6 a binds m x=m x
 |[],_,_=>rfl|(n,v)::r,m,h=>by
  unfold Y6;rw[pL λw b=>h w (on _ b)];split
  · have:x≠n:=by rintro rfl;exact h v q_
    simp[this]
  ·rfl
theorem pM{a:Str->Option Tu}{x:Str}:∀{binds:List (Str×D)}{m:Str->Option D},(∀v,(x,v)∉binds)->Y7 a binds m x=m x
 |[],_,_=>rfl|(n,v)::r,m,h=>by
  unfold Y7;rw[pM λw b=>h w (on _ b)];split;·rfl
  · have:x≠n:=by rintro rfl;exact h v q_
    simp[this]
theorem pN{a:Str->Option Tu}{x:Str}{v:D}:∀{P:List Str}{b:List D}{i:Nat}{m:Str->Option D},P.Nodup->P[i]?=Z x->b[i]?=Z v->a x=Z .local->Y6 a (P.zip b) m x=Z v|[],_,_,_,_,h,_,_=>by simp at h|_::_,[],_,_,_,_,h,_=>by simp at h|p::P,w::b,0,m,f,e,d,g=>by simp at e d;subst e;subst d;show Y6 a ((p,w)::P.zip b) m p=_;unfold Y6;rw[pL λv j=>(Sb.mp f).1 (UB j).1,if_pos g];simp|p::P,w::b,i+1,m,f,e,d,g=>by show Y6 a ((p,w)::P.zip b) m x=_;unfold Y6;exact pN (i:=i) (Sb.mp f).2 (by simpa using e) (by simpa using d) g
theorem pO{a:Str->Option Tu}{x:Str}{v:D}:∀{P:List Str}{b:List D}{i:Nat}{m:Str->Option D},P.Nodup->P[i]?=Z x->b[i]?=Z v->a x≠Z .local->Y7 a (P.zip b) m x=Z v|[],_,_,_,_,h,_,_=>by simp at h|_::_,[],_,_,_,_,h,_=>by simp at h|p::P,w::b,0,m,f,e,d,g=>by simp at e d;subst e;subst d;show Y7 a ((p,w)::P.zip b) m p=_;unfold Y7;rw[pM λv j=>(Sb.mp f).1 (UB j).1,if_neg g];simp|p::P,w::b,i+1,m,f,e,d,g=>by show Y7 a ((p,w)::P.zip b) m x=_;unfold Y7;exact pO (i:=i) (Sb.mp f).2 (by simpa using e) (by simpa using d) g
noncomputable def start(N:List Str)(a:List V):St:=a.map Z++L_ (N.length-a.length) Y
noncomputable def kq(h:Ĵ)(P:n_)(w:w_)(K:d_)(mg:Str->Option D)(base:J_)(N:List Str)(b:Str)(a:RS)(f:B)(g:D)(A:xy)(outer:List Env)(s:g_)(H:Hp)(E:XK):C where prog:=P;w:=w;K:=K;mg:=mg;base:=base;A:=A.deeper (Sq b a s.heap.objs.size f g);N:=N;s₀:=s;H₀:=H;env:=Sq b a s.heap.objs.size f g;outer:=outer;stack:=Sq b a s.heap.objs.size f g::outer;ex:=[];calm:=U;fn:=λ_=>U;pn:=[];xe:=λe i=>uk (x_ P w) (A.deeper (Sq b a s.heap.objs.size f g)) (leaving (Sq b a s.heap.objs.size f g) e) (λ_ d=>h outer H s E e d) (λj d=>h outer H s E j d) i
variable{η:RS}
theorem ua(h:η.names.lookup b=Z .cell):∃c,(Ri d η.names []).lookup b=Z c:=by have q:=TF η.names d [] (.inl h);exact Tn.mp q
theorem lJ{CX:Ĵ}{ps:List Str}{A:List Env}{s1:g_}{o:XK}(S:dO z ps η)(hd:E.handled=Y)(P:ĕ p m u Α I E A f h)(hl:μ.length=ps.length)(r:Ð μ ξ)(x:InCallC f f.heap.objs.size (Y6 (Sq b η f.heap.objs.size e Ε).kindOf (ps.zip ξ) λ_=>Y) (Ri (f.heap.objs.size+1) η.names []) (Y7 (Sq b η f.heap.objs.size e Ε).kindOf (ps.zip ξ) λ_=>Y) s1):Ì (kq CX p m u Α I z b η e Ε E A f h o) [] (start z μ) h s1:=by
 have c':ps.length<=z.length:=by have:=congrArg Vu S.pre;rw[WB]at this;omega
 obtain⟨h1,tk,rfl,hk⟩:=x.done;have a':∀d:B,d∉(kq CX p m u Α I z b η e Ε E A f h o).ex:=λd g=>absurd (show d∈([]:List B)from g) (by simp);refine⟨⟨P.mod,S.kind,rfl,rfl,s_ _,λy g c h1 H=>?_,λy hy=>?_,λy c _ j=>?_,λ_=>hd,Xv P.frames,.inr ⟨rfl,rfl⟩,λd g=>absurd g (a' d),P.bs,P.bsz,λd _ _=>a' d,λd g=>absurd g (a' d),P.funs,P.frf⟩,rfl,P.bare,Un.kept hk,⟨_,x.toInCall.ns,λi y v h1 H h3=>?_⟩,λy c j=>⟨_,x.cell y c j⟩,P.hok.fresh (s_ _),λy c j=>?_,λw hp=>absurd (show w∈([]:List (B×Obj))from hp) (by simp),P.hok.kept hk,?_⟩;·exact name_of_addr x.apart (Tp h1) (Tp H)
 · have hy:η.names.lookup y=Z .cell\/η.names.lookup y=Z .free:=hy;rcases hy with hy|hy;·exact ua hy
   ·exact absurd rfl (S.nofree _ (Tp hy))
 ·exact SN (x.above y c (Tp j))
 · have hi:i<μ.length:=by
    unfold start at H;by_cases hi:i<μ.length;·exact hi
    ·rw[Sm (by simpa using hi)]at H;rw[UL]at H;split at H<;>cases H
   have ha:μ[i]?=Z v:=by unfold start at H;rw[Sr (by simpa using hi),Rg]at H;cases n:μ[i]? with|none=>rw[n]at H;cases H|some a=>rw[n]at H;cases H;rfl
   obtain⟨t,hu,rv⟩:=r.get ha;have hp:ps[i]?=Z y:=by rw[<-S.pre,Wj (by omega)];exact h1
   have b':ps.Nodup:=by rw[<-S.pre];exact S.nd.sublist (List.take_sublist _ _)
   refine⟨t,rv,?_⟩;rcases S.par y (Q0 hp)with k|k;·exact .inl ⟨k,pN b' hp hu k⟩
   ·obtain⟨c,n⟩:=ua (d:=f.heap.objs.size+1) k;refine .inr ⟨.inl k,c,n,?_⟩;have q:=x.cell y c n;rw[pO b' hp hu (by show η.names.lookup y≠_;rw[k];decide)]at q;exact q
 ·exact P.hok.fresh (SN (x.above y c (Tp j)))
 ·unfold start;show _=z.length;rw[Ry,QL,TZ];omega
theorem vf{CX:Ĵ}{P:n_}{w:w_}{K:d_}{mg:Str->Option D}{i:J_}{k:Nat}{f:B}{a' g:Str}{j:Arguments}{m:List Re}{a:RS}{dV kV g' pm h ct oc:D}{an od:Option B}{h':Array (Option D)}{N ps:List Str}{sp:Sp}(lk:K.lookup f=Z ⟨oc,od,.func (Sv a' g j m a dV kV g' pm an h ct),h'⟩)(j':US K h g=U)(S:dO N ps a)(d':∀p H Q E,sp p H Q E->p.length=ps.length)(c':∀(A:xy)(d:List Env)(s:g_)(H:Hp)(p:List V)(Q:VK)(E:XK),Ø k (A.deeper (Sq g a s.heap.objs.size f h))->sp p H Q E->∃t,ķ (kq CX P w K mg i N g a f h A d s H E) m t/\t {nx:=λ_ H'=>Q .non H',rt:=Q} (start N p) H):è P w K mg i CX (k+1) f (Sv a' g j m a dV kV g' pm an h ct) ps sp:=by
 refine⟨d',λA d s H k' us p Q E hr e0 hb r e'=>?_⟩;have hl:=d' _ _ _ _ e';have KX:K.In s.heap:=e0.mod.kin.keeps λb o e=>(e0.bs b o e).1;have i':s.heap.NoLimit:=e0.mod.nolimit.keeps λb o e=>(e0.bs b o e).1;have b':∀y∈ps.zip us,a.names.lookup y.1=Z .local\/(a.names.lookup y.1=Z .cell/\((Ri (s.heap.objs.size+1) a.names []).lookup y.1).isSome=U):=λ⟨n,v⟩hy=>by
  rcases S.par n (UB hy).1 with q|q;·exact .inl q
  ·exact .inr ⟨q,TF _ _ _ (.inl q)⟩
 refine Xa hr.depth (KX _ _ lk) rfl S.co S.gen rfl (X5 KX j') (hb _ _ _ _ ?_);refine Ud S.kind b' λl' he s1 x=>?_;subst he;refine⟨i'.keeps x.toInCall.keep,codeAny_func ?_⟩;obtain⟨t,ht,hq⟩:=c' A d s H p Q E (hr.deeper _) e';have I:Ì (kq CX P w K mg i N g a f h A d s H E) [] (start N p) H s1:=lJ S hr.hd e0 hl r x;refine QX (ht [] s1 (start N p) H _ I hq) (λfl s' hs=>?_) λe s' hs=>hs;have f':∀{z:St}{H':Hp}{v:V}{u:D},Ì (kq CX P w K mg i N g a f h A d s H E) [] z H' s'->Ü v u->Q v H'->CE d P w H s Q u s':=λ{z H' v u}J rv q=>⟨v,H',J.os,J.bare,J.base,J.hok,rv,q⟩;cases fl with|ret u=>obtain⟨v,z,H',J,rv,q⟩:=hs;exact f' J rv q|next=>obtain⟨z,H',J,q⟩:=hs;exact f' (v:=V.non) (u:=H_) J rfl q|brk=>obtain⟨_,_,_,q⟩:=hs;exact QN q|cont=>obtain⟨_,_,_,q⟩:=hs;exact QN q
def tCB(r:List V->Hp->VK->Prop)(t:TA):TE:=λa H Q=>t a H λb d=>r b d Q
theorem gY{d:TA}{k:String}{r:List V->Hp->VK->Prop}(P:ó a (.builtin k) r)(A:Gl a b)(z:a.mg b=Y)(v:R_ b=Z (.builtin k))(ha:PA a (g::t) d)(y:b≠"__name__":=by decide)(f:(b==("__debug__":Str))=L:=by decide)(E:k_ (g::t) a.env=(L,eval g a.env)::k_ t a.env:=by rfl)(e:(O_ w (k_ t a.env)).any (·.1)=L:=by rfl):PE a (.Call (.Name b o) (g::t) [] w) (tCB r d):=by intro j s i H Q I h;refine RD (gD I A z v ?_ y f);exact Tv (â (ha w j s i H _ I h) λn p⟨m,H1,I1,q,u⟩=>P j p i H1 m n Q I1 q u) E e
theorem jS{d:TA}{T:String}{r:List V->Hp->VK->Prop}(E:ó a (.type T) r)(z:Gl a b)(y:a.mg b=Y)(u:R_ b=Z (.type T))(P:PA a (g::t) d)(v:b≠"__name__":=by decide)(f:(b==("__debug__":Str))=L:=by decide)(A:k_ (g::t) a.env=(L,eval g a.env)::k_ t a.env:=by rfl)(e:(O_ w (k_ t a.env)).any (·.1)=L:=by rfl):PE a (.Call (.Name b o) (g::t) [] w) (tCB r d):=by intro j s i H Q I h;refine RD (gD I z y u ?_ v f);exact Rz (â (P w j s i H _ I h) λm n⟨k,H1,I1,p,q⟩=>E j n i H1 k m Q I1 p q) A e
end L2
variable{μ:List L2.V}{ξ:List D}{h:L2.Hp}{e v:B}{Ζ:L2.Hp}{É:J_}{Ã:List B}{a:L2.C}{ζ:List (B×Obj)}{Ä:List (Option L2.V)}{z:List Str}{Æ:T_}{E:xy}{ο:D->g_->Prop}{b:Str}{Κ:L2.V}{Ε:D}{g:u_}{o:Pos}{Φ:L2.St}{Å:D->g_->Prop}{Á:L2.TE}{P:u_}{t:List u_}{u:d_}{Ξ:List Re}{τ:Re}{r:Nat}{w:Pos}{Δ:Array D}{k π:Int}{A Χ:Bool}{i:Str}{Ê:L2.VK}{Α:Str->Option D}{Ι:B}{Â:Rj}{η:RS}
namespace HT
theorem cat_tup{b:List D}(H:Zd f.heap e ξ.toArray)(I:Zd f.heap v b.toArray)(u:ξ≠[])(h1:b=[]->Å (.ref e) f)(P:b≠[]->Å (.ref f.heap.objs.size) {f with heap:=f.heap.push {cls:=.type "tuple",data:=.seq (ξ++b).toArray}})(q:ξ.length+b.length<=sizeLine):uk (x_ p m) E (Tc .Add (.ref e) (.ref v)) Å ο f:=by
 obtain⟨⟨cls,z,data,r⟩,o,y,n,w⟩:=id H;obtain⟨⟨A,j,data2,g⟩,d,i,t,h⟩:=id I;simp only at y w i h;subst y w i h;have a:ξ.toArray++b.toArray=(ξ++b).toArray:=by simp
 by_cases k:b=[]
 ·exact Yd ⟨_,o,rfl⟩ ⟨_,d,rfl⟩ Wp XY UV UJ (Uv _ _) (tuple_addW1 e v ξ.toArray b.toArray n t z j r g (by simpa using u) (by simp[k])) ⟨o,d,h1 k⟩
 ·refine Yd ⟨_,o,rfl⟩ ⟨_,d,rfl⟩ Wp XY UV UJ (Uv _ _) (tuple_addW2 e v ξ.toArray b.toArray n t z j r g (by simpa using u) (by simpa using k) (by rw[E_,E_];exact q)) ⟨o,d,?_⟩;rw[a];exact P k
noncomputable def sIx(n d:Nat):Option Int->Nat|none=>d|some v=>if v<0 then(v+(n:Int)).toNat else min v.toNat n
theorem Iq(n d:Nat)(b:d<=n)(o:Option Int):sIx n d o<=n:=by cases o with|none=>exact b|some v=>
 show(if v<0 then(v+(n:Int)).toNat else min v.toNat n)<=n;by_cases a:v<0;·rw[if_pos a];omega
 ·rw[if_neg a];exact YE _ _
theorem wL(v:Int)(n d:Nat):(if v<0 then max (v+(n:Int)) 0 else min v (n:Int))=((sIx n d (Z v):Nat):Int):=by
 show(if v<0 then max (v+(n:Int)) 0 else min v (n:Int))=(((if v<0 then(v+(n:Int)).toNat else min v.toNat n):Nat):Int);by_cases a:v<0;·simp only[if_pos a];omega
 ·simp only[if_neg a];omega
theorem vg(a b:Option Int)(n:Nat):Ur a b 1 (n:Int)=(((sIx n 0 a:Nat):Int),((sIx n n b:Nat):Int)):=by
 have d:¬((1:Int)<0):=by omega
 unfold Ur;simp only[d,if_false];refine Prod.ext ?_ ?_;·cases a with|none=>rfl|some v=>exact wL v n 0
 ·cases b with|none=>rfl|some v=>exact wL v n n
theorem vh(i j:Nat):S5 (i:Int) (j:Int) 1=j-i:=by
 unfold S5;have a:(1:Int)>0:=by omega
 simp only[a,if_true,Int.ediv_one];split<;>omega
variable{Η:Option Int}
theorem mZ{Q:Option Int->g_->Prop}(a:WO Ε Η)(h:Q Η f):uk (x_ p m) E (Builtin.Slice.slicePartIndex Ε) Q ο f:=by cases a with|none=>exact slicePart_none h|int i t=>exact slicePart_int h
variable{Ρ:Option Int}
theorem sliceApplied_gen{g:D}{Q:Int×Int×Nat->g_->Prop}(k:f.heap.IsSliceOf e Ε g .none)(j:WO Ε Η)(i:WO g Ρ)(h:Q (((sIx d 0 Η:Nat):Int),1,sIx d d Ρ-sIx d 0 Η) f):uk (x_ p m) E (VZ (.ref e) (pure (d:Int))) Q ο f:=by obtain⟨os,a,n,b⟩:=id k;unfold VZ Builtin.Slice.sliceFields;refine e_ (e_ (RL a b (x:=Ε) rfl (e_ (RL a b (x:=g) rfl (e_ (RL a b (x:=.none) rfl (m_ ?_)))))));refine e_ (slicePart_none ?_);show uk _ _ (if((1:Int)==0)=U then _ else _) _ _ f;rw[if_neg (by decide)];refine e_ (mZ j (e_ (mZ i (e_ (m_ ?_)))));show uk _ _ (match Ur Η Ρ 1 (d:Int)with|(Η,Ρ)=>pure (Η,(1:Int),S5 Η Ρ 1)) _ _ f;rw[vg Η Ρ d];show uk _ _ (pure (((sIx d 0 Η:Nat):Int),(1:Int),S5 ((sIx d 0 Η:Nat):Int) ((sIx d d Ρ:Nat):Int) 1)) _ _ f;rw[vh];exact m_ h
theorem Az(a:Array D)(i k:Nat):((rl k).filterMap λ(m:Nat)=>a[((i:Int)+(m:Int)*1).toNat]?).toArray=((a.toList.drop i).take k).toArray:=by
 have e:(λ(m:Nat)=>a[((i:Int)+(m:Int)*1).toNat]?)=λm=>a[i+m]?:=by
  funext m;have:((i:Int)+(m:Int)*1).toNat=i+m:=by omega
  rw[this]
 rw[e];have:=pick_run a i k;rw[V5]at this;have b:((λx=>a[x]?)∘λx=>i+x)=λm=>a[i+m]?:=rfl;rw[b]at this;rw[this]
theorem getItem_tuple_cut{k:D}(b:Zd f.heap e Δ)(n:f.heap.IsSliceOf v Ε k .none)(r:WO Ε Η)(o:WO k Ρ)(t:¬(sIx Δ.size 0 Η=0/\sIx Δ.size Δ.size Ρ=Δ.size))(h:Å (.ref f.heap.objs.size) {f with heap:=f.heap.push {cls:=.type "tuple",data:=.seq ((Δ.toList.drop (sIx Δ.size 0 Η)).take (sIx Δ.size Δ.size Ρ-sIx Δ.size 0 Η)).toArray}})(u:Δ.size<=sizeLine):uk (x_ p m) E (WI (.ref e) (.ref v)) Å ο f:=by
 have a:sizeOk (.seq ((Δ.toList.drop (sIx Δ.size 0 Η)).take (sIx Δ.size Δ.size Ρ-sIx Δ.size 0 Η)).toArray):=by show((Δ.toList.drop (sIx Δ.size 0 Η)).take (sIx Δ.size Δ.size Ρ-sIx Δ.size 0 Η)).toArray.size<=sizeLine;rw[E_,WB,Ve,Rb];omega
 have A:sIx Δ.size Δ.size Ρ<=Δ.size:=Iq _ _ (s_ _) Ρ;obtain⟨os,d,i,w⟩:=id n;have j:f.TypeIs (.ref v) "slice":=⟨os,d,i⟩;unfold WI;try with_reducible refine Rv ?_
 first|refine e_ (m_ ?_)|skip
 refine e_ (wpAny_sequenceKey b.typeIs (by decide) ?_);refine e_ (Rf (name:=b_ "__getitem__") b.typeIs RA (Ro RA b.typeIs entry_tuple_getitem ?_ (args_tuple_getitem _ _)));show uk _ _ (VY (.ref e)>>=_) _ _ f;refine e_ (tupleItemsOf_ b ?_);refine e_ (Ul j ?_);rw[if_pos (by decide)];refine e_ (sliceApplied_gen n r o ?_);have g:¬((((sIx Δ.size 0 Η:Nat):Int)==0&&(1:Int)==1&&(sIx Δ.size Δ.size Ρ-sIx Δ.size 0 Η)==Δ.size)=U):=by intro q;rw[p_,p_]at q;have z:((sIx Δ.size 0 Η:Nat):Int)=0:=XJ q.1.1;have y:sIx Δ.size Δ.size Ρ-sIx Δ.size 0 Η=Δ.size:=XJ q.2;exact t ⟨by omega,by omega⟩
 show uk _ _ (if(((sIx Δ.size 0 Η:Nat):Int)==0&&(1:Int)==1&&(sIx Δ.size Δ.size Ρ-sIx Δ.size 0 Η)==Δ.size)=U then _ else _) _ _ f;rw[if_neg g,Az];first|exact e_ (m:=Tl _) (Ra (m_ ⟨_,rfl,m_ h⟩) a)|exact e_ (m:=Tl _) (Ra (e_ (m_ (m_ ⟨_,rfl,m_ h⟩))) a)|exact e_ (e_ (m:=Tl _) (Ra (m_ (m_ ⟨_,rfl,m_ h⟩)) a))|exact e_ (e_ (m:=Tl _) (Ra (m_ ⟨_,rfl,m_ h⟩) a))
end HT
variable{Η Ρ:Option Int}
namespace L2
abbrev TO:=St->Hp->(Option Int->Hp->Prop)->Prop
def PO(X:C)(e:Option u_)(t:TO):Prop:=∀(b:List (B×Obj))(s:g_)(a:St)(H:Hp)(Q:Option Int->Hp->Prop),Ì X b a H s->t a H Q->uk (x_ X.prog X.w) X.A (evalPart e X.env) (λu f=>∃o d,Ì X b a d f/\WO u o/\Q o d) X.xe s
noncomputable def Ee:TO:=λ_ H Q=>Q Y H
noncomputable def M5(t:TE):TO:=λa H Q=>t a H λx b=>∃i,x=.int i/\Q (Z i) b
theorem Ef:PO a Y Ee:=by intro d s b H Q I h;rw[evalPart_none];exact m_ ⟨Y,H,I,.none,h⟩
theorem Eg(h:PE a g Á):PO a (Z g) (M5 Á):=by intro f s b H Q I j;rw[evalPart_some];refine â (h f s b H _ I j) λu n⟨x,m,k,d,e⟩=>?_;obtain⟨i,rfl,q⟩:=e;obtain⟨t,rfl⟩:=d;exact⟨Z i,m,k,.int i t,q⟩
def Ŧ(X:C)(r:V->Option Int->Option Int->Hp->VK->Prop):Prop:=∀(f:List (B×Obj))(s:g_)(a:St)(H:Hp)(x:V)(v d b:D)(lo g:Option Int)(e:B)(Q:VK),Ì X f a H s->Ü x v->s.heap.IsSliceOf e d b .none->WO d lo->WO b g->r x lo g H Q->∃T id,typeLookup (.type T) "__getitem__"=pure (Z (.builtin id))/\s.TypeIs v T/\uk (x_ X.prog X.w) X.A (WI v (.ref e)) (EP X f a Q) X.xe s
theorem Ŧ.or{r j:V->Option Int->Option Int->Hp->VK->Prop}(h:Ŧ a r)(p:Ŧ a j):Ŧ a (λx lo b H Q=>r x lo b H Q\/j x lo b H Q):=by
 intro n s d H x v f e lo b g Q I i o m k q;rcases q with q|q;·exact h n s d H x v f e lo b g Q I i o m k q
 ·exact p n s d H x v f e lo b g Q I i o m k q
def tSl(r:V->Option Int->Option Int->Hp->VK->Prop)(e:TE)(b d:TO):TE:=λa H Q=>e a H λx h=>b a h λl g=>d a g λu f=>r x l u f Q
theorem ub{k m:Option u_}{n p:TO}{r:V->Option Int->Option Int->Hp->VK->Prop}(hr:Ŧ a r)(he:PE a g Á)(hl:PO a k n)(hu:PO a m p):PE a (.Subscript g (.Slice k m Y w) o) (tSl r Á n p):=by intro f s e H Q I h;refine Subscript_ (â (he f s e H _ I h) λv z⟨x,H1,I1,A,q1⟩=>?_);refine wpAny_Slice (â (hl f z e H1 _ I1 q1) λj y⟨l,H2,I2,pl,P⟩=>â (hu f y e H2 _ I2 P) λi d⟨u,t,I3,pu,E⟩=>?_);rw[evalPart_none];refine m_ ?_;have I4:Ì a f e t {d with heap:=d.heap.push {cls:=.type "slice",data:=.fields #[j,i,.none]}}:=I3.kept (t':=d.toks) λb ob q=>j_ _ q;obtain⟨T,id,hT,ht,hg⟩:=hr f {d with heap:=d.heap.push {cls:=.type "slice",data:=.fields #[j,i,.none]}} e t x v j i l u d.heap.objs.size Q I4 A (Heap.IsSliceOf.new ..) pl pu E;show uk (x_ a.prog a.w) a.A (subscriptTail g (.Slice k m Y w) v (.ref d.heap.objs.size)) (EP a f e Q) a.xe {d with heap:=d.heap.push {cls:=.type "slice",data:=.fields #[j,i,.none]}};exact tail_any (ops:=[.ref d.heap.objs.size,v]) ht hT hg (by with_unfolding_all rfl)
def AA(a:List V)(b d:Option Int):List V:=(a.drop (HT.sIx a.length 0 b)).take (HT.sIx a.length a.length d-HT.sIx a.length 0 b)
theorem lK(a:List V)(b d:Option Int):(AA a b d).length<=a.length:=by unfold AA;rw[WB,Ve];omega
def PU(K:d_):V->Option Int->Option Int->Hp->VK->Prop:=λx lo d H Q=>∃a b,x=.ref a/\ü K H a b/\¬(HT.sIx b.length 0 lo=0/\HT.sIx b.length b.length d=b.length)/\∀p,H p=Y->Q (.ref p) (Ý H p (.tup (AA b lo d)))
theorem sl_tup:Ŧ a (PU a.K):=by
 intro P s w H x v z y lo g A Q I m u o n h;obtain⟨d,f,rfl,p,t,q⟩:=h;cases m;obtain⟨i,r,k,j⟩:=I.tuple p;have e:i.toArray.size=f.length:=by rw[E_];exact r.length.symm
 refine⟨"tuple",_,RA.lookup,k.typeIs,?_⟩;refine HT.getItem_tuple_cut k u o n (by rw[e];exact t) ?_ (by rw[e];exact j);rw[e];refine⟨.ref s.heap.objs.size,_,I.laid (t':=s.toks) (o:=.tup (AA f lo g)) (λb E q=>j_ _ q) (s_ _) ?_,rfl,q _ (I.hok.fresh (s_ _))⟩;exact⟨QV (lK f lo g) j,_,(r.drop (HT.sIx f.length 0 lo)).take (HT.sIx f.length f.length g-HT.sIx f.length 0 lo),Zn _ _⟩
def Ir(K:d_):R2:=λx y H Q=>∃a b e d,x=.ref a/\y=.ref b/\ü K H a e/\ü K H b d/\e≠[]/\e.length+d.length<=sizeLine/\(d=[]->Q (.ref a) H)/\(d≠[]->∀p,H p=Y->Q (.ref p) (Ý H p (.tup (e++d))))
theorem Ð.nil_iff(r:Ð μ ξ):ξ=[]↔μ=[]:=by cases r with|nil=>simp|cons _ _=>simp
theorem op_catT:û a (Tc .Add) (Ir a.K):=by intro j' s σ H x y v u Q I n m h;obtain⟨d,b,k,j,rfl,rfl,P,E,A,g,p,o⟩:=h;cases n;cases m;obtain⟨a',f,t,_⟩:=I.tuple P;obtain⟨i,e,r,_⟩:=I.tuple E;refine HT.cat_tup t r (λz=>A (f.nil_iff.mp z)) (λz=>⟨.ref d,H,I,rfl,p (e.nil_iff.mp z)⟩) (λz=>?_) (by rw[<-f.length,<-e.length];exact g);refine⟨.ref s.heap.objs.size,_,I.laid (t':=s.toks) (o:=.tup (k++j)) (λb ob q=>j_ _ q) (s_ _) ?_,rfl,o (λw=>z (e.nil_iff.mpr w)) _ (I.hok.fresh (s_ _))⟩;exact⟨by rw[Ry];exact g,_,f.append e,Zn _ _⟩
noncomputable def Ź(n:Nat)(i:Int):Option Nat:=if 0<=i then(if i<n then Z i.toNat else Y)else if-(n:Int)<=i then Z (i+n).toNat else Y
def KE(a:List υ)(i:Int):Option υ:=(Ź a.length i).bind λj=>a[j]?
theorem wM(h:Ź d k=Z r):seqIndex? k d=Z r/\r<d/\-(d:Int)<=k/\k<d:=by
 unfold Ź at h;by_cases b:0<=k
 · rw[if_pos b]at h;by_cases a:k<d;·rw[if_pos a]at h;have e:k.toNat=r:=Q4 h;exact⟨by rw[YL b a,e],by omega,by omega,a⟩
   ·rw[if_neg a]at h;cases h
 · rw[if_neg b]at h;by_cases a:-(d:Int)<=k;·rw[if_pos a]at h;have e:(k+d).toNat=r:=Q4 h;exact⟨by rw[seqIndex_neg (by omega) a,e],by omega,a,by omega⟩
   ·rw[if_neg a]at h;cases h
theorem rO{a:List υ}{v:υ}(h:KE a k=Z v):∃j,seqIndex? k a.length=Z j/\a[j]?=Z v/\j<a.length/\-(a.length:Int)<=k/\k<a.length:=by unfold KE at h;cases e:Ź a.length k with|none=>rw[e]at h;cases h|some j=>rw[e]at h;obtain⟨g,f,d,b⟩:=wM e;exact⟨j,g,h,f,d,b⟩
def wN(b:u_):Prop:=∀o i,YJ b L o i=operate [o,i] (WI o i)
def ū(X:C)(r:R2):Prop:=∀(b a:u_)(e:List (B×Obj))(s:g_)(d:St)(H:Hp)(x y:V)(v u:D)(Q:VK),Ì X e d H s->Ü x v->Ü y u->r x y H Q->YJ a L v u=operate [v,u] (WI v u)->uk (x_ X.prog X.w) X.A (subscriptTail b a v u) (EP X e d Q) X.xe s
def Ķ(X:C)(f:String)(r:V->List V->Hp->VK->Prop):Prop:=∀(e:List (B×Obj))(s:g_)(a:St)(H:Hp)(x:V)(b:List V)(v:D)(d:List D)(Q:VK),Ì X e a H s->Ü x v->Ð b d->r x b H Q->uk (x_ X.prog X.w) X.A (call (.builtin f) (v::d)) (EP X e a Q) X.xe s
theorem ū.or{r i:R2}(h:ū a r)(m:ū a i):ū a (λx y H Q=>r x y H Q\/i x y H Q):=by
 intro b d j s e H x y v u Q I g f q k;rcases q with q|q;·exact h b d j s e H x y v u Q I g f q k
 ·exact m b d j s e H x y v u Q I g f q k
theorem Ķ.or{d:String}{r j:V->List V->Hp->VK->Prop}(h:Ķ a d r)(m:Ķ a d j):Ķ a d (λx b H Q=>r x b H Q\/j x b H Q):=by
 intro k s e H x b v f Q I g i q;rcases q with q|q;·exact h k s e H x b v f Q I g i q
 ·exact m k s e H x b v f Q I g i q
theorem M6{b:TE}{r:R2}(m:ū a r)(p:PE a g Á)(n:PE a P b)(k:wN P):PE a (.Subscript g P o) (R' r Á b):=by intro j s d H Q I h;exact Subscript_ (MV p n I h λv u e x y w t i f q=>m g P j e d w x y v u Q t i f q (k _ _))
def OV(K:d_):R2:=λx y H Q=>∃p a i v,x=.ref p/\y=.int i/\ô K H p a/\KE a i=Z v/\Q v H
def OW(K:d_):R2:=λx y H Q=>∃p a i v,x=.ref p/\y=.int i/\ü K H p a/\KE a i=Z v/\Q v H
def OX:R2:=λx y H Q=>∃z i c,x=.str z/\y=.int i/\z.length<=sizeLine/\KE z.cps.toList i=Z c/\Q (.str ⟨#[c]⟩) H
theorem ix_list:ū a (OV a.K):=by
 intro m n A s o H x y v u Q I rx ry h E;obtain⟨p,xs,i,z,rfl,rfl,hq,he,q⟩:=h;cases rx;obtain⟨t,rfl⟩:=ry;obtain⟨k,r,e,hz⟩:=I.list hq;obtain⟨j,d,h2,h3,h4,h5⟩:=rO he;obtain⟨w,ew,g⟩:=r.get h2;have hl:=r.length;have hn:=pK;have b:EP a A o Q w s:=⟨z,H,I,g,q⟩;by_cases P:0<=i
 · have f:i.toNat=j:=by rw[YL P h5]at d;exact Q4 d
   exact item_listR e.isList P (by omega) (by rw[f];simpa using ew) b E
 · have f:(i+(k.toArray.size:Int)).toNat=j:=by rw[seqIndex_neg (by omega) h4]at d;rw[E_,<-hl];exact Q4 d
   exact WT (x:=w) e.isList.typeIs slot_list_getitem.lookup (wpAny_getItem_list_neg (Q:=λr s'=>r=w/\EP a A o Q r s') e.isList (by omega) (by rw[E_]<;>omega) (by omega) (by rw[f];simpa using ew) ⟨rfl,b⟩) E
theorem ix_tup:ū a (OW a.K):=by intro e f m s g H x y v u Q I A o h E;obtain⟨p,xs,i,z,rfl,rfl,P,he,q⟩:=h;cases A;obtain⟨t,rfl⟩:=o;obtain⟨a',r,k,hz⟩:=I.tuple P;obtain⟨j,h1,h2,h3,h4,h5⟩:=rO he;obtain⟨w,ew,b⟩:=r.get h2;have hl:=r.length;have hn:=pK;have d:EP a m g Q w s:=⟨z,H,I,b,q⟩;exact WT (x:=w) k.typeIs slot_tuple_getitem.lookup (getItem_tuple (j:=j) (Q:=λr n=>r=w/\EP a m g Q r n) k (by omega) (by omega) (by rw[E_,<-hl];exact h1) (by simpa using ew) ⟨rfl,d⟩) E
theorem Iu:ū a OX:=by
 intro b d j' s E H x y v u Q I g f h k;obtain⟨z,i,c,rfl,rfl,hz,n,q⟩:=h;obtain⟨t,rfl⟩:=g;obtain⟨P,rfl⟩:=f;obtain⟨j,e,r,h3,p,o⟩:=rO n;have m:z.cps.toList.length=z.length:=by simp[VU]
 rw[m]at e p o;have hn:=pK;exact tail_any (Vd s z t) slot_str_getitem.lookup (getItem_str (c:=c) (by have A:A_ (i< -(2^63:Int))=L:=decide_eq_false (by omega);have w:A_ (i>=2^63)=L:=decide_eq_false (by omega);rw[A,w,Bool.or_false]) (by rw[e];simpa using r) ⟨.str ⟨#[c]⟩,H,I.tok _,⟨_,rfl⟩,q⟩) k
def rIx(K:d_):R2:=λx y H Q=>OV K x y H Q\/OW K x y H Q\/OX x y H Q
theorem Iv:ū a (rIx a.K):=ix_list.or (ix_tup.or Iu)
theorem vi(a:List D)(n j:Nat)(u:D):Q3 (·.setIfInBounds j u) {cls:=.type "list",data:=.seq a.toArray n}={cls:=.type "list",data:=.seq (a.set j u).toArray n}:=by simp[Q3]
theorem Ì.lst(I:Ì a ζ Φ h f)(b:h e=Z (.lst μ)):∃(g:List D)(n:Nat),Ð μ g/\f.heap.get? e=Z {cls:=.type "list",data:=.seq g.toArray n}/\μ.length<=sizeLine:=by obtain⟨z,g,n,r,d⟩:=I.hok e _ b;exact⟨g,n,r,d,z⟩
theorem Ì.lstUpd{n:List V}{m:List D}{g:Obj->Obj}(I:Ì a ζ Φ h f)(k:h e=Z (.lst μ))(v:f.heap.get? e=Z {cls:=.type "list",data:=.seq ξ.toArray d})(o:g {cls:=.type "list",data:=.seq ξ.toArray d}={cls:=.type "list",data:=.seq m.toArray r})(j:Ð n m)(p:n.length<=sizeLine)(t:Nat):Ì a ζ Φ (Ý h e (.lst n)) {f with heap:=f.heap.update e g,toks:=t}:=by
 have i:(f.heap.update e g).get? e=Z {cls:=.type "list",data:=.seq m.toArray r}:=by rw[RV g v (by rw[o]<;>rfl),o]
 refine I.write (x:=e) (e:=e) (by rw[k];trivial) (.inl rfl) (λb u w q=>(SJ _ _ (SM w)).trans q) ⟨_,i⟩ ?_;exact⟨p,m,r,j,i⟩
def M7:V->V->V->Hp->(Hp->Prop)->Prop:=λo i v H Q=>∃p a k j,o=.ref p/\i=.int k/\H p=Z (.lst a)/\Ź a.length k=Z j/\Q (Ý H p (.lst (a.set j v)))
theorem AB:OP a M7:=by
 intro j' s E H o i v ov iv u Q I ro ri rv h;obtain⟨p,P,k,j,rfl,rfl,m,hj,q⟩:=h;cases ro;obtain⟨t,rfl⟩:=ri;obtain⟨b,n,r,e,hz⟩:=I.lst m;obtain⟨d,h2,y,w⟩:=wM hj;have f:=r.length;have hn:=pK;have A:Ì a j' E (Ý H p (.lst (P.set j v))) {s with heap:=s.heap.update p (Q3 (·.setIfInBounds j u))}:=I.lstUpd m e (vi b n j u) (r.set rv j) (by rw[Q5];exact hz) s.toks;by_cases z:0<=k
 · have g:k.toNat=j:=by rw[YL z w]at d;exact Q4 d
   exact PySem.W.ki_setAt e z (by omega) (by rw[E_,<-f];exact w) (by rw[g];exact⟨_,A,q⟩)
 · have g:(k+(b.toArray.size:Int)).toNat=j:=by rw[seqIndex_neg (by omega) y]at d;rw[E_,<-f];exact Q4 d
   exact PySem.W.ki_setBack e (by omega) (by rw[E_,<-f];exact y) (by omega) (by rw[g];exact⟨_,A,q⟩)
theorem pP(a b:Option Int)(n:Nat):(UG a b Y n).1=((HT.sIx n 0 a:Nat):Int)/\(UG a b Y n).2.1=((HT.sIx n n b:Nat):Int)/\(UG a b Y n).2.2=1:=by
 refine⟨?_,?_,rfl⟩;·cases a with|none=>simp[UG,HT.sIx]|some i=>
  simp only[UG,HT.sIx,YD,show(1:Int)>0 by decide,if_true];by_cases h:i<0;·simp only[h,if_true]<;>omega
  ·simp only[h,if_false]<;>omega
 ·cases b with|none=>simp[UG,HT.sIx]|some i=>
  simp only[UG,HT.sIx,YD,show(1:Int)>0 by decide,if_true];by_cases h:i<0;·simp only[h,if_true]<;>omega
  ·simp only[h,if_false]<;>omega
theorem oi(a:List D)(b d:Option Int):slicePick a.toArray b d Y=((a.drop (HT.sIx a.length 0 b)).take (HT.sIx a.length a.length d-HT.sIx a.length 0 b)).toArray:=by obtain⟨g,f,e⟩:=pP b d a.toArray.size;unfold slicePick;rw[g,f,e];simp only[sliceRange_one,pick_run,E_]<;>rfl
def PV(K:d_):V->Option Int->Option Int->Hp->VK->Prop:=λx lo d H Q=>∃a b,x=.ref a/\ô K H a b/\∀p,H p=Y->Q (.ref p) (Ý H p (.lst (AA b lo d)))
theorem wO:Ŧ a (PV a.K):=by intro E s u H x v y w lo g z Q I j p m k h;obtain⟨d,e,rfl,o,q⟩:=h;cases j;obtain⟨t,r,i,n⟩:=I.list o;have f:=r.length;refine⟨"list",_,slot_list_getitem.lookup,i.isList.typeIs,?_⟩;refine wpAny_getItem_list_slice i.isList p m k .none (by simp) ?_ (by rw[E_]<;>omega);rw[oi,<-f];refine⟨.ref s.heap.objs.size,_,I.laid (t':=s.toks) (o:=.lst (AA e lo g)) (λb A q=>j_ _ q) (s_ _) ?_,rfl,q _ (I.hok.fresh (s_ _))⟩;exact⟨QV (lK e lo g) n,_,0,(r.drop (HT.sIx e.length 0 lo)).take (HT.sIx e.length e.length g-HT.sIx e.length 0 lo),pi _ rfl⟩
noncomputable def iw:V->Bool|.non=>U|.bl _=>U|.int _=>U|.str _=>U|_=>L
noncomputable def ĳ:V->V->Bool|.non,.non=>U|.bl a,.bl b=>a==b|.bl a,.int b=>(if a then 1 else 0)==b|.int a,.bl b=>a==(if b then 1 else 0)|.int a,.int b=>a==b|.str a,.str b=>a==b|_,_=>L
theorem Iw{x:V}{v:D}(g:Ü Κ Ε)(d:Ü x v)(i:iw Κ=U)(h:iw x=U):SeqAt.EqAt E f Ε v (ĳ Κ x):=by cases Κ with
 |non=>cases g;cases x with|non=>cases d;exact SeqAt.EqAt.same _|bl b=>cases d;exact SeqAt.EqAt.none_bool b|int b=>obtain⟨t,rfl⟩:=d;exact SeqAt.EqAt.none_int b t|str b=>obtain⟨t,rfl⟩:=d;exact SeqAt.EqAt.none_str b t|_=>exact absurd (show L=U from h) B_
 |bl a=>cases g;cases x with|non=>cases d;exact SeqAt.EqAt.bool_none a|bl b=>cases d;exact SeqAt.EqAt.bool_bool a b|int b=>obtain⟨t,rfl⟩:=d;exact SeqAt.EqAt.bool_int a b t|str b=>obtain⟨t,rfl⟩:=d;exact SeqAt.EqAt.bool_str a b t|_=>exact absurd (show L=U from h) B_
 |int a=>obtain⟨e,rfl⟩:=g;cases x with|non=>cases d;exact SeqAt.EqAt.int_none a e|bl b=>cases d;exact SeqAt.EqAt.int_bool a e b|int b=>obtain⟨t,rfl⟩:=d;exact SeqAt.EqAt.int_int a e b t|str b=>obtain⟨t,rfl⟩:=d;exact X7 a e b t|_=>exact absurd (show L=U from h) B_
 |str a=>obtain⟨e,rfl⟩:=g;cases x with|non=>cases d;exact SeqAt.EqAt.str_none a e|bl b=>cases d;exact SeqAt.EqAt.str_bool a e b|int b=>obtain⟨t,rfl⟩:=d;exact X6 a e b t|str b=>obtain⟨t,rfl⟩:=d;exact SeqAt.EqAt.str_str a e b t|_=>exact absurd (show L=U from h) B_
 |_=>exact absurd (show L=U from i) B_
def ı(x:V)(u:D):Bool:=match u with|.none=>ĳ .non x|.bool b=>ĳ (.bl b) x|.int i _=>ĳ (.int i) x|.str z _=>ĳ (.str z) x|_=>L
theorem uc{y:V}(r:Ü y Ε)(f:iw y=U):ı Κ Ε=ĳ y Κ:=by cases y with|non=>cases r;rfl|bl b=>cases r;rfl|int i=>obtain⟨t,rfl⟩:=r;rfl|str z=>obtain⟨t,rfl⟩:=r;rfl|_=>exact absurd (show L=U from f) B_
theorem lL{x:V}:∀{a:List V}{b:List D},Ð a b->a.all iw=U->b.any (ı x)=a.any λy=>ĳ y x|_,_,.nil,_=>rfl|y::a,u::b,.cons r t,f=>by rw[SU,p_]at f;rw[Vm,Vm,uc r f.1,lL t f.2]
theorem gZ{A:xy}{s:g_}{x:V}{v:D}(e:Ü x v)(g:iw x=U):∀{b:List V}{d:List D},Ð b d->b.all iw=U->∀u∈d,SeqAt.EqAt A s u v (ı x u)
 |_,_,.nil,_=>λu a=>by cases a|y::b,u::d,.cons r t,f=>λh a=>by
  rw[SU,p_]at f;rcases t_.mp a with rfl|a;·rw[uc r f.1];exact Iw r e f.1 g
  ·exact gZ e g t f.2 h a
def inV(x:V)(a:List V):Bool:=a.any λy=>ĳ y x
def ZH(K:d_)(b:Bool):R2:=λx y H Q=>∃p a,y=.ref p/\(ô K H p a\/ü K H p a)/\iw x=U/\a.all iw=U/\Q (.bl (if b then !inV x a else inV x a)) H
theorem wP:û a (Rk .In) (ZH a.K L):=by
 intro o s m H x y v u Q I g j h;obtain⟨p,n,rfl,d,i,fs,q⟩:=h;cases j;rcases d with d|d;·obtain⟨b,r,e,k⟩:=I.list d;refine SeqAt.in_listAt (ı x) e.isList (λw f=>gZ g i r fs w (by simpa using f)) ⟨.bl _,H,I,rfl,?_⟩;rw[show b.toArray.any (ı x)=b.any (ı x)by simp,lL r fs];exact q
 ·obtain⟨b,r,e,k⟩:=I.tuple d;refine SeqAt.in_tupleAt (ı x) e (λw f=>gZ g i r fs w (by simpa using f)) ⟨.bl _,H,I,rfl,?_⟩;rw[show b.toArray.any (ı x)=b.any (ı x)by simp,lL r fs];exact q
theorem pQ:û a (Rk .NotIn) (ZH a.K U):=by
 intro o s m H x y v u Q I g j h;obtain⟨p,n,rfl,d,i,fs,q⟩:=h;cases j;rcases d with d|d;·obtain⟨b,r,e,k⟩:=I.list d;refine SeqAt.notIn_listAt (ı x) e.isList (λw f=>gZ g i r fs w (by simpa using f)) ⟨.bl _,H,I,rfl,?_⟩;rw[show b.toArray.any (ı x)=b.any (ı x)by simp,lL r fs];exact q
 ·obtain⟨b,r,e,k⟩:=I.tuple d;refine SeqAt.notIn_tupleAt (ı x) e (λw f=>gZ g i r fs w (by simpa using f)) ⟨.bl _,H,I,rfl,?_⟩;rw[show b.toArray.any (ı x)=b.any (ı x)by simp,lL r fs];exact q
theorem op_notIn_str:û a (Rk .NotIn) (λx y H Q=>∃i j,x=.str i/\y=.str j/\Q (.bl (!(!(Q_ j i 0 j.length 1).isEmpty))) H):=by intro g s e H x y v u Q I d b h;obtain⟨i,j,rfl,rfl,q⟩:=h;obtain⟨t,rfl⟩:=d;obtain⟨f,rfl⟩:=b;exact notIn_str ⟨.bl _,H,I,rfl,q⟩
theorem ó.or{r g:List V->Hp->VK->Prop}(h:ó a Ε r)(j:ó a Ε g):ó a Ε (λb H Q=>r b H Q\/g b H Q):=by
 intro i s d H b e Q I f q;rcases q with q|q;·exact h i s d H b e Q I f q
 ·exact j i s d H b e Q I f q
theorem pR:ó a (.type "list") (λE H Q=>∃p g,E=[.ref p]/\(ô a.K H p g\/ü a.K H p g)/\∀l,H l=Y->Q (.ref l) (Ý H l (.lst g))):=by
 intro j' s σ H E us Q I r h;obtain⟨p,g,rfl,m,q⟩:=h;obtain⟨u,rfl,rx⟩:=eQ r;cases rx;have t:∀(d:List D),Ð g d->g.length<=sizeLine->∀(f:J_)(j:Nat),(∀b P,s.heap.get? b=Z P->f.get? b=Z P)->f.get? s.heap.objs.size=Z {cls:=.type "list",dict:=Y,data:=.seq d.toArray j,slots:=#[]}->EP a j' σ Q (.ref s.heap.objs.size) {s with heap:=f}:=λd i k f j kp e=>⟨.ref s.heap.objs.size,_,I.laid (t':=s.toks) kp (s_ _) (show é a.prog a.w _ f _ (.lst g)from⟨k,d,j,i,e⟩),rfl,q _ (I.hok.fresh (s_ _))⟩;rcases m with m|m;·obtain⟨d,i,w,k⟩:=I.list m;have v:=i.length;obtain⟨o,y,A,n,z⟩:=w.isList;exact call_list_seq p (.inl rfl) y A z (λf j kp e=>t d i k f j kp e) (by simp only[E_]<;>omega)
 ·obtain⟨d,i,w,k⟩:=I.tuple m;have v:=i.length;obtain⟨o,y,A,n,z⟩:=w;exact call_list_seq p (.inr rfl) y A z (λf j kp e=>t d i k f j kp e) (by simp only[E_]<;>omega)
theorem oj:ó a (.type "tuple") (λn H Q=>∃p f,n=[.ref p]/\((ô a.K H p f/\∀l,H l=Y->Q (.ref l) (Ý H l (.tup f)))\/(ü a.K H p f/\Q (.ref p) H))):=by
 intro t s m H n E Q I r h;obtain⟨p,f,rfl,h⟩:=h;obtain⟨u,rfl,z⟩:=eQ r;cases z;rcases h with⟨k,q⟩|⟨k,q⟩
 ·obtain⟨d,i,j,v⟩:=I.list k;have y:=i.length;refine call_tuple_list j.isList (λg kp=>?_) (by simp only[E_]<;>omega);have w:Ì a t m H {s with heap:=g}:=I.kept (t':=s.toks) kp;have A:Ì a t m (Ý H g.objs.size (.tup f)) {s with heap:=g.push {cls:=.type "tuple",data:=.seq d.toArray}}:=w.laid (t':=s.toks) (λb o e=>j_ _ e) (s_ _) (show é a.prog a.w _ _ _ (.tup f)from⟨v,d,i,Zn _ _⟩);exact⟨.ref g.objs.size,_,A,rfl,q _ (w.hok.fresh (s_ _))⟩
 ·obtain⟨d,i,j,v⟩:=I.tuple k;exact call_tuple_same j ⟨.ref p,H,I,rfl,q⟩
def tyV(K:d_)(T:String)(x:V)(H:Hp):Prop:=match x with|.str _=>T="str"|.int _=>T="int"|.ref p=>(T="list"/\∃b,ô K H p b)\/(T="tuple"/\∃o,K.lookup p=Z o/\o.cls=.type "tuple"/\o.dict=Y)\/(T="dict"/\((∃a,H p=Z (.dK a))\/∃a,H p=Z (.dT a)))\/(T="set"/\∃S n,H p=Z (.set S n))|_=>False
theorem C8{T:String}(I:Ì a ζ Φ h f)(r:Ü Κ Ε)(j:tyV a.K T Κ h):f.TypeIs Ε T/\∀b,Ε=.ref b->∃v,f.heap.get? b=Z v/\v.dict=Y:=by cases Κ with
 |str z=>obtain⟨t,rfl⟩:=r;cases(show T="str"from j);exact⟨Vd f z t,λ_ e=>nomatch e⟩|int i=>obtain⟨t,rfl⟩:=r;cases(show T="int"from j);exact⟨typeIs_int f i t,λ_ e=>nomatch e⟩|ref p=>
 cases r;rcases j with⟨rfl,E,w⟩|⟨rfl,o,d,y,k⟩|⟨rfl,d⟩|⟨rfl,S,n,d⟩;·obtain⟨A,_,u,_⟩:=I.list w;refine⟨u.isList.typeIs,λb e=>?_⟩;cases e;obtain⟨o,n,e,c,k,_⟩:=u;exact⟨o,e,k⟩
 ·refine⟨⟨o,I.kIn p o d,y⟩,λb e=>?_⟩;cases e;exact⟨o,I.kIn _ o d,k⟩
 · have z:∃o,f.heap.get? p=Z o/\o.ExactDict:=by
    rcases d with⟨q,d⟩|⟨q,d⟩;·obtain⟨_,_,_,_,o,_,_,e,g,_⟩:=I.hok p _ d;exact⟨o,e,g⟩
    ·obtain⟨_,_,_,_,o,_,_,e,g,_⟩:=I.hok p _ d;exact⟨o,e,g⟩
   obtain⟨o,e,g⟩:=z;refine⟨⟨o,e,g.1⟩,λb m=>?_⟩;cases m;exact⟨o,e,g.2.1⟩
 ·obtain⟨o,_,_,_,e,g,_⟩:=I.hok p _ d;refine⟨⟨o,e,g.1⟩,λb m=>?_⟩;cases m;exact⟨o,e,g.2.1⟩|_=>exact QN j
def PX(K:d_)(T:String)(r:V->List V->Hp->VK->Prop)(d:TE):TE:=λb H Q=>d b H λx a=>tyV K T x a/\r x [] a Q
def tBM(K:d_)(T:String)(r:V->List V->Hp->VK->Prop)(e:TE)(t:TA):TE:=λa H Q=>e a H λx b=>tyV K T x b/\t a b λd f=>r x d f Q
theorem Ix{T i:String}{r:V->List V->Hp->VK->Prop}(y:PlainAttrs T)(f:Slot T b i)(j:typeOf (.builtin i)=pure (.type "method_descriptor"))(A:Ķ a i r)(z:PE a g Á)(e:Rx g b a.env (eval g a.env)=eval g a.env:=by rfl)(d:(o.endLine==w.line)=U:=by rfl):PE a (.Call (.Attribute g b o) [] [] w) (PX a.K T r Á):=by intro n s k H Q I h;refine wpAny_Call_method0_late e d (â (z n s k H _ I h) λv t⟨x,H1,p,m,q,u⟩=>?_);obtain⟨P,E⟩:=C8 p m q;exact⟨T,i,y,f,j,P,E,WQ rfl (PySem.evalArgs_none (A n t k H1 x [] v [] Q p m .nil u))⟩
theorem wQ{d:TA}{T m:String}{r:V->List V->Hp->VK->Prop}(pa:PlainAttrs T)(j:Slot T b m)(q:typeOf (.builtin m)=pure (.type "method_descriptor"))(hm:Ķ a m r)(ho:PE a g Á)(ha:PA a (P::t) d)(i:Rx g b a.env (eval g a.env)=eval g a.env:=by rfl)(k:((O_ w (k_ (P::t) a.env)).all (λx=>!x.1)&&(RM w (Rc [] a.env)).all (λx=>x.1.isSome)&&A_ ((P::t).length+([]:List SI).length+(if([]:List SI).isEmpty then 0 else 1)<30))=U:=by rfl)(f:(o.endLine==w.line)=U:=by rfl)(hs:k_ (P::t) a.env=(L,eval P a.env)::k_ t a.env:=by rfl)(e:(O_ w (k_ t a.env)).any (·.1)=L:=by rfl):PE a (.Call (.Attribute g b o) (P::t) [] w) (tBM a.K T r Á d):=by intro p s n H Q I h;refine wpAny_Call_method_late i k f rfl (â (ho p s n H _ I h) λv s1⟨x,H1,y,u,E,q1⟩=>?_);obtain⟨h1,h2⟩:=C8 y u E;refine⟨T,m,pa,j,q,h1,h2,?_⟩;have hA:=ha w p s1 n H1 _ y q1;rw[hs]at hA⊢;refine WQ (by show(L||(O_ w (k_ t a.env)).any (·.1))=L;rw[e]<;>rfl) (Xu ?_);exact â hA λA s2⟨z,H2,I2,r2,q2⟩=>hm p s2 n H2 x z v A Q I2 u r2 q2
def MtM(X:C)(f:String)(r:V->List V->Hp->VK->Prop):Prop:=∀(e:List (B×Obj))(s:g_)(a:St)(H:Hp)(x:V)(b:List V)(v:D)(d:List D)(Q:VK),Ì X e a H s->Ü x v->Ð b d->r x b H Q->uk (x_ X.prog X.w) X.A (call (.builtin f) (v::d)) (EP X e a Q) X.xe s
theorem Ð.one:∀{x:V}{a:List D},Ð [x] a->∃u,a=[u]/\Ü x u|_,_,.cons r .nil=>⟨_,rfl,r⟩
theorem Ð.two:∀{x y:V}{a:List D},Ð [x,y] a->∃u v,a=[u,v]/\Ü x u/\Ü y v|_,_,_,.cons r (.cons q .nil)=>⟨_,_,rfl,r,q⟩
theorem Ð.zero:∀{a:List D},Ð [] a->a=[]|_,.nil=>rfl
theorem Ð.eraseIdx:∀{a:List V}{b:List D}(i:Nat),Ð a b->Ð (a.eraseIdx i) (b.eraseIdx i)|_,_,_,.nil=>.nil|_,_,0,.cons _ t=>t|_,_,i+1,.cons r t=>.cons r (Ð.eraseIdx i t)
theorem Ð.reverse(h:Ð μ ξ):Ð μ.reverse ξ.reverse:=by induction h with|nil=>exact .nil|cons r t a=>rw[Tf,Tf];exact Ð.append a (.cons r .nil)
theorem Ì.lset{i:List V}{its':List D}{b:Array D->Array D}(I:Ì a ζ Φ h f)(p:h e=Z (.lst μ))(g:f.heap.get? e=Z {cls:=.type "list",data:=.seq ξ.toArray d})(n:b ξ.toArray=its'.toArray)(k:Ð i its')(j:i.length<=sizeLine):Ì a ζ Φ (Ý h e (.lst i)) {f with heap:=f.heap.update e (Q3 b),toks:=r}:=by have q:=Yz g b;rw[n]at q;refine I.write (x:=e) (e:=e) (by rw[p];exact trivial) (.inl rfl) (λt u o m=>(SJ f.heap (Q3 b) (SM o)).trans m) ⟨_,q⟩ ?_;exact⟨j,its',_,k,q⟩
theorem Ì.lnew{ys:List V}{its:List D}{t':Nat}(I:Ì a ζ Φ h f)(d:Ð ys its)(b:ys.length<=sizeLine):Ì a ζ Φ (Ý h f.heap.objs.size (.lst ys)) {f with heap:=f.heap.push {cls:=.type "list",data:=.seq its.toArray},toks:=t'}:=I.laid (λ_ _ q=>j_ _ q) (s_ _) ⟨b,its,0,d,pi _ rfl⟩
theorem Ì.fresh(I:Ì a ζ Φ h f):h f.heap.objs.size=Y:=I.hok.fresh (s_ _)
theorem Ì.lstM{l:B}{xs:List V}(I:Ì a ζ Φ h f)(d:h l=Z (.lst xs)):xs.length<=sizeLine/\∃(b:List D)(n:Nat),Ð xs b/\xs.length=b.length/\f.heap.get? l=Z {cls:=.type "list",data:=.seq b.toArray n}:=by obtain⟨z,b,n,r,e⟩:=I.hok l _ d;exact⟨z,b,n,r,r.length,e⟩
def Eh:V->List V->Hp->VK->Prop:=λx b H Q=>∃l a y,x=.ref l/\b=[y]/\H l=Z (.lst a)/\a.length<sizeLine/\Q .non (Ý H l (.lst (a++[y])))
theorem pS:MtM a "list.append" Eh:=by intro p s j H x m v o Q I f g h;obtain⟨l,k,y,rfl,rfl,d,t,q⟩:=h;cases f;obtain⟨u,rfl,i⟩:=g.one;obtain⟨z,b,n,r,w,e⟩:=I.lstM d;refine Ug TY ⟨_,e,rfl⟩ XO (Xs _ _) (Yc l b.toArray n u (by rw[E_];omega)) ⟨e,?_⟩;refine⟨.non,_,I.lset (its':=b++[u]) d e (by simp) (r.append (.cons i .nil)) ?_,rfl,q⟩;rw[Ry,Xe];omega
def AC:V->List V->Hp->VK->Prop:=λx b H Q=>∃l a,x=.ref l/\b=[]/\H l=Z (.lst a)/\Q .non (Ý H l (.lst a.reverse))
theorem vj:MtM a "list.reverse" AC:=by intro p s j H x m v o Q I g i h;obtain⟨l,k,rfl,rfl,f,q⟩:=h;cases g;have d:=i.zero;subst d;obtain⟨z,b,n,r,t,e⟩:=I.lstM f;refine Ug WP ⟨_,e,rfl⟩ F.entry_list_reverse (F.args_list_reverse_1 _) (AutoSeq1.list_reverse_list_0 l b.toArray n (by rw[E_];omega)) ⟨e,?_⟩;refine⟨.non,_,I.lset (its':=b.reverse) f e (by simp) r.reverse ?_,rfl,q⟩;rw[XS];omega
def OY:R2:=λx y H Q=>∃l b d a,x=.ref l/\y=.ref b/\H l=Z (.lst d)/\H b=Z (.lst a)/\d.length+a.length<=sizeLine/\∀p,H p=Y->Q (.ref p) (Ý H p (.lst (d++a)))
theorem Iy:û a (Tc .Add) OY:=by
 intro j' s t H x y v u Q I i g h;obtain⟨l,b,E,w,rfl,rfl,k,hB,hz,q⟩:=h;cases i;cases g;obtain⟨z,f,n,r,hl,e⟩:=I.lstM k;obtain⟨A,d,P,j,p,o⟩:=I.lstM hB;refine PySem.P.add_list e o ?_ (by rw[E_,E_];omega);have m:f.toArray++d.toArray=(f++d).toArray:=by simp
 rw[m];exact⟨.ref _,_,I.lnew (t':=s.toks) (r.append j) (by rw[Ry];omega),rfl,q _ I.fresh⟩
end L2
namespace Att
open PySem.W PySem.Calls
theorem lM{P:Vz}:∀(d:List Int)(e:List D),WellAll P I e (d.map WData.int)->WV e d:=by intro d;induction d with|nil=>intro e w;rw[List.map_nil]at w;cases w;exact .nil|cons n d f=>intro e w;rw[QU]at w;cases w with|cons a b=>cases a;exact .cons _ _ (f _ b)
theorem wR{l:OpenLaw}(y:l.most=Z d){P:Vz}{h:J_}{args:List WData}{f:List D}(g:l.row.toRowW.claim.pre args=U)(n:WellAll P h f args):∃a o e,f=[y_ a]/\args=[WData.list (e.map WData.int)]/\h.get? a=Z {cls:=.type "list",data:=.seq o.toArray}/\WV o e/\e.length<=d:=by
 have Ğ:WShape.hasAll [] args [.list .int]=U:=(pre_splitW g).1;have p:l.pre.holds [] {args:=args}=U:=(pre_splitW g).2;obtain⟨b,r,rfl,E,A⟩:=hasAllW_cons Ğ;obtain rfl:=hasAllW_nil A;obtain⟨H,rfl,z⟩:=hasW_list E;obtain⟨e,rfl⟩:=items_int z;have i:e.length<=d:=by
  unfold OpenLaw.pre at p;have m:(WTm.not (.lt (.lit (.int (d:Int))) (.len (.arg 0)))).holds [] {args:=[.list (e.map .int)]}=U:=by have m:=(holds_andW p).1;rw[y]at m;exact m
  have k:=condW_of m (w_not (w_lt w_lit (w_len_list (w_arg rfl))));rw[QL]at k;refine Nat.le_of_not_lt λq=>?_;have v:(d:Int)<((e.length:Nat):Int):=by omega
  first|(rw[decide_eq_true v]at k;exact absurd k (by decide))|(simp at k;omega)
 cases n with|cons u t=>cases t;cases u with|list w j=>exact⟨_,_,e,rfl,rfl,w,lM e _ j,i⟩
theorem wS(l:OpenLaw)(args:List WData):l.row.toRowW.claim.post args (.bool U) args=U:=postW_of (r:=l.row.toRowW) (X:=(U==U)) (show WShape.has [] (.bool U) .bool=U by first|rfl|decide|simp[WShape.has,WShape.arms,WShape.armsAll]) (show(WTm.eq .res (.lit (.bool U))).value [] {args:=args,res:=Z (.bool U),after:=args}=Z (.bool (U==U))from w_eq_bool (w_res rfl) w_lit) rfl
theorem attach_call{l:OpenLaw}{XP:(Str->Option D)->J_->Prop}{YP:w_->J_->Prop}{b:DefRec}(hn:l.most=Z d)(b':b.params.defaults=[])(u:∀(w:w_)(h g:g_)(A I:Str->Option D)(m:B)(o:Obj)(H E i:D)(a:B)(k:List D)(y:List Int),Ground p z [] XP w h A I g.heap->YP w g.heap->g.heap.get? m=Z o->o.data=.func (docDef b.name b.params b.body b.scope H E i)->g.heap.CodeRec E b.name->A b.name=Z (.ref m)->g.heap.get? a=Z {cls:=.type "list",data:=.seq k.toArray}->WV k y->y.length<=d->g.gens=#[]->Ta (x_ l.prog w) XG (.call (.ref m) ⟨[.ref a],[]⟩) (λr v=>r=.ok (.ret (.bool U))/\OldK g.heap v.heap/\v.os=g.os/\VM v.gens) g):WalkO p z XP YP l.row.toRowW b [] (λf k=>Y4 f k):=by intro w h g A I G e m o H E i dV kV ho hd c' hD a' hg f' d' as n e' g' P h';obtain rfl:dV=.none:=Dflts.none hD b';obtain rfl:kV=.none:=Dflts.noKw hD;obtain⟨a,k,y,rfl,rfl,q,j,t⟩:=wR hn n P;refine enter_call (RT (u w h g A I m o H E i a k y G e ho (fd_plain hd) c' a' q j t hg) λr v hq=>?_);obtain⟨rfl,h2,h3,h4⟩:=hq;exact⟨.inl ⟨.bool U,.bool U,[],rfl,λ_=>rfl,.bool U,wS l _,λ_=>⟨U4,λ_ hm=>(nomatch hm)⟩⟩,h2,h3,h4⟩
noncomputable def OZ(h:J_)(b d:B):List (B×Obj):=(rl h.objs.size).filterMap λa=>if a=b\/a=d then Y else(h.get? a).map λo=>(a,o)
end Att
namespace L2
theorem jT:∀{a:List D}{b:List Int},WV a b->Ð (b.map V.int) a|_,_,.nil=>.nil|_,_,.cons n t h=>.cons ⟨t,rfl⟩ (jT h)
noncomputable def cG(s:Re)(j:Nat):Re:=match s with|.ClassDef _ _ _ a _ _ _ _ _ _ _=>a.getD j (.Pass ⟨0,0,0,0⟩)|_=>.Pass ⟨0,0,0,0⟩
noncomputable def hU(s:Re):Arguments:=match s with|.FunctionDef _ a _ _ _ _ _ _ _ _=>a|_=>{posonlyargs:=[],args:=[],vararg:=Y,kwonlyargs:=[],kw_defaults:=[],kwarg:=Y,defaults:=[]}
noncomputable def bB(s:Re):List Re:=match s with|.FunctionDef _ _ b _ _ _ _ _ _ _=>b|_=>[]
noncomputable def ah(s:Re):RS:=match s with|.FunctionDef _ _ _ _ _ _ a _ _ _=>a|_=>{kind:=.function,names:=[],isGenerator:=L,isCoroutine:=L}
abbrev ċ:Ĵ:=λ_ _ _ _ _ _=>False
abbrev E0:XK:=λ_ _ _=>False
theorem Iz:jR ċ a E0:=λ_ _ _ _ _ _ _ h=>h.elim
structure ġ(K:d_)(x qual:Str)(st:Re)(f:B)(fd:Rj):Prop where
 ex:∃(oc:D)(od:Option B)(kV doc pm:D)(an:Option B)(cdv ct:D)(osl:Array (Option D)),fd=Sv x qual (hU st) (bB st) (ah st) .none kV doc pm an cdv ct/\K.lookup f=Z ⟨oc,od,.func fd,osl⟩/\US K cdv qual=U
 kp:Rr K (.ref f)=U
theorem ġ.ok{n:List Str}{k:Sp}(F:ġ u b i τ e Â)(S:dO z n (ah τ))(o:∀g H Q E,k g H Q E->g.length=n.length)(j:∀(f:D)(A:xy)(a:List Env)(s:g_)(H:Hp)(g:List V)(Q:VK)(E:XK),Ø d (A.deeper (Sq i (ah τ) s.heap.objs.size e f))->k g H Q E->∃t,ķ (kq ċ p m u Α I z i (ah τ) e f A a s H E).nox (bB τ) t/\t {nx:=λ_ P=>Q .non P,rt:=Q} (start z g) H):è p m u Α I ċ (d+1) e Â n k:=by obtain⟨oc,od,kV,b',pm,an,f,ct,a',rfl,w,v⟩:=F.ex;refine vf w v S o λA a s H g Q E y r=>?_;obtain⟨t,h,q⟩:=j f A a s H g Q E y r;exact⟨t,h.nox,q⟩
theorem ġ.binds(F:ġ u b i τ e Â)(h:∀(kV a g:D)(k:Option B)(d j:D)(f:List D),f.length=z.length->VR (Sv b i (hU τ) (bB τ) (ah τ) .none kV a g k d j) ⟨f,[]⟩=pure (z.zip f)):ë u Â z []:=by obtain⟨p,o,kV,a,g,k,d,j,m,rfl,q,n⟩:=F.ex;exact .all (h kV a g k d j)
theorem C9{n m:Option B}{f:Array (Option D)}{h d g a j:D}(l:u.lookup e=Z ⟨Ε,n,.func (Sv b i (hU τ) (bB τ) (ah τ) .none h d g m a j),f⟩)(c:US u a i=U)(k:Rr u (.ref e)=U):ġ u b i τ e (Sv b i (hU τ) (bB τ) (ah τ) .none h d g m a j):=⟨⟨Ε,n,h,d,g,m,a,j,f,rfl,l,c⟩,k⟩
theorem wT{A B:Prop}(h:B):if L=U then A else B:=by rw[if_neg B_];exact h
theorem wU{A B:Prop}(h:A):if U=U then A else B:=by rw[if_pos rfl];exact h
def Í(H a:Hp):Prop:=∀b o,H b=Z o->a b=Z o
theorem Í.refl(H:Hp):Í H H:=λ_ _ h=>h
theorem Í.trans{e:Hp}(a:Í h Ζ)(b:Í Ζ e):Í h e:=λc o d=>b c o (a c o d)
theorem Í.free(e:Í h Ζ){l:B}(a:Ζ l=Y):h l=Y:=by cases q:h l with|none=>rfl|some o=>rw[e l o q]at a;cases a
theorem Í.seq(b:Í h Ζ)(a:ô u h e μ):ô u Ζ e μ:=by
 rcases a with(a|⟨o,a⟩)|a;·exact .inl (.inl (b _ _ a))
 ·exact .inl (.inr ⟨o,b _ _ a⟩)
 ·exact .inr a
end L2
namespace FD
open L2
inductive N where|non|bl(b:Bool)|int(i:Int)|str(x:Str)|tup(xs:List N)|lst(xs:List N)|scr(ns:List Int)|exn(c:Nat)|obj(k:Nat)(xs:List N)
noncomputable def Ľ:Nat->Str|0=>"Keeper"|_=>"Desk"
noncomputable def Ď:Nat->List Str|0=>["table","each","most","jar","latest"]|_=>["table","jar","done","undone"]
noncomputable def ğ:Nat->Str|0=>"NoName"|1=>"NoTable"|2=>"NoPath"|3=>"NoAsk"|4=>"NoNote"|5=>"NoJar"|6=>"NoNumber"|7=>"NoText"|8=>"NoStep"|_=>"JarError"
def ţ(K:d_)(H:Hp)(a:B)(d:List V):Prop:=(∃o,H a=Z (.frz o (.lst d)))\/∃(o:Obj)(b:Array D)(n:Nat),K.lookup a=Z o/\o.cls=.type "list"/\o.dict=Y/\o.data=.seq b n/\b.size<=sizeLine/\Ð d b.toList
theorem ţ.l(a:ţ u h e μ):ô u h e μ:=a.elim (λa=>.inl (.inr a)) .inr
mutual
def Ó(K:d_)(H:Hp):N->V->Prop|.non,v=>v=.non|.bl b,v=>v=.bl b|.int i,v=>v=.int i|.str x,v=>v=.str x|.tup e,v=>∃a g,v=.ref a/\H a=Z (.tup g)/\O K H e g|.lst e,v=>∃a g,v=.ref a/\H a=Z (.lst g)/\O K H e g|.scr j,v=>∃a,v=.ref a/\ţ K H a (j.map V.int)|.exn c,v=>∃a o u C,v=.ref a/\H a=Z (.frz o u)/\o.cls=.ref C/\Rq K z_ (ğ c)=Z (Z (.ref C))|.obj k e,v=>∃a C m f,v=.ref a/\H a=Z (.ins C m ((Ď k).zip f))/\Rq K z_ (Ľ k)=Z (Z (.ref C))/\O K H e f/\e.length<=(Ď k).length
def O(K:d_)(H:Hp):List N->List V->Prop|[],f=>f=[]|d::e,f=>∃v h,f=v::h/\Ó K H d v/\O K H e h
end
mutual
theorem Ó.mono{K:d_}{H j:Hp}(e:Í H j):∀(d:N)(v:V),Ó K H d v->Ó K j d v|.non,_,h=>h|.bl _,_,h=>h|.int _,_,h=>h|.str _,_,h=>h|.tup b,v,h=>by obtain⟨a,f,r,h,q⟩:∃a f,v=.ref a/\H a=Z (.tup f)/\O K H b f:=h;exact⟨a,f,r,e _ _ h,O.mono e b f q⟩|.lst b,v,h=>by obtain⟨a,f,r,h,q⟩:∃a f,v=.ref a/\H a=Z (.lst f)/\O K H b f:=h;exact⟨a,f,r,e _ _ h,O.mono e b f q⟩|.scr p,v,h=>by obtain⟨a,r,h⟩:∃a,v=.ref a/\ţ K H a (p.map V.int):=h;exact⟨a,r,h.imp (λ⟨o,h⟩=>⟨o,e _ _ h⟩) id⟩|.exn c,v,h=>by obtain⟨a,o,u,C,r,h,q⟩:∃a o u C,v=.ref a/\H a=Z (.frz o u)/\o.cls=.ref C/\Rq K z_ (ğ c)=Z (Z (.ref C)):=h;exact⟨a,o,u,C,r,e _ _ h,q⟩|.obj k b,v,h=>by obtain⟨a,C,m,g,r,h,n,q,l⟩:∃a C m g,v=.ref a/\H a=Z (.ins C m ((Ď k).zip g))/\Rq K z_ (Ľ k)=Z (Z (.ref C))/\O K H b g/\b.length<=(Ď k).length:=h;exact⟨a,C,m,g,r,e _ _ h,n,O.mono e b g q,l⟩theorem O.mono{K:d_}{H j:Hp}(e:Í H j):∀(b:List N)(g:List V),O K H b g->O K j b g|[],_,h=>h|d::b,g,h=>by obtain⟨v,i,r,h,q⟩:∃v i,g=v::i/\Ó K H d v/\O K H b i:=h;exact⟨v,i,r,Ó.mono e d v h,O.mono e b i q⟩end
theorem O.nil:O u h [] []:=rfl
theorem O.cons{d e v b}(a:Ó u h d v)(t:O u h e b):O u h (d::e) (v::b):=⟨v,b,rfl,a,t⟩
theorem O.length{K:d_}{H:Hp}:∀{b:List N}{a:List V},O K H b a->a.length=b.length|[],a,h=>by cases(show a=[]from h);rfl|d::b,a,h=>by obtain⟨v,e,r,_,q⟩:∃v e,a=v::e/\Ó K H d v/\O K H b e:=h;subst r;show e.length+1=b.length+1;rw[O.length q]
theorem O.get{K:d_}{H:Hp}:∀{b:List N}{a:List V}{i:Nat}{v:V},O K H b a->a[i]?=Z v->∃d,b[i]?=Z d/\Ó K H d v|[],a,i,v,h,e=>by cases(show a=[]from h);simp at e|d::b,a,i,v,h,e=>by obtain⟨n,f,r,j,q⟩:∃v f,a=v::f/\Ó K H d v/\O K H b f:=h;subst r;cases i with|zero=>simp at e;subst e;exact⟨d,rfl,j⟩|succ i=>obtain⟨m,k,g⟩:=O.get (i:=i) q (by simpa using e);exact⟨m,by simpa using k,g⟩
theorem O.get'{K:d_}{H:Hp}:∀{b:List N}{a:List V}{i:Nat}{d:N},O K H b a->b[i]?=Z d->∃v,a[i]?=Z v/\Ó K H d v|[],a,i,v,h,e=>by simp at e|d::b,a,i,o,h,e=>by obtain⟨g,f,r,k,q⟩:∃v f,a=v::f/\Ó K H d v/\O K H b f:=h;subst r;cases i with|zero=>simp at e;subst e;exact⟨g,rfl,k⟩|succ i=>obtain⟨n,m,j⟩:=O.get' (i:=i) q (by simpa using e);exact⟨n,by simpa using m,j⟩
theorem O.append{K:d_}{H:Hp}:∀{f e:List N}{b a:List V},O K H f b->O K H e a->O K H (f++e) (b++a)|[],e,b,a,h,q=>by cases(show b=[]from h);exact q|d::f,e,b,a,h,q=>by obtain⟨i,g,r,j,t⟩:∃v a,b=v::a/\Ó K H d v/\O K H f a:=h;subst r;exact⟨i,g++a,rfl,j,O.append t q⟩
theorem O.take{K:d_}{H:Hp}:∀{b:List N}{a:List V}(n:Nat),O K H b a->O K H (b.take n) (a.take n)|b,a,0,_=>by simp[O]|[],a,n+1,h=>by cases(show a=[]from h);exact rfl|d::b,a,n+1,h=>by obtain⟨g,e,r,i,t⟩:∃v f,a=v::f/\Ó K H d v/\O K H b f:=h;subst r;exact⟨g,e.take n,rfl,i,O.take n t⟩
theorem O.drop{K:d_}{H:Hp}:∀{b:List N}{a:List V}(n:Nat),O K H b a->O K H (b.drop n) (a.drop n)|b,a,0,h=>h|[],a,n+1,h=>by cases(show a=[]from h);exact rfl|d::b,a,n+1,h=>by obtain⟨g,f,r,i,t⟩:∃v e,a=v::e/\Ó K H d v/\O K H b e:=h;subst r;exact O.drop n t
variable{q:List N}
theorem Ó.lstE(b:Ó u h (.lst q) Κ):∃a d,Κ=.ref a/\h a=Z (.lst d)/\O u h q d:=b
theorem Ó.tupE(b:Ó u h (.tup q) Κ):∃a d,Κ=.ref a/\h a=Z (.tup d)/\O u h q d:=b
theorem Ó.exnE(e:Ó u h (.exn d) Κ):∃a o b C,Κ=.ref a/\h a=Z (.frz o b)/\o.cls=.ref C/\Rq u z_ (ğ d)=Z (Z (.ref C)):=e
theorem Ó.objE(b:Ó u h (.obj d q) Κ):∃a C f e,Κ=.ref a/\h a=Z (.ins C f ((Ď d).zip e))/\Rq u z_ (Ľ d)=Z (Z (.ref C))/\O u h q e/\q.length<=(Ď d).length:=b
theorem Ó.scrE{d:List Int}(b:Ó u h (.scr d) Κ):∃a,Κ=.ref a/\ô u h a (d.map V.int):=let⟨a,r,b⟩:∃a,Κ=.ref a/\ţ u h a (d.map V.int):=b;⟨a,r,b.l⟩
theorem aD(a:h e=Y)(o:HO):Í h (Ý h e o):=λb u q=>by rw[ay (au q a)];exact q
abbrev Ev:=List (Option N)
structure Ú(K:d_)(H:Hp)(σ:L2.St)(ρ:Ev):Prop where
 len:σ.length=ρ.length
 at':∀(i:Nat)(d:N),ρ[i]?=Z (Z d)->∃v,σ[i]?=Z (Z v)/\Ó K H d v
variable{Λ:L2.St}{H:Ev}
theorem Ú.mono(E:Ú u h Λ H)(e:Í h Ζ):Ú u Ζ Λ H:=⟨E.len,λi d a=>let⟨v,f,b⟩:=E.at' i d a;⟨v,f,Ó.mono e d v b⟩⟩
variable{j:N}
theorem Ú.set(E:Ú u h Λ H)(r:Ó u h j Κ):Ú u h (Λ.set d (Z Κ)) (H.set d (Z j)):=by
 refine⟨by rw[Q5,Q5];exact E.len,λb g a=>?_⟩;by_cases e:d=b
 · subst e;by_cases f:d<H.length;·rw[QH f]at a;cases a;exact⟨Κ,by rw[QH (by rw[E.len];exact f)],r⟩
   ·rw[RW (by rw[Q5];omega)]at a;cases a
 ·rw[I_ e]at a;rw[I_ e];exact E.at' b g a
noncomputable def fgt(b:List Nat)(a:Ev):Ev:=b.foldl (λr j=>r.set j Y) a
theorem Ú.fgt1(j:Nat)(E:Ú u h Λ H):Ú u h Λ (H.set j Y):=by
 refine⟨by rw[Q5];exact E.len,λi d a=>?_⟩;by_cases b:j=i
 · subst b;by_cases e:j<H.length;·rw[QH e]at a;cases a
   ·rw[RW (by rw[Q5];omega)]at a;cases a
 ·rw[I_ b]at a;exact E.at' i d a
theorem Ú.fgt{K:d_}{H:Hp}{b:L2.St}:∀(a:List Nat){d:Ev},Ú K H b d->Ú K H b (fgt a d)|[],_,E=>E|j::a,_,E=>Ú.fgt a (E.fgt1 j)
inductive Rs(α:Type)where|ok(a:α)|exc(c:Nat)
abbrev Ï:=List N->Option (Rs N)
inductive Fl where|nx(ρ:Ev)|rt(d:N)|exc(c:Nat)
def ů(N:B->Prop)(H:Hp)(e:B)(d:D)(h:J_):Prop:=H e=Y/\N e/\∃b a i,h.get? e=Z b/\b.cls=d/\b.data=.fields a/\a[0]?=Z i/\(a[1]?=Z .none\/∃T g f,a[1]?=Z (.ref T)/\T≠e/\H T=Y/\N T/\h.get? T=Z g/\g.data=.fields f/\f[3]?=Z .none)
def M8(X:C)(a:B):Prop:=X.s₀.heap.get? a=Y/\∀p∈X.pn,p.1≠a
def wV(X:C)(H:Hp)(c:Nat)(e:D)(s:g_):Prop:=∃a b,e=.ref a/\Rq X.K z_ (ğ c)=Z (Z (.ref b))/\ů (M8 X) H a (.ref b) s.heap
def XW(X:C)(c:Nat)(H:Hp):Prop:=∀d b a s e,Í H a->Ì X d b a s->wV X a c e s->X.xe e s
theorem XW.mono(b:XW a d h)(e:Í h Ζ):XW a d Ζ:=λg f j s x i I q=>b g f j s x (e.trans i) I q
def ê(X:C)(H:Hp)(o:Option (Rs N))(Q:VK):Prop:=match o with|none=>False|some (.exc c)=>XW X c H|some (.ok d)=>∀v a,Í H a->Ó X.K a d v->Q v a
def ø(X:C)(H:Hp)(o:Option (Rs Bool))(Q:Bool->Hp->Prop):Prop:=match o with|none=>False|some (.exc c)=>XW X c H|some (.ok d)=>∀a,Í H a->Q d a
def ä(X:C)(H:Hp)(o:Option (Rs (List N)))(Q:List V->Hp->Prop):Prop:=match o with|none=>False|some (.exc c)=>XW X c H|some (.ok d)=>∀b a,Í H a->O X.K a d b->Q b a
def ï(X:C)(H:Hp)(o:Option Fl)(D:mI):Prop:=match o with|none=>False|some (.exc c)=>XW X c H|some (.rt d)=>∀v a,Í H a->Ó X.K a d v->D.rt v a|some (.nx e)=>∀b a,Í H a->Ú X.K a b e->D.nx b a
noncomputable def Ù{b:Type}(o:Option (Rs υ))(k:υ->Option (Rs b)):Option (Rs b):=match o with|none=>Y|some (.exc c)=>Z (.exc c)|some (.ok a)=>k a
def cu(o:Option (Rs υ))(k:υ->Option Fl):Option Fl:=match o with|none=>Y|some (.exc c)=>Z (.exc c)|some (.ok a)=>k a
noncomputable def sq(o:Option Fl)(k:Ev->Option Fl):Option Fl:=match o with|some (.nx a)=>k a|o=>o
theorem ê.mono(e:Í h Ζ):∀{o:Option (Rs N)},ê a h o Ê->ê a Ζ o Ê|none,b=>b|some (.exc _),b=>XW.mono b e|some (.ok _),b=>λv f d r=>b v f (e.trans d) r
theorem ø.mono{d:Bool->Hp->Prop}(e:Í h Ζ):∀{o:Option (Rs Bool)},ø a h o d->ø a Ζ o d|none,b=>b|some (.exc _),b=>XW.mono b e|some (.ok _),b=>λg f=>b g (e.trans f)
theorem ä.mono{d:List V->Hp->Prop}(e:Í h Ζ):∀{o:Option (Rs (List N))},ä a h o d->ä a Ζ o d|none,b=>b|some (.exc _),b=>XW.mono b e|some (.ok _),b=>λv g f r=>b v g (e.trans f) r
theorem ï.mono{D:mI}(e:Í h Ζ):∀{o:Option Fl},ï a h o D->ï a Ζ o D|none,b=>b|some (.exc _),b=>XW.mono b e|some (.rt _),b=>λv f d r=>b v f (e.trans d) r|some (.nx _),b=>λv f d r=>b v f (e.trans d) r
theorem ê.bind{o:Option (Rs N)}{k:N->Option (Rs N)}{P:VK}(b:ê a h (Ù o k) Ê)(g:∀d v f,Í h f->Ó a.K f d v->ê a f (k d) Ê->P v f):ê a h o P:=by match o,b with|some (.exc _),b=>exact b|some (.ok d),b=>exactλv i e r=>g d v i e r (ê.mono e b)
theorem ê.bindB{g:Bool->Hp->Prop}{o:Option (Rs N)}{k:N->Option (Rs Bool)}(b:ø a h (Ù o k) g)(i:∀d v f,Í h f->Ó a.K f d v->ø a f (k d) g->Ê v f):ê a h o Ê:=by match o,b with|some (.exc _),b=>exact b|some (.ok d),b=>exactλv j e r=>i d v j e r (ø.mono e b)
theorem ê.bindA{g:List V->Hp->Prop}{o:Option (Rs N)}{k:N->Option (Rs (List N))}(b:ä a h (Ù o k) g)(i:∀d v f,Í h f->Ó a.K f d v->ä a f (k d) g->Ê v f):ê a h o Ê:=by match o,b with|some (.exc _),b=>exact b|some (.ok d),b=>exactλv j e r=>i d v j e r (ä.mono e b)
theorem ê.bindS{D:mI}{o:Option (Rs N)}{k:N->Option Fl}(b:ï a h (cu o k) D)(g:∀d v f,Í h f->Ó a.K f d v->ï a f (k d) D->Ê v f):ê a h o Ê:=by match o,b with|some (.exc _),b=>exact b|some (.ok d),b=>exactλv i e r=>g d v i e r (ï.mono e b)
theorem ø.bind{o:Option (Rs Bool)}{k:Bool->Option (Rs N)}{P:Bool->Hp->Prop}(f:ê a h (Ù o k) Ê)(i:∀b g,Í h g->ê a g (k b) Ê->P b g):ø a h o P:=by match o,f with|some (.exc _),f=>exact f|some (.ok d),f=>exactλj e=>i d j e (ê.mono e f)
theorem ø.bindB{i:Bool->Hp->Prop}{o:Option (Rs Bool)}{k:Bool->Option (Rs Bool)}{P:Bool->Hp->Prop}(f:ø a h (Ù o k) i)(j:∀b g,Í h g->ø a g (k b) i->P b g):ø a h o P:=by match o,f with|some (.exc _),f=>exact f|some (.ok d),f=>exactλm e=>j d m e (ø.mono e f)
theorem ø.bindS{D:mI}{o:Option (Rs Bool)}{k:Bool->Option Fl}{P:Bool->Hp->Prop}(f:ï a h (cu o k) D)(i:∀b g,Í h g->ï a g (k b) D->P b g):ø a h o P:=by match o,f with|some (.exc _),f=>exact f|some (.ok d),f=>exactλj e=>i d j e (ï.mono e f)
variable{ψ:Ï}
theorem ä.bind{o:Option (Rs (List N))}{P:List V->Hp->Prop}(b:ê a h (Ù o ψ) Ê)(j:∀i g f,Í h f->O a.K f i g->ê a f (ψ i) Ê->P g f):ä a h o P:=by match o,b with|some (.exc _),b=>exact b|some (.ok d),b=>exactλv k e r=>j d v k e r (ê.mono e b)
theorem ä.bindA{j:List V->Hp->Prop}{o:Option (Rs (List N))}{k:List N->Option (Rs (List N))}{P:List V->Hp->Prop}(b:ä a h (Ù o k) j)(m:∀i g f,Í h f->O a.K f i g->ä a f (k i) j->P g f):ä a h o P:=by match o,b with|some (.exc _),b=>exact b|some (.ok d),b=>exactλv n e r=>m d v n e r (ä.mono e b)
abbrev Ò:=Ev->Option (Rs N)
abbrev ã:=Ev->Option (Rs Bool)
abbrev Û:=Ev->Option (Rs (List N))
abbrev Ö:=Ev->Option Fl
def tF(X:C)(f:Ò):TE:=λb H Q=>∃a,Ú X.K H b a/\ê X H (f a) Q
def tT(X:C)(f:ã):TT:=λb H Q=>∃a,Ú X.K H b a/\ø X H (f a) Q
def tA(X:C)(f:Û):TA:=λb H Q=>∃a,Ú X.K H b a/\ä X H (f a) Q
def tS(X:C)(f:Ö):TS:=λD b H=>∃a,Ú X.K H b a/\ï X H (f a) D
structure FE(X:C)(e:u_)(f:Ò):Prop where h:PE X e (tF X f)
structure FT(X:C)(e:u_)(f:ã):Prop where h:PT X e (tT X f)
structure FW(X:C)(e:u_)(f:ã):Prop where h:PW X e (tT X f)
structure FA(X:C)(es:List u_)(f:Û):Prop where h:PA X es (tA X f)
structure FS(X:C)(st:Re)(f:Ö):Prop where h:PS X st (tS X f)
structure ć(X:C)(st:List Re)(f:Ö):Prop where h:ķ X st (tS X f)
variable{y:Ò}
theorem dg(h:PE a g Á)(w:∀b H Q d,Ú a.K H b d->ê a H (y d) Q->Á b H Q):FE a g y:=⟨λe s b H Q I⟨d,E,o⟩=>h e s b H Q I (w b H Q d E o)⟩
variable{Μ:ã}
theorem Ei{t:TT}(h:PT a g t)(w:∀b H Q d,Ú a.K H b d->ø a H (Μ d) Q->t b H Q):FT a g Μ:=⟨λe s b H Q I⟨d,E,o⟩=>h e s b H Q I (w b H Q d E o)⟩
theorem IA{t:TT}(h:PW a g t)(w:∀b H Q d,Ú a.K H b d->ø a H (Μ d) Q->t b H Q):FW a g Μ:=⟨λe f s b H Q I⟨d,E,o⟩=>h e f s b H Q I (w b H Q d E o)⟩
variable{Ο:Ö}
theorem rP{t:TS}(h:PS a τ t)(w:∀D b H d,Ú a.K H b d->ï a H (Ο d) D->t D b H):FS a τ Ο:=⟨λe s b H D I⟨d,E,o⟩=>h e s b H D I (w D b H d E o)⟩
theorem wW{t:TS}(h:ķ a Ξ t)(w:∀D b H d,Ú a.K H b d->ï a H (Ο d) D->t D b H):ć a Ξ Ο:=⟨λe s b H D I⟨d,E,o⟩=>h e s b H D I (w D b H d E o)⟩
theorem FW.ft(h:FW a g Μ):FT a g Μ:=⟨h.h _⟩
noncomputable def X(i:Nat):Ò:=λa=>match a[i]? with|some (Z d)=>Z (.ok d)|_=>Y
noncomputable def fC(d:N):Ò:=λ_=>Z (.ok d)
theorem Ej(i:Nat)(h:PE a g (mJ i)):FE a g (X i):=dg h λj H Q k E o=>by
 unfold X at o;split at o;·rename_i d b;obtain⟨v,f,e⟩:=E.at' i d b;exact⟨v,f,o v H (.refl H) e⟩
 ·exact o.elim
theorem ī(h:a.env.kindOf b=Z .globalImplicit):Gl a b:=h
theorem M9(i:Nat){x:Str}(f:a.N[i]?=Z x:=by lk)(d:a.env.scope.names.lookup x=Z .local:=by lk)(e:(x==("__debug__":Str))=L:=by lk)(b:(x==("__classdict__":Str))=L:=by lk):FE a (.Name x o) (X i):=Ej i (wn f (.inl d) e b)
theorem Na(i:Nat){x:Str}(f:a.N[i]?=Z x:=by lk)(d:a.env.scope.names.lookup x=Z .cell:=by lk)(e:(x==("__debug__":Str))=L:=by lk)(b:(x==("__classdict__":Str))=L:=by lk):FE a (.Name x o) (X i):=Ej i (wn f (.inr (.inl d)) e b)
theorem Hu(h:PE a g (tC Κ))(r:∀K H,Ó K H j Κ):FE a g (fC j):=dg h λ_ H _ _ _ o=>o Κ H (.refl H) (r a.K H)
theorem IB{i j}:FE a (.Constant (.int i) j o) (fC (.int i)):=Hu HS λ_ _=>rfl
theorem Nb{b j}:FE a (.Constant (.bool b) j o) (fC (.bl b)):=Hu MK λ_ _=>rfl
theorem IC{j}:FE a (.Constant .none j o) (fC .non):=Hu HU λ_ _=>rfl
theorem ID{x j}:FE a (.Constant (.str x) j o) (fC (.str x)):=Hu CS λ_ _=>rfl
theorem Ek{t:Tok}(e:Gl a b)(d:a.mg b=Z (.int k t))(f:(b==("__debug__":Str))=L:=by lk):FE a (.Name b o) (fC (.int k)):=Hu (wo (Κ:=.int k) e d ⟨t,rfl⟩ f) λ_ _=>rfl
theorem El{t:Tok}(e:Gl a b)(d:a.mg b=Z (.str i t))(f:(b==("__debug__":Str))=L:=by lk):FE a (.Name b o) (fC (.str i)):=Hu (wo (Κ:=.str i) e d ⟨t,rfl⟩ f) λ_ _=>rfl
def Q(g:N->N->Option (Rs N))(d b:Ò):Ò:=λa=>Ù (d a) λx=>Ù (b a) λy=>g x y
def Ħ(X:C)(r:R2)(g:N->N->Option (Rs N)):Prop:=∀b a x y H Q,Ó X.K H b x->Ó X.K H a y->ê X H (g b a) Q->r x y H Q
variable{È:Ò}
theorem two{r:R2}{g:N->N->Option (Rs N)}(n:Ħ a r g){f:L2.St}{H:Hp}{b:VK}{e:Ev}(E:Ú a.K H f e)(o:ê a H (Q g y È e) b):R' r (tF a y) (tF a È) f H b:=⟨e,E,ê.bind o λh x v q j m=>⟨e,E.mono q,ê.bind m λt d u p i k=>n h t x d u b (Ó.mono p h x j) i k⟩⟩
theorem vk{e:Operator}{r:R2}{b:N->N->Option (Rs N)}(f:û a (Tc e) r)(h:Ħ a r b)(j:FE a g y)(i:FE a P È):FE a (.BinOp g e P o) (Q b y È):=dg (MW f j.h i.h) λ_ _ _ _ E d=>two h E d
theorem kY{e:CmpOp}{r:R2}{b:N->N->Option (Rs N)}(f:û a (Rk e) r)(i:Ħ a r b)(k:FE a g y)(j:FE a P È)(h:QR e P=L):FE a (.Compare g [e] [P] o) (Q b y È):=dg (D7 f k.h j.h h) λ_ _ _ _ E d=>two i E d
noncomputable def ð:N->Option (Rs Bool)|.bl b=>Z (.ok b)|_=>Y
def fB(f:Ò):ã:=λa=>Ù (f a) ð
theorem ud{d:Bool->Hp->Prop}(r:Ó a.K h j Κ)(o:ø a h (ð j) d):∃k,Κ=.bl k/\d k h:=by cases j with|bl b=>exact⟨b,r,o h (.refl h)⟩|_=>exact o.elim
theorem jU{i:CmpOp}{r:R2}{b:N->N->Option (Rs N)}(m:û a (Rk i) r)(p:Ħ a r b)(t:FE a g y)(q:FE a P È)(n:QR i P=L):FT a (.Compare g [i] [P] o) (fB (Q b y È)):=Ei (wC m t.h q.h n) λj H h u E f=>by show R' r (tF a y) (tF a È) j H _;refine two p E ?_;exact ê.bindB f λd v w e r k=>ud r k
theorem IE(j:FE a g y)(i:∀b,isTrue g a.env b=(do let v<-b;XD g.pos;Um [v] (truthy v)):=by intro _;lk):FT a g (fB y):=Ei (HV j.h i) λk H Q f E o=>⟨f,E,ê.bindB o λd v m e r h=>ud r h⟩
def lN(f g:ã):ã:=λa=>Ù (f a) λk=>if k then g a else Z (.ok L)
def ÿ(f g:ã):ã:=λa=>Ù (f a) λk=>if k then Z (.ok U)else g a
def cg(f:ã):ã:=λa=>Ù (f a) λk=>Z (.ok (!k))
theorem Em(b:FT a g Μ):FW a (.BoolOp .And [g] o) Μ:=⟨DZ b.h⟩
theorem IF(b:FT a g Μ):FW a (.BoolOp .Or [g] o) Μ:=⟨CU b.h⟩
theorem Da{h:ã}(m:FT a g Μ)(j:FW a (.BoolOp .And (P::t) o) h):FW a (.BoolOp .And (g::P::t) o) (lN Μ h):=IA (HW m.h j.h) λn H Q d E b=>⟨d,E,ø.bindB b λk i e f=>by cases k with|true=>exact wU ⟨d,E.mono e,f⟩|false=>exact wT (f i (.refl i))⟩
theorem IG{h:ã}(m:FT a g Μ)(j:FW a (.BoolOp .Or (P::t) o) h):FW a (.BoolOp .Or (g::P::t) o) (ÿ Μ h):=IA (HX m.h j.h) λn H Q d E b=>⟨d,E,ø.bindB b λk i e f=>by cases k with|true=>exact wU (f i (.refl i))|false=>exact wT ⟨d,E.mono e,f⟩⟩
theorem IH(i:FT a g Μ):FT a (.UnaryOp .Not g o) (cg Μ):=Ei (HY i.h) λj H Q f E b=>⟨f,E,ø.bindB b λk d e h=>h d (.refl d)⟩
def iD(f g:Ò):Ò:=λa=>Ù (f a) λx=>Ù (ð x) λk=>if k then g a else Z (.ok (.bl L))
def Ġ(f g:Ò):Ò:=λa=>Ù (f a) λx=>Ù (ð x) λk=>if k then Z (.ok (.bl U))else g a
def Mi(f:Ò):Ò:=λa=>Ù (f a) λx=>Ù (ð x) λk=>Z (.ok (.bl (!k)))
theorem rQ{k:Bool->Option (Rs N)}(r:Ó a.K h j Κ)(o:ê a h (Ù (ð j) k) Ê):∃b,Κ=.bl b/\ê a h (k b) Ê:=by cases j with|bl b=>exact⟨b,r,o⟩|_=>exact o.elim
theorem II{b}(d:FE a g y):FE a (.BoolOp b [g] o) y:=⟨HZ d.h⟩
theorem IJ(n:FE a g y)(m:FE a (.BoolOp .And (P::t) o) È):FE a (.BoolOp .And (g::P::t) o) (iD y È):=dg (Ia n.h m.h) λp H Q f E b=>⟨f,E,ê.bind b λd v i e r j=>by obtain⟨k,rfl,h⟩:=rQ r j;refine⟨k,rfl,?_⟩;cases k with|true=>exact wU ⟨f,E.mono e,h⟩|false=>exact wT (h (.bl L) i (.refl i) rfl)⟩
theorem Nc(n:FE a g y)(m:FE a (.BoolOp .Or (P::t) o) È):FE a (.BoolOp .Or (g::P::t) o) (Ġ y È):=dg (MN n.h m.h) λp H Q f E b=>⟨f,E,ê.bind b λd v i e r j=>by obtain⟨k,rfl,h⟩:=rQ r j;refine⟨k,rfl,?_⟩;cases k with|true=>exact wU (h (.bl U) i (.refl i) rfl)|false=>exact wT ⟨f,E.mono e,h⟩⟩
theorem IK(m:FE a g y):FE a (.UnaryOp .Not g o) (Mi y):=dg (Ib m.h) λn H Q h E b=>⟨h,E,ê.bind b λd v f e r j=>by obtain⟨k,rfl,i⟩:=rQ r j;exact⟨k,rfl,i (.bl (!k)) f (.refl f) rfl⟩⟩
def ĺ(c:ã)(f g:Ò):Ò:=λa=>Ù (c a) λk=>if k then f a else g a
theorem Nd{c:u_}(h:FT a c Μ)(j:FE a g y)(i:FE a P È):FE a (.IfExp c g P o) (ĺ Μ y È):=dg (Aq h.h j.h i.h) λm H Q d E b=>⟨d,E,ø.bind b λk n e f=>by cases k with|true=>exact wU ⟨d,E.mono e,f⟩|false=>exact wT ⟨d,E.mono e,f⟩⟩
noncomputable def cM:Û:=λ_=>Z (.ok [])
noncomputable def aK(f:Ò)(g:Û):Û:=λa=>Ù (f a) λx=>Ù (g a) λb=>Z (.ok (x::b))
abbrev ax(f:Ò):Û:=aK f cM
abbrev bA(f g:Ò):Û:=aK f (ax g)
abbrev bT(f g h:Ò):Û:=aK f (bA g h)
abbrev iE(f g h k:Ò):Û:=aK f (bT g h k)
abbrev jf(f g h k l:Ò):Û:=aK f (iE g h k l)
abbrev vm(f g h k l m:Ò):Û:=aK f (jf g h k l m)
abbrev R(i:Int):Ò:=fC (.int i)
abbrev Ñ(x:Str):Ò:=fC (.str x)
variable{ε:Û}
theorem IL{b:TA}(h:PA a t b)(w:∀d H Q e,Ú a.K H d e->ä a H (ε e) Q->b d H Q):FA a t ε:=⟨λpos f s d H Q I⟨e,E,o⟩=>h pos f s d H Q I (w d H Q e E o)⟩
theorem wX:FA a [] cM:=IL wI λ_ H _ _ _ o=>o [] H (.refl H) rfl
theorem rR(n:FE a g y)(m:FA a t ε)(k:k_ (g::t) a.env=(L,eval g a.env)::k_ t a.env:=by lk):FA a (g::t) (aK y ε):=IL (oh n.h m.h k) λq H Q b E o=>⟨b,E,ê.bindA o λd v w g r j=>⟨b,E.mono g,ä.bindA j λu e f p h i=>i (v::e) f (.refl f) ⟨v,e,rfl,Ó.mono p d v r,h⟩⟩⟩
def fj(g:Û):Ò:=λb=>Ù (g b) λa=>if a.length<=100000 then Z (.ok (.lst a))else Y
def fW(g:Û):Ò:=λb=>Ù (g b) λa=>if a.length<=100000 then Z (.ok (.tup a))else Y
theorem cT(h:d<=100000):d<=sizeLine:=QV h (by rw[UH];decide)
theorem IM(h:FA a t ε):FE a (.List t o) (fj ε):=dg (C7 h.h) λm H Q i E b=>⟨i,E,ä.bind b λn j q e f d=>by
 split at d;·rename_i k;refine⟨by rw[f.length];exact cT k,λp g=>d (.ref p) _ (aD g _) ⟨p,j,rfl,aw,O.mono (aD g _) _ _ f⟩⟩
 ·exact d.elim⟩
theorem IN{k}(h:FA a t ε):FE a (.Tuple t k o) (fW ε):=dg (Io h.h) λn H Q i E b=>⟨i,E,ä.bind b λq j r e f d=>by
 split at d;·rename_i m;refine⟨by rw[f.length];exact cT m,λp g=>d (.ref p) _ (aD g _) ⟨p,j,rfl,aw,O.mono (aD g _) _ _ f⟩⟩
 ·exact d.elim⟩
theorem Eo:ć a [] (λb=>Z (.nx b)):=wW lB λD d H b E o=>o d H (.refl H) E
def aA(f g:Ö):Ö:=λa=>sq (f a) g
theorem AD{g:Ö}(j:FS a τ Ο)(i:ć a Ξ g):ć a (τ::Ξ) (aA Ο g):=wW (cL j.h i.h) λD n H h E o=>⟨h,E,by unfold aA at o;match b:Ο h with|none=>rw[b]at o;exact o.elim|some (.exc c)=>rw[b]at o;exact o|some (.rt d)=>rw[b]at o;exact o|some (.nx f)=>rw[b]at o;exactλm p e k=>⟨f,k,ï.mono e o⟩⟩
theorem wY(b:FS a τ Ο):ć a [τ] Ο:=⟨ku b.h⟩
noncomputable def aH(f:Ò):Ö:=λa=>cu (f a) λd=>Z (.rt d)
theorem Db(i:FE a g y):FS a (.Return (Z g) o) (aH y):=rP (pJ i.h) λD j H f E b=>⟨f,E,ê.bindS b λd v e g r h=>h v e (.refl e) r⟩
noncomputable def Nf:Ö:=λ_=>Z (.rt .non)
noncomputable def cU(f:Ò):Ö:=λa=>cu (f a) λ_=>Z (.nx a)
theorem Ep(k:FE a g y)(j:Q8 g Y o.line a.env=pure L:=by lk):FS a (.Expr g o) (cU y):=rP (lC k.h j) λD f H h E b=>⟨h,E,ê.bindS b λd v e g r i=>i f e (.refl e) (E.mono g)⟩
noncomputable def bI(i:Nat)(f:Ò):Ö:=λa=>cu (f a) λd=>Z (.nx (a.set i (Z d)))
theorem IP(i:Nat){x:Str}{e:Pos}(t:a.N.Nodup)(n:a.N[i]?=Z x)(k:Ļ a.env.scope x)(q:FE a g y)(m:Q8 g (Z (.Name x e)) o.line a.env=pure L:=by lk)(p:a.fn x=U\/a.env.scope.names.lookup x=Z .local:=by first|exact .inl rfl|exact .inr rfl|assumption):FS a (.Assign [.Name x e] g o) (bI i y):=rP (mY t n k q.h m p) λD u H h E b=>⟨h,E,ê.bindS b λd v f g r j=>j _ f (.refl f) ((E.mono g).set r)⟩
noncomputable def ba(c:ã)(f g:Ö):Ö:=λa=>cu (c a) λk=>if k then f a else g a
theorem Ng{b:Ö}{i:List Re}(j:FT a g Μ)(n:ć a Ξ Ο)(m:ć a i b):FS a (.If g Ξ i o) (ba Μ Ο b):=rP (wp j.h n.h m.h) λD p H f E d=>⟨f,E,ø.bindS d λk q e h=>by cases k with|true=>exact wU ⟨f,E.mono e,h⟩|false=>exact wT ⟨f,E.mono e,h⟩⟩
noncomputable def ue:Ö:=λ_=>Y
theorem wZ:ć a Ξ ue:=wW wq λ_ _ _ _ _ o=>o
noncomputable def Its(z:Str):It:=⟨λi _=>i<z.cps.size,λi H x a=>a=H/\∃c,z.cps[i]?=Z c/\x=.str ⟨#[c]⟩,λi _=>i=z.cps.size⟩
theorem pU(d:E.handled=Y)(I:B)(x:Str)(t:Tok){a:String}(b:a="str_ascii_iterator"\/a="str_iterator"):Walks p m E I [I] [I] x.cps.size (SignAt x) (λi h=>h.IsStrIter I a x t i):=by
 rcases b with rfl|rfl;·exact Walks.strAscii d I x t
 ·exact Walks.strWide d I x t
theorem AE(z:Str)(t:Tok)(j:B){ty:String}(n:ty="str_ascii_iterator"\/ty="str_iterator"):Aa p m u g (Its z) [j] j (λi h=>h.IsStrIter j ty z t i)where
 mem:=by simp
 obj:=λi h st b q=>by
  have e:b=j:=by simpa using q
  subst e;obtain⟨o,e,c,d⟩:=st;exact⟨o,e,λv z=>by rw[d]at z;cases z⟩
 keep:=λi h P st k=>let⟨o,ho,r⟩:=st;⟨o,k j (by simp) o ho,r⟩;item:=by intro X hP hw hK hc i j' s σ H E I y st hg;subst hP hw hK;obtain⟨f0,f1,Q,f3,f4,f5⟩:=y j (by simp);have W:=pU (p:=X.prog) (m:=X.w) (I.ok.hd hc) j z t n;refine W.item i s _ _ hg st λv P tk hv w kk=>?_;obtain⟨c,a,b',rfl⟩:=hv;have I1:Ì X j' σ H {s with heap:=P,toks:=tk}:=I.turned (λb o q e=>kk b o (by simpa using q) e) f0 f1 f3 f4 f5;obtain⟨o,e,c',d⟩:=id w;refine⟨_,rfl,Ar (f:={s with heap:=P,toks:=tk}) e c' d (by rcases n with rfl|rfl<;>decide) ⟨.str ⟨#[c]⟩,H,I1,⟨a,rfl⟩,⟨rfl,c,b',rfl⟩,w,λb q=>(y b q).1⟩⟩
 done:=by intro X hP hw hK hc i j' s σ H E I y st hg;subst hP hw hK;obtain⟨f0,f1,Q,f3,f4,f5⟩:=y j (by simp);have W:=pU (p:=X.prog) (m:=X.w) (I.ok.hd hc) j z t n;have a':i=z.cps.size:=hg;subst a';exact W.done s _ _ st λP tk kk=>⟨rfl,I.turned (λb o q e=>kk b o (by simpa using q) e) f0 f1 f3 f4 f5⟩
 self:=λA i s f E st h=>by
  rcases n with rfl|rfl;·exact wpAny_pyIter_striter_ascii st h
  ·exact wpAny_pyIter_striter_wide st h
structure Wk(K:d_)(J:It)(ds:List N)(H0:Hp):Prop where
 go:∀i H,Í H0 H->i<ds.length->J.go i H
 stop:∀H,Í H0 H->J.stop ds.length H
 yld:∀i H x H',Í H0 H->i<ds.length->J.yld i H x H'->H'=H/\∃d,ds[i]?=Z d/\Ó K H d x
def Ĳ(X:C)(H:Hp)(o:Option (Rs (List N)))(R:It->Hp->Prop):Prop:=match o with|none=>False|some (.exc c)=>XW X c H|some (.ok b)=>∀J a,Í H a->Wk X.K J b a->R J a
structure FI(X:C)(tg iter:u_)(f:Û):Prop where h:PI X tg iter λσ H R=>∃ρ,Ú X.K H σ ρ/\Ĳ X H (f ρ) R
theorem Ĳ.mono{R:It->Hp->Prop}(e:Í h Ζ):∀{o:Option (Rs (List N))},Ĳ a h o R->Ĳ a Ζ o R|none,b=>b|some (.exc _),b=>XW.mono b e|some (.ok _),b=>λv f d r=>b v f (e.trans d) r
noncomputable def Ĥ(z:Str):List N:=z.cps.toList.map λc=>.str ⟨#[c]⟩
def items:N->Option (Rs (List N))|.lst a=>Z (.ok a)|.tup a=>Z (.ok a)|.str z=>Z (.ok (Ĥ z))|_=>Y
def da(f:Ò):Û:=λa=>Ù (f a) items
theorem rS(b:h e=Z (.lst μ))(r:O u h q μ):Wk u (ŧ u e) q h where
 go:=λi g a f=>by
  have j:i<μ.length:=by rw[r.length];exact f
  exact⟨μ,μ[i],ô.of (a _ _ b),by simp[j]⟩
 stop:=λg a=>⟨μ,ô.of (a _ _ b),by rw[r.length];exact s_ _⟩;yld:=λi g x o a f y=>by obtain⟨n,y⟩:=y;obtain⟨d,m,k⟩:=O.get (O.mono a _ _ r) (y μ (ô.of (a _ _ b)));exact⟨n,d,m,k⟩
theorem IQ(b:h e=Z (.tup μ))(r:O u h q μ):Wk u (Z1 u e) q h where
 go:=λi g a f=>by
  have j:i<μ.length:=by rw[r.length];exact f
  exact⟨μ,μ[i],ü.of (a _ _ b),by simp[j]⟩
 stop:=λg a=>⟨μ,ü.of (a _ _ b),by rw[r.length];exact s_ _⟩;yld:=λi g x o a f y=>by obtain⟨n,y⟩:=y;obtain⟨d,m,k⟩:=O.get (O.mono a _ _ r) (y μ (ü.of (a _ _ b)));exact⟨n,d,m,k⟩
theorem IR:Wk u (Its b) (Ĥ b) h where
 go:=λi f e d=>by show i<b.cps.size;simpa[Ĥ]using d
 stop:=λf e=>by show(Ĥ b).length=b.cps.size;simp[Ĥ]
 yld:=λi f x k e d y=>by
  obtain⟨j,c,g,rfl⟩:=y;refine⟨j,.str ⟨#[c]⟩,?_,rfl⟩;have a:b.cps.toList[i]?=Z c:=by simpa using g
  rw[Ĥ,Rg,a]<;>rfl
noncomputable def rng(a:Int):Nat->List N|0=>[]|n+1=>.int a::rng (a+1) n
theorem jg:∀(n:Nat)(lo:Int),(rng lo n).length=n|0,_=>rfl|n+1,lo=>by show(rng (lo+1) n).length+1=n+1;rw[jg]
theorem w6:∀(n:Nat)(lo:Int)(i:Nat),i<n->(rng lo n)[i]?=Z (.int (lo+i))|0,_,_,h=>by omega|n+1,lo,0,_=>by simp[rng]|n+1,lo,i+1,h=>by have q:=w6 n (lo+1) i (by omega);show(N.int lo::rng (lo+1) n)[i+1]?=_;rw[UM,q];congr 2;omega
theorem uf:Wk u (Zq k d) (rng k d) h where
 go:=λi b e a=>by rw[jg]at a;exact a
 stop:=λb e=>by show d<=(rng k d).length;rw[jg];exact s_ _
 yld:=λi b x g e a y=>by obtain⟨f,rfl⟩:=y;rw[jg]at a;exact⟨f,_,w6 d k i a,rfl⟩
theorem IS(hl:FE a P y):FI a g P (da y):=by
 constructor;intro j' s σ H R I h;obtain⟨ρ,E,o⟩:=h;have key:ê a H (y ρ) λx j=>∃d,Ó a.K j d x/\Ĳ a j (items d) R:=by unfold da at o;match hf:y ρ,o with|some (.exc c),o=>exact o|some (.ok d),o=>exactλv j e r=>⟨d,r,Ĳ.mono e o⟩|none,o=>exact o
 refine â (hl.h j' s σ H _ I ⟨ρ,E,key⟩) λv i⟨x,j,u,r1,d,rd,q⟩=>?_;have m:∀(o:Obj)(tn:Nat->J_->Prop)(J:It)(k:List N),Aa a.prog a.w a.K g J [i.heap.objs.size] i.heap.objs.size tn->tn 0 (i.heap.push o)->Wk a.K J k j->(∀J H',Í j H'->Wk a.K J k H'->R J H')->PIE a j' σ g R (.ref i.heap.objs.size) {i with heap:=i.heap.push o}:=λo tn J k T t0 w q=>by
  refine⟨i.heap.objs.size,[i.heap.objs.size],tn,J,j,rfl,u.kept (t':=i.toks) λb o e=>j_ _ e,T,t0,λb hb=>?_,q J j (.refl j) w⟩;have e:b=i.heap.objs.size:=by simpa using hb
  subst e;exact u.fpOk (s_ _) (u.hok.fresh (s_ _))
 cases d with|lst k=>obtain⟨f,xs,rfl,n,h2⟩:=rd.lstE;cases r1;obtain⟨A,rv,p,hz⟩:=u.list (ô.of n);exact SD p.isList (m _ _ (ŧ a.K f) k (lD f _) ⟨_,pi _ rfl,rfl,rfl⟩ (rS n h2) q)|tup k=>obtain⟨f,xs,rfl,n,h2⟩:=rd.tupE;cases r1;obtain⟨A,rv,p,hz⟩:=u.tuple (ü.of n);exact UC (show i.heap.IsTuple f A.toArray from p) (m _ _ (Z1 a.K f) k (u3 f _) ⟨_,pi _ rfl,rfl,rfl⟩ (IQ n h2) q)|str z=>
  cases(show x=.str z from rd);obtain⟨t,rfl⟩:=r1;have a':YK z="str_ascii_iterator"\/YK z="str_iterator":=by
   unfold YK;split;·exact .inl rfl
   ·exact .inr rfl
  exact wpAny_pyIter_strU (m _ _ (Its z) (Ĥ z) (AE z t _ a') ⟨_,pi _ rfl,rfl,rfl⟩ IR q)|_=>exact q.elim
def v7:List N->Option (Rs (List N))|[.int j]=>if-(2^62)<=j/\j<2^62 then Z (.ok (rng 0 j.toNat))else Y|_=>Y
def Ab:List N->Option (Rs (List N))|[.int i,.int j]=>if-(2^62)<=i/\i<2^62/\-(2^62)<=j/\j<2^62 then Z (.ok (rng i (j-i).toNat))else Y|_=>Y
theorem m5{R:It->Hp->Prop}{o:Option (Rs (List N))}{k:List N->Option (Rs (List N))}{P:List V->Hp->Prop}(b:Ĳ a h (Ù o k) R)(j:∀i g f,Í h f->O a.K f i g->Ĳ a f (k i) R->P g f):ä a h o P:=by match o,b with|some (.exc _),b=>exact b|some (.ok d),b=>exactλv m e r=>j d v m e r (Ĳ.mono e b)
theorem w8(A:Gl a "range")(z:a.mg "range"=Y)(ha:FA a [P] ε)(y:k_ [P] a.env=[(L,eval P a.env)]:=by lk):FI a g (.Call (.Name "range" w) [P] [] o) (λk=>Ù (ε k) v7):=by
 constructor;intro u s n H R I h;obtain⟨k,E,b⟩:=h;refine ww A z ha.h y u s n H R I ⟨k,E,m5 b λds p i e q d=>?_⟩;unfold v7 at d;split at d
 · rename_i j;split at d;·rename_i m;obtain⟨v,f,rfl,r,t⟩:∃v f,p=v::f/\Ó a.K i (.int j) v/\O a.K i [] f:=q;cases(show f=[]from t);cases(show v=.int j from r);exact⟨j,rfl,m.1,m.2,d _ i (.refl i) uf⟩
   ·exact d.elim
 ·exact d.elim
theorem w9{b:u_}(hg:Gl a "range")(hm:a.mg "range"=Y)(ha:FA a [P,b] ε)(hs:k_ [P,b] a.env=[(L,eval P a.env),(L,eval b a.env)]:=by lk)(u:k_ [b] a.env=[(L,eval b a.env)]:=by lk):FI a g (.Call (.Name "range" w) [P,b] [] o) (λp=>Ù (ε p) Ab):=by
 constructor;intro j' s y H R I h;obtain⟨p,E,d⟩:=h;refine wx hg hm ha.h hs u j' s y H R I ⟨p,E,m5 d λds z k e rs f=>?_⟩;unfold Ab at f;split at f
 · rename_i i j;split at f;·rename_i hj;obtain⟨v,n,rfl,r,t⟩:∃v n,z=v::n/\Ó a.K k (.int i) v/\O a.K k [.int j] n:=rs;obtain⟨A,q,rfl,r2,t2⟩:∃v m,n=v::m/\Ó a.K k (.int j) v/\O a.K k [] m:=t;cases(show q=[]from t2);cases(show v=.int i from r);cases(show A=.int j from r2);exact⟨i,j,rfl,hj,f _ k (.refl k) uf⟩
   ·exact f.elim
 ·exact f.elim
def lO(i:Nat)(e:List Nat)(a:Ö):List N->Ev->Option Fl|[],b=>Z (.nx (fgt e b))|d::g,b=>match a ((fgt e b).set i (Z d))with|some (.nx f)=>lO i e a g f|o=>o
def Dc(i:Nat)(e:List Nat)(b:Û)(a:Ö):Ö:=λd=>cu (b d) λf=>lO i e a f d
theorem jV{b:List υ}{a:υ}(h:b[d]?=Z a):b.drop d=a::b.drop (d+1):=by obtain⟨f,e⟩:=D_.mp h;rw[List.drop_eq_getElem_cons f,e]
theorem IT(i:Nat)(q:List Nat)(hp:UI (x_ a.prog a.w) a.A a.env a.xe)(hc:a.calm=U)(hi:FI a g P ε)(hg:PG a g (wt i))(hb:ć a Ξ Ο)(hs:∀x,QT P a.env x=pure x:=by intro _;lk):FS a (.For g P Ξ [] o) (Dc i q ε Ο):=by refine rP (tY hp hc hi.h hg hb.h hs) λD σ H z E b=>⟨z,E,?_⟩;unfold Dc at b;match hf:ε z,b with
 |none,b=>exact b|some (.exc c),b=>exact b|some (.ok j),b=>
 intro J H1 e1 wk;have o1:ï a H1 (lO i q Ο j z) D:=ï.mono e1 b;refine⟨λn m u k=>m=j.length-n/\n<=j.length/\Í H1 k/\∃h,Ú a.K k u h/\ï a k (lO i q Ο (j.drop n) h) D,⟨j.length,by simp,QZ _,.refl H1,z,E.mono e1,by simpa using o1⟩,?_⟩;rintro n m u k⟨rfl,hn,I,h,E',f⟩;by_cases v:n<j.length;·refine .inr ⟨wk.go n k I v,λt w=>Í H1 w/\∃e,Ú a.K w t e/\ï a w (lO i q Ο (j.drop (n+1)) e) D,λt w⟨A,e,E2,o2⟩=>⟨j.length-(n+1),by omega,rfl,v,A,e,E2,o2⟩,λx w y=>?_⟩;obtain⟨rfl,d,hd,rd⟩:=wk.yld n k x w I v y;rw[jV hd]at f;show tS a Ο _ _ _;refine⟨(fgt q h).set i (Z d),(Ú.fgt q E').set rd,?_⟩;unfold lO at f;match p:Ο ((fgt q h).set i (Z d))with|none=>rw[p]at f;exact f|some (.exc c)=>rw[p]at f;exact f|some (.rt r)=>rw[p]at f;exact f|some (.nx e)=>rw[p]at f;exactλt H3 A E3=>⟨I.trans A,e,E3,ï.mono A f⟩
 · have a':n=j.length:=by omega
   subst a';rw[Vg]at f;exact .inl ⟨wk.stop k I,f u k (.refl k) (Ú.fgt q E')⟩
noncomputable def ŷ(K:d_)(F:Ï)(n:Nat):Sp:=λe H Q _=>∃a,O K H a e/\a.length=n/\match F a with|some (.ok d)=>∀v b,Í H b->Ó K b d v->Q v b|_=>False
def ae(F:Ï)(n:Nat)(g:Û):Ò:=λb=>Ù (g b) λa=>if a.length=n then(match F a with|some (.ok d)=>Z (.ok d)|_=>Y)else Y
theorem Er(G:è a.prog a.w a.K a.mg a.base ċ d e Â z (ŷ a.K ψ r))(v:Ø d a.A)(P:Gl a b)(y:a.mg b=Z (.ref e))(I:Rr a.K (.ref e)=U)(hb:ë a.K Â z [])(ha:FA a (g::t) ε)(m:(b==("__debug__":Str))=L:=by lk)(he:k_ (g::t) a.env=(L,eval g a.env)::k_ t a.env:=by lk)(k:(O_ w (k_ t a.env)).any (·.1)=L:=by lk):FE a (.Call (.Name b o) (g::t) [] w) (ae ψ r ε):=dg (lI G v P y I hb .nil Iz ha.h m he k) λσ H Q p E f=>⟨p,E,ä.bind f λn q H' g u i=>by
 show ŷ a.K ψ r (q++[]) H' Q E0;rw[RB];split at i
 ·rename_i A;refine⟨n,u,A,?_⟩;match j:ψ n with|some (.ok h)=>rw[j]at i;exact i|some (.exc c)=>rw[j]at i;exact i|none=>rw[j]at i;exact i
 ·exact i.elim⟩
def Zy(P:n_)(w:w_)(K:d_)(d:Str->Option D)(a:J_)(x:Str)(k:Nat)(b:List Str)(F:Ï):Prop:=∃f e,è P w K d a ċ k f e b (ŷ K F b.length)/\d x=Z (.ref f)/\Rr K (.ref f)=U/\ë K e b []
theorem AF(k:Nat)(m:List Str)(F:Ï)(h:Zy a.prog a.w a.K a.mg a.base b k m F)(n:Ø r a.A)(u:k<=r)(v:Gl a b)(A:FA a (g::t) ε)(p:d=m.length:=by lk)(j:(b==("__debug__":Str))=L:=by lk)(y:k_ (g::t) a.env=(L,eval g a.env)::k_ t a.env:=by lk)(e:(O_ w (k_ t a.env)).any (·.1)=L:=by lk):FE a (.Call (.Name b o) (g::t) [] w) (ae F d ε):=by subst p;obtain⟨f,E,G,q,i,z⟩:=h;exact Er (G.mono u) n v q i z A j y e
noncomputable def bt(m:Nat)(b:Ö):Ï:=λa=>match b (a.map Z++L_ (m-a.length) Y)with|some (.nx _)=>Z (.ok .non)|some (.rt d)=>Z (.ok d)|_=>Y
theorem dH(r:O u h q μ):Ú u h (L2.start z μ) (q.map Z++L_ (z.length-q.length) Y):=by
 have g:=r.length;refine⟨by unfold L2.start;rw[Ry,Ry,QL,QL,TZ,TZ,g],λi d a=>?_⟩;by_cases e:i<q.length;·rw[Sr (by simpa using e),Rg]at a;cases f:q[i]? with|none=>rw[f]at a;cases a|some m=>rw[f]at a;have b:Z (Z m)=Z (Z d):=a;injection b with b;injection b with b;subst b;obtain⟨v,k,j⟩:=r.get' f;refine⟨v,?_,j⟩;unfold L2.start;rw[Sr (by rw[QL,g];exact e),Rg,k]<;>rfl
 ·rw[Sm (by simpa using e),UL]at a;split at a<;>cases a
theorem Nh{N:List Str}(Fn:ġ u b i τ e Â)(S:dO N z (ah τ))(hb:∀(j:D)(A:xy)(g:List Env)(s:g_)(H:Hp)(E:XK),Ø d (A.deeper (Sq i (ah τ) s.heap.objs.size e j))->ć (kq ċ p m u Α I N i (ah τ) e j A g s H E).nox (bB τ) Ο):è p m u Α I ċ (d+1) e Â z (ŷ u (bt N.length Ο) z.length):=by
 refine Fn.ok S (λw H Q E h=>?_) (λj A g s H w Q E P h=>?_);·obtain⟨k,r,t,_⟩:=h;rw[r.length,t]
 ·obtain⟨k,r,t,q⟩:=h;refine⟨_,(hb j A g s H E P).h,k.map Z++L_ (N.length-k.length) Y,dH r,?_⟩;unfold bt at q;match n:Ο (k.map Z++L_ (N.length-k.length) Y)with|none=>rw[n]at q;exact q.elim|some (.exc c)=>rw[n]at q;exact q.elim|some (.rt f)=>rw[n]at q;exactλv o a y=>q v o a y|some (.nx ρ)=>rw[n]at q;exactλa' o a _=>q .non o a rfl
theorem IU(N g:List Str)(h:Ö)(n:ψ=bt N.length h)(j:r=g.length)(o:ġ u b i τ e Â)(S:dO N g (ah τ))(k:∀(f:D)(A:xy)(a:List Env)(s:g_)(H:Hp)(E:XK),Ø d (A.deeper (Sq i (ah τ) s.heap.objs.size e f))->ć (kq ċ p m u Α I N i (ah τ) e f A a s H E).nox (bB τ) h):è p m u Α I ċ (d+1) e Â g (ŷ u ψ r):=by subst n j;exact Nh o S k
noncomputable def kx(b:List (Str×Tu))(d:Env)(a:List (Str×B)):List (Str×B):=match b with|[]=>a|(n,k)::r=>kx r d (if k==.free then(n,(d.cells.lookup n).getD 0)::a else a)
theorem m7{d:Env}{n:Str}{c:B}:∀(a:List (Str×Tu))(b:List (Str×B)),(kx a d b).lookup n=Z c->b.lookup n=Z c\/((n,Si)∈a/\c=(d.cells.lookup n).getD 0)
 |[],b,h=>.inl h|(m,k)::r,b,h=>by
  rcases m7 r _ h with q|⟨j,i⟩
  · by_cases g:k=.free;·subst g;simp only[beq_self_eq_true,if_true]at q;rw[Q9]at q;cases f:n==m with
      |true=>
      rw[f]at q;have e:n=m:=by simpa using f
      subst e;exact .inr ⟨q_,(Q4 q).symm⟩|false=>rw[f]at q;exact .inl q
    · have o:(k==Si)=L:=by simpa using g
      rw[o]at q;exact .inl (by simpa using q)
  ·exact .inr ⟨on _ j,i⟩
theorem pV{d:Env}{n:Str}:∀(b:List (Str×Tu))(a:List (Str×B)),(a.lookup n).isSome=U->((kx b d a).lookup n).isSome=U
 |[],a,h=>h|(m,k)::r,a,h=>by
  refine pV r _ ?_;split;·rw[Q9];cases n==m with|true=>rfl|false=>exact h
  ·exact h
theorem om{d:Env}{n:Str}:∀(a:List (Str×Tu))(b:List (Str×B)),(n,Si)∈a->((kx a d b).lookup n).isSome=U
 |[],b,h=>by cases h|(m,k)::r,b,h=>by
  rcases t_.mp h with e|q;·injection e with g f;subst g;subst f;refine pV r _ ?_;simp only[beq_self_eq_true,if_true,Q9];rfl
  ·exact om r _ q
theorem gF{b:Type}{n:Str}{k:b}:∀{l:List (Str×b)},l.lookup n=Z k->(n,k)∈l|[],h=>by simp at h|(m,j)::r,h=>by rw[Q9]at h;cases a:n==m with
 |true=>
 rw[a]at h;have e:n=m:=by simpa using a
 subst e;have d:j=k:=Q4 h;subst d;exact q_|false=>rw[a]at h;exact on _ (gF h)
theorem kZ{f:Env}{k:Tu}(h:(relabel η f).names.lookup b=Z k):(b,k)∈η.names\/(k=.cell/\(b,Si)∈η.names):=by
 have q:=gF h;unfold relabel at q;obtain⟨⟨m,j⟩,g,e⟩:=QW.mp q;dsimp only at e;split at e
 · rename_i i;injection e with d a;subst d;have n:j=.free:=by rw[p_,p_]at i;simpa using i.1.1
   subst n;exact .inr ⟨a.symm,g⟩
 ·injection e with d a;subst d;subst a;exact .inl g
theorem k6{a:Env}:∀{b:List (Str×Tu)}{n:Str},b.lookup n=Z .free->(b.map λ(n,k)=>if(k==Si&&a.scope.kind==.function&&a.kindOf n==Z .cell)then(n,Sx)else(n,k)).lookup n=Z .cell\/(b.map λ(n,k)=>if(k==Si&&a.scope.kind==.function&&a.kindOf n==Z .cell)then(n,Sx)else(n,k)).lookup n=Z .free
 |[],_,h=>by simp at h|(m,k)::r,n,h=>by have f:=@k6 a r n;rw[Q9]at h;rw[QU];cases d:n==m with
 |true=>
 rw[d]at h;have g:k=.free:=Q4 h;subst g;by_cases e:(Si==Si&&a.scope.kind==.function&&a.kindOf m==Z .cell)=U;·dsimp only;rw[if_pos e,Q9,d];exact .inl rfl
 ·dsimp only;rw[if_neg e,Q9,d];exact .inr rfl|false=>
 rw[d]at h;dsimp only;by_cases e:(k==Si&&a.scope.kind==.function&&a.kindOf m==Z .cell)=U;·rw[if_pos e,Q9,d];exact f h
 ·rw[if_neg e,Q9,d];exact f h
noncomputable def Dd(b:List (Str×Nat))(a:Ev):Ev:=Y::b.map λc=>(a[c.2]?).join
noncomputable def xb(a:Option ã)(b:Ò)(e:Ev):List N->Option (List N)|[]=>Z []|d::g=>let f:=e.set 0 (Z d);match(match a with|none=>(Z (.ok U):Option (Rs Bool))|some t=>t f)with|some (.ok U)=>(match b f with|some (.ok y)=>(match xb a b e g with|some h=>Z (y::h)|none=>Y)|_=>Y)|some (.ok L)=>xb a b e g|_=>Y
def bU(h:List (Str×Nat))(b:Û)(a:Option ã)(d:Ò):Ò:=λe=>Ù (b e) λg=>match xb a d (Dd h e) g with|some f=>if f.length<=100000/\g.length<=100000 then Z (.ok (.lst f))else Y|none=>Y
def M'(h:J_)(a:B)(b:List D):Prop:=∃n,h.get? a=Z {cls:=.type "list",data:=.seq b.toArray n}
theorem vn(h:M' f.heap e ξ)(g:ξ.length<=100000)(k:∀d,M' d e (ξ++[Ε])->(∀b o,b≠e->f.heap.get? b=Z o->d.get? b=Z o)->Å .none {f with heap:=d}):uk (x_ p m) E (call (.builtin "list.append") [.ref e,Ε]) Å ο f:=by
 obtain⟨n,a⟩:=h;refine Ug TY ⟨_,a,rfl⟩ XO (Xs _ _) (Yc e ξ.toArray n Ε (by rw[E_];exact cT g)) ⟨a,?_⟩;have q:=Yz a (·.push Ε);have r:ξ.toArray.push Ε=(ξ++[Ε]).toArray:=by simp
 rw[r]at q;exact k _ ⟨_,q⟩ λb o j i=>(SJ f.heap _ (SM j)).trans i
def xf(X:C)(a:List u_)(b:Option ã):Prop:=match b with|none=>a=[]|some t=>∃c,a=[c]/\FT X c t
theorem Ċ.add{o:HO}(x:Ċ p m h I)(j:h e=Y)(n:h v=Y)(k:∀b u,b≠v->I.get? b=Z u->É.get? b=Z u)(g:é p m (Ý h e o) É e o):Ċ p m (Ý h e o) É:=λb u a=>by
 by_cases i:b=e;·subst i;rw[aw]at a;cases a;exact g
 · rw[ay i]at a;refine(x b u a).stay (λc d f q=>k c d ?_ q) (λc q=>by rw[ay (au q j)];exact q) λc r q=>by rw[ay (au q j)];exact q
   rcases f with rfl|f;·exact au a n
   ·exact au f n
theorem Es(h:d<r):d≠r:=by omega
theorem IV(h:d<r):d≠r+1:=by omega
theorem O0:d≠d+1:=by omega
noncomputable def cR:N->N->Option (Rs N)|.int i,.int j=>Z (.ok (.int (i+j)))|.str x,.str y=>if x.length+y.length<=100000 then Z (.ok (.str (x++y)))else Y|.lst a,.lst b=>if a.length+b.length<=100000 then Z (.ok (.lst (a++b)))else Y|_,_=>Y
def Et:R2:=λx y H Q=>ő (λi j=>.int (i+j)) x y H Q\/((∃i j,x=.str i/\y=.str j/\i.length+j.length<=sizeLine/\Q (.str (i++j)) H)\/OY x y H Q)
theorem Ÿ:û a (Tc .Add) Et:=op_add.or (op_add_str.or Iy)
theorem IW:Ħ a Et cR:=by
 intro v u x y H Q g f o;cases v<;>cases u<;>try exact(show False from o).elim
 ·rename_i i j;exact .inl ⟨i,j,g,f,o _ H (.refl H) rfl⟩
 · rename_i i j;simp only[cR]at o;split at o;·rename_i e;exact .inr (.inl ⟨i,j,g,f,cT e,o _ H (.refl H) rfl⟩)
   ·exact o.elim
 · rename_i d b;simp only[cR]at o;split at o;·rename_i e;obtain⟨p,n,rfl,t,m⟩:=g.lstE;obtain⟨q,h,rfl,r,k⟩:=f.lstE;refine .inr (.inr ⟨p,q,n,h,rfl,rfl,t,r,by rw[m.length,k.length];exact cT e,λl e=>o _ _ (aD e _) ⟨l,_,rfl,aw,O.mono (aD e _) _ _ (m.append k)⟩⟩)
   ·exact o.elim
noncomputable def xg:N->N->Option (Rs N)|.int i,.int j=>Z (.ok (.int (i-j)))|_,_=>Y
theorem Ni:Ħ a (ő λi j=>.int (i-j)) xg:=by
 intro f e x y H Q d b o;cases f<;>cases e<;>try exact(show False from o).elim
 rename_i i j;exact⟨i,j,d,b,o _ H (.refl H) rfl⟩
noncomputable def k9:N->N->Option (Rs N)|.int i,.int j=>if(-18446744073709551616<i/\i<18446744073709551616)\/(-18446744073709551616<j/\j<18446744073709551616)then Z (.ok (.int (i*j)))else Y|_,_=>Y
theorem Nj:Ħ a (rI Ű λi j=>.int (i*j)) k9:=by
 intro f e x y H Q d b o;cases f<;>cases e<;>try exact(show False from o).elim
 rename_i i j;simp only[k9]at o;split at o;·rename_i h;exact⟨i,j,d,b,h,o _ H (.refl H) rfl⟩
 ·exact o.elim
noncomputable def jQ:N->N->Option (Rs N)|.int i,.int j=>if 0<j then Z (.ok (.int (i%j)))else Y|_,_=>Y
theorem Nk:Ħ a (rI (λ_ j=>0<j) λi j=>.int (i%j)) jQ:=by
 intro f e x y H Q d b o;cases f<;>cases e<;>try exact(show False from o).elim
 rename_i i j;simp only[jQ]at o;split at o;·rename_i h;exact⟨i,j,d,b,h,o _ H (.refl H) rfl⟩
 ·exact o.elim
noncomputable def jW:N->N->Option (Rs N)|.int i,.int j=>if 0<j/\j<1073741824 then Z (.ok (.int (i/j)))else Y|_,_=>Y
theorem IX:Ħ a (rI OS λi j=>.int (i/j)) jW:=by
 intro f e x y H Q d b o;cases f<;>cases e<;>try exact(show False from o).elim
 rename_i i j;simp only[jW]at o;split at o;·rename_i h;exact⟨i,j,d,b,h,o _ H (.refl H) rfl⟩
 ·exact o.elim
noncomputable def AG:N->Option (Rs N)|.int i=>Z (.ok (.int (-i)))|_=>Y
def f1(g:N->Option (Rs N))(b:Ò):Ò:=λa=>Ù (b a) g
theorem IY(k:FE a g y):FE a (.UnaryOp .USub g o) (f1 AG y):=dg (MX Ij k.h) λm H Q j E b=>⟨j,E,ê.bind b λd v h e r f=>by
 cases d<;>try exact(show False from f).elim
 rename_i i;exact⟨i,r,f _ h (.refl h) rfl⟩⟩
noncomputable def seq(x y:Str):Bool:=x.cps.toList==y.cps.toList
theorem De(x y:Str):(x==y)=seq x y:=by rw[RH];unfold seq;obtain⟨⟨a⟩⟩:=x;obtain⟨⟨b⟩⟩:=y;simp
def ĩ:N->N->Option Bool|.non,.non=>Z U|.non,.int _=>Z L|.int _,.non=>Z L|.non,.bl _=>Z L|.bl _,.non=>Z L|.non,.str _=>Z L|.str _,.non=>Z L|.int i,.int j=>Z (i==j)|.bl i,.bl j=>Z (i==j)|.str i,.str j=>Z (seq i j)|.int _,.str _=>Z L|.str _,.int _=>Z L|.bl _,.str _=>Z L|.str _,.bl _=>Z L|_,_=>Y
variable{δ:N}
theorem Df{y:V}(d:Ó u h j Κ)(b:Ó u h δ y)(a:ĩ j δ=Z A):MZ Κ y=U/\A_ (Κ=y)=A:=by cases j<;>cases δ<;>(try cases a)<;>(try(cases d;cases b;exact⟨rfl,by first|rfl|exact rM|exact wy|(rw[rN,De])|simp⟩))
noncomputable def Nl(p:Int->Int->Bool):N->N->Option (Rs N)|.int i,.int j=>Z (.ok (.bl (p i j)))|_,_=>Y
theorem IZ(p:Int->Int->Bool):Ħ a (ő λi j=>.bl (p i j)) (Nl p):=by
 intro f e x y H Q d b o;cases f<;>cases e<;>try exact(show False from o).elim
 rename_i i j;exact⟨i,j,d,b,o _ H (.refl H) rfl⟩
abbrev ō:=Nl λi j=>A_ (j<i)
noncomputable def Ą:N->N->Option (Rs N)|x,.non=>Z (.ok (.bl (match x with|.non=>U|_=>L)))|_,_=>Y
noncomputable def lP:N->N->Option (Rs N)|x,.non=>Z (.ok (.bl (match x with|.non=>L|_=>U)))|_,_=>Y
theorem xh(r:Ó u h j Κ):A_ (Κ=.non)=(match j with|.non=>U|_=>L):=by cases j with|non=>cases(show Κ=.non from r);rfl|bl b=>cases(show Κ=.bl b from r);rfl|int b=>cases(show Κ=.int b from r);rfl|str b=>cases(show Κ=.str b from r);rfl|tup d=>obtain⟨a,e,rfl,_⟩:=r.tupE;rfl|lst d=>obtain⟨a,e,rfl,_⟩:=r.lstE;rfl|scr d=>obtain⟨a,rfl,_⟩:=r.scrE;rfl|exn c=>obtain⟨a,_,_,_,rfl,_⟩:=r.exnE;rfl|obj k d=>obtain⟨a,_,_,_,rfl,_⟩:=r.objE;rfl
theorem Ja:Ħ a (λx y H Q=>y=.non/\Q (.bl (A_ (x=.non))) H) Ą:=by
 intro g f x y H Q d b o;cases f<;>try exact(show False from o).elim
 have q:=xh d;refine⟨b,?_⟩;have e:=o _ H (.refl H) rfl;cases g<;>(rw[q];exact e)
theorem Dg:Ħ a (λx y H Q=>y=.non/\Q (.bl (!A_ (x=.non))) H) lP:=by
 intro g f x y H Q d b o;cases f<;>try exact(show False from o).elim
 have q:=xh d;refine⟨b,?_⟩;have e:=o _ H (.refl H) rfl;cases g<;>(rw[q];exact e)
noncomputable def inS(x y:Str):Bool:=!(Q_ y x 0 y.length 1).isEmpty
noncomputable def iy:N->Bool|.non=>U|.bl _=>U|.int _=>U|.str _=>U|_=>L
def ű:N->N->Bool|.non,.non=>U|.bl a,.bl b=>a==b|.bl a,.int b=>(if a then 1 else 0)==b|.int a,.bl b=>a==(if b then 1 else 0)|.int a,.int b=>a==b|.str a,.str b=>seq a b|_,_=>L
def Ť(x:N)(a:List N):Option Bool:=if iy x&&a.all iy then Z (a.any λy=>ű y x)else Y
def Hv:N->N->Option Bool|.str x,.str y=>Z (inS x y)|x,.lst a=>Ť x a|x,.tup a=>Ť x a|_,_=>Y
def ŋ(x y:N):Option (Rs N):=match Hv x y with|some b=>Z (.ok (.bl b))|none=>Y
def pW(x y:N):Option (Rs N):=match Hv x y with|some b=>Z (.ok (.bl (!b)))|none=>Y
theorem oq(r:Ó u h j Κ)(a:iy j=U):iw Κ=U:=by cases j<;>first|(cases a;done)|(cases r;rfl)
theorem lg{K:d_}{H:Hp}:∀{b:List N}{a:List V},O K H b a->b.all iy=U->a.all iw=U|[],a,r,_=>by cases(show a=[]from r);rfl|d::b,a,r,h=>by obtain⟨v,e,rfl,g,f⟩:∃v e,a=v::e/\Ó K H d v/\O K H b e:=r;rw[SU,p_]at h;rw[SU,p_];exact⟨oq g h.1,lg f h.2⟩
theorem xi{a:V}(r:Ó u h j Κ)(q:Ó u h δ a)(b:iy j=U)(d:iy δ=U):ĳ Κ a=ű j δ:=by cases j<;>first|(cases b;done)|(cases r;cases δ<;>first|(cases d;done)|(cases q;first|rfl|exact De _ _))
theorem Dh{K:d_}{H:Hp}{e:N}{u:V}(q:Ó K H e u)(g:iy e=U):∀{b:List N}{a:List V},O K H b a->b.all iy=U->(a.any λy=>ĳ y u)=b.any λy=>ű y e|[],a,r,_=>by cases(show a=[]from r);rfl|d::b,a,r,h=>by obtain⟨v,f,rfl,j,i⟩:∃v f,a=v::f/\Ó K H d v/\O K H b f:=r;rw[SU,p_]at h;rw[Vm,Vm,xi j q h.1 g,Dh q g i h.2]
theorem ug(e:Ó u h j Κ)(d:O u h q μ)(a:Ť j q=Z A):iw Κ=U/\μ.all iw=U/\inV Κ μ=A:=by
 unfold Ť at a;split at a;·rename_i b;rw[p_]at b;cases a;exact⟨oq e b.1,lg d b.2,Dh e b.1 d b.2⟩
 ·cases a
def O1(K:d_):R2:=λx y H Q=>(∃i j,x=.str i/\y=.str j/\Q (.bl (!(Q_ j i 0 j.length 1).isEmpty)) H)\/ZH K L x y H Q
def rT(K:d_):R2:=λx y H Q=>(∃i j,x=.str i/\y=.str j/\Q (.bl (!(!(Q_ j i 0 j.length 1).isEmpty))) H)\/ZH K U x y H Q
theorem O2:û a (Rk .In) (O1 a.K):=op_in_str.or wP
theorem Ł:û a (Rk .NotIn) (rT a.K):=op_notIn_str.or pQ
theorem O3:Ħ a (O1 a.K) ŋ:=by
 intro g u x y H e m k o;unfold ŋ at o;split at o
 · rename_i b h;have q:=o _ H (.refl H) rfl;cases u<;>try(cases g<;>cases h;done)
   · rename_i z;cases g<;>try(cases h;done)
     rename_i t;cases h;exact .inl ⟨t,z,m,k,q⟩
   · rename_i i;have f:Ť g i=Z b:=by cases g<;>exact h
     obtain⟨d,j,rfl,p,n⟩:=k.tupE;obtain⟨f1,Q,r⟩:=ug m n f;exact .inr ⟨d,j,rfl,.inr (ü.of p),f1,Q,by rw[if_neg B_,r];exact q⟩
   · rename_i i;have f:Ť g i=Z b:=by cases g<;>exact h
     obtain⟨d,j,rfl,p,n⟩:=k.lstE;obtain⟨f1,Q,r⟩:=ug m n f;exact .inr ⟨d,j,rfl,.inl (ô.of p),f1,Q,by rw[if_neg B_,r];exact q⟩
 ·exact o.elim
theorem xj:Ħ a (rT a.K) pW:=by
 intro g u x y H e m k o;unfold pW at o;split at o
 · rename_i b h;have q:=o _ H (.refl H) rfl;cases u<;>try(cases g<;>cases h;done)
   · rename_i z;cases g<;>try(cases h;done)
     rename_i t;cases h;exact .inl ⟨t,z,m,k,q⟩
   · rename_i i;have f:Ť g i=Z b:=by cases g<;>exact h
     obtain⟨d,j,rfl,p,n⟩:=k.tupE;obtain⟨f1,Q,r⟩:=ug m n f;exact .inr ⟨d,j,rfl,.inr (ü.of p),f1,Q,by rw[if_pos rfl,r];exact q⟩
   · rename_i i;have f:Ť g i=Z b:=by cases g<;>exact h
     obtain⟨d,j,rfl,p,n⟩:=k.lstE;obtain⟨f1,Q,r⟩:=ug m n f;exact .inr ⟨d,j,rfl,.inl (ô.of p),f1,Q,by rw[if_pos rfl,r];exact q⟩
 ·exact o.elim
def ö(a:List υ)(i:Int):Option υ:=if 0<=i then a[i.toNat]? else if-(a.length:Int)<=i then a[(i+a.length).toNat]? else Y
theorem ot{a:List υ}{v:υ}(h:ö a k=Z v):KE a k=Z v:=by
 unfold ö at h;unfold KE Ź;split at h
 · rename_i b;have e:k.toNat<a.length:=by obtain⟨q,_⟩:=D_.mp h;exact q
   rw[if_pos b,if_pos (by omega)];exact h
 · rename_i b;split at h;·rename_i d;rw[if_neg b,if_pos d];exact h
   ·cases h
noncomputable def Î:N->N->Option (Rs N)|.lst a,.int i=>(match ö a i with|some d=>Z (.ok d)|none=>Y)|.tup a,.int i=>(match ö a i with|some d=>Z (.ok d)|none=>Y)|.str z,.int i=>if z.length<=100000 then(match ö z.cps.toList i with|some c=>Z (.ok (.str ⟨#[c]⟩))|none=>Y)else Y|.scr b,.int i=>(match ö b i with|some d=>Z (.ok (.int d))|none=>Y)|_,_=>Y
theorem rV{f:Type}{b:List υ}{a:List f}(h:a.length=b.length){i:Int}{x:υ}(e:ö b i=Z x):∃j:Nat,b[j]?=Z x/\∀y,a[j]?=Z y->ö a i=Z y:=by
 unfold ö at e;split at e;·rename_i d;exact⟨_,e,λy q=>by unfold ö;rw[if_pos d];exact q⟩
 · rename_i d;split at e;·rename_i g;exact⟨_,e,λy q=>by unfold ö;rw[if_neg d,h,if_pos g];exact q⟩
   ·cases e
theorem PY:Ħ a (rIx a.K) Î:=by
 intro E A x y H Q n m o;cases E<;>cases A<;>try exact(show False from o).elim
 · rename_i z i;simp only[Î]at o;split at o
   · rename_i u;split at o;·rename_i c w;exact .inr (.inr ⟨z,i,c,n,m,cT u,ot w,o _ H (.refl H) rfl⟩)
     ·exact o.elim
   ·exact o.elim
 · rename_i I i;simp only[Î]at o;split at o;·rename_i d e;obtain⟨b,p,rfl,g,f⟩:=n.tupE;obtain⟨j,k,h⟩:=rV f.length e;obtain⟨v,r,q⟩:=f.get' k;exact .inr (.inl ⟨b,p,i,v,rfl,m,ü.of g,ot (h v r),o v H (.refl H) q⟩)
   ·exact o.elim
 · rename_i I i;simp only[Î]at o;split at o;·rename_i d e;obtain⟨b,p,rfl,g,f⟩:=n.lstE;obtain⟨j,k,h⟩:=rV f.length e;obtain⟨v,r,q⟩:=f.get' k;exact .inl ⟨b,p,i,v,rfl,m,ô.of g,ot (h v r),o v H (.refl H) q⟩
   ·exact o.elim
 · rename_i t i;simp only[Î]at o;split at o;·rename_i d e;obtain⟨b,rfl,g⟩:=n.scrE;obtain⟨j,k,h⟩:=rV (a:=t.map V.int) (by simp) e;exact .inl ⟨b,_,i,.int d,rfl,m,g,ot (h _ (by rw[Rg,k]<;>rfl)),o _ H (.refl H) rfl⟩
   ·exact o.elim
theorem Nm(f:FE a g y)(e:FE a P È)(d:wN P:=by intro _ _;lk):FE a (.Subscript g P o) (Q Î y È):=dg (M6 Iv f.h e.h d) λ_ _ _ _ E b=>two PY E b
abbrev ž:=Ev->Option (Rs (Option Int))
def ŝ(X:C)(H:Hp)(o:Option (Rs (Option Int)))(Q:Option Int->Hp->Prop):Prop:=match o with|none=>False|some (.exc c)=>XW X c H|some (.ok d)=>∀a,Í H a->Q d a
theorem ŝ.mono{Q:Option Int->Hp->Prop}(e:Í h Ζ):∀{o:Option (Rs (Option Int))},ŝ a h o Q->ŝ a Ζ o Q|none,b=>b|some (.exc _),b=>XW.mono b e|some (.ok _),b=>λf d=>b f (e.trans d)
structure FO(X:C)(e:Option u_)(f:ž):Prop where h:PO X e λσ H Q=>∃ρ,Ú X.K H σ ρ/\ŝ X H (f ρ) Q
noncomputable def fA:ž:=λ_=>Z (.ok Y)
noncomputable def toI:N->Option (Rs (Option Int))|.int i=>Z (.ok (Z i))|_=>Y
def dk(f:Ò):ž:=λa=>Ù (f a) toI
theorem Eu:FO a Y fA:=⟨λd s b H Q I⟨_,_,o⟩=>Ef d s b H Q I (o H (.refl H))⟩
theorem Ew(h:FE a g y):FO a (Z g) (dk y):=⟨λf s e H Q I⟨b,E,o⟩=>Eg h.h f s e H Q I ⟨b,E,by unfold dk at o;match k:y b,o with
 |none,o=>exact o|some (.exc c),o=>exact o|some (.ok d),o=>
 intro v j g r;cases d<;>try exact(show False from o).elim
 rename_i i;exact⟨i,r,o j g⟩⟩⟩
def AH(a:List υ)(b d:Option Int):List υ:=(a.drop (HT.sIx a.length 0 b)).take (HT.sIx a.length a.length d-HT.sIx a.length 0 b)
def PZ:V->Option Int->Option Int->Hp->VK->Prop:=λx lo a H Q=>∃z,x=.str z/\z.length<=sizeLine/\Q (.str (Yu z lo a)) H
theorem Ŗ:Ŧ a PZ:=by intro r s n H x v y w lo m A Q I o f p h q;obtain⟨z,rfl,e,q⟩:=q;obtain⟨t,rfl⟩:=o;refine⟨"str",_,F.slot_str_getitem.lookup,Vd _ _ _,?_⟩;have d:∀(b:Tok)(k:Nat),EP a r n Q (.str (Yu z lo m) b) {s with toks:=k}:=λb k=>⟨.str (Yu z lo m),H,I.tok _,⟨_,rfl⟩,q⟩;cases p with
 |none=>cases h with|none=>exact Tq (l:=Y) (u:=Y) (st:=Y) f rfl (Vw ⟨QV (WL z _ _) e,λb k=>d b k⟩)|int j u=>exact Tq (l:=Y) (u:=Z (j,u)) (st:=Y) f rfl (Vw ⟨QV (WL z _ _) e,λb k=>d b k⟩)
 |int i g=>cases h with|none=>exact Tq (l:=Z (i,g)) (u:=Y) (st:=Y) f rfl (Vw ⟨QV (WL z _ _) e,λb k=>d b k⟩)|int j u=>exact Tq (l:=Z (i,g)) (u:=Z (j,u)) (st:=Y) f rfl (Vw ⟨QV (WL z _ _) e,λb k=>d b k⟩)
def Mj(x:N)(a b:Option Int):Option (Rs N):=match x with|.str z=>if z.length<=100000 then Z (.ok (.str (Yu z a b)))else Y|.lst d=>Z (.ok (.lst (AH d a b)))|_=>Y
def v8(f:Ò)(d e:ž):Ò:=λa=>Ù (f a) λx=>Ù (d a) λlo=>Ù (e a) λb=>Mj x lo b
theorem jX{o:Option (Rs (Option Int))}{k:Option Int->Option (Rs N)}{P:Option Int->Hp->Prop}(f:ê a h (Ù o k) Ê)(i:∀b g,Í h g->ê a g (k b) Ê->P b g):ŝ a h o P:=by match o,f with|some (.exc _),f=>exact f|some (.ok d),f=>exactλj e=>i d j e (ê.mono e f)
theorem Jb{i k:Option u_}{n q:ž}(ha:FE a g y)(hl:FO a i n)(hh:FO a k q):FE a (.Subscript g (.Slice i k Y o) w) (v8 y n q):=dg (ub (Ŗ.or wO) ha.h hl.h hh.h) λσ H Q f E b=>⟨f,E,ê.bind b λd v H1 t P o1=>⟨f,E.mono t,jX o1 λl H2 r o2=>⟨f,(E.mono t).mono r,jX o2 λu A e3 e=>by
 have h:=Ó.mono e3 d v (Ó.mono r d v P);cases d<;>try exact(show False from e).elim
 · rename_i z;unfold Mj at e;dsimp only at e;split at e;·rename_i hz;exact .inl ⟨z,h,cT hz,e _ A (.refl A) rfl⟩
   ·exact e.elim
 ·rename_i ds;obtain⟨a',I,rfl,h1,m⟩:=h.lstE;refine .inr ⟨a',I,rfl,ô.of h1,λp j=>e _ _ (aD j _) ⟨p,_,rfl,aw,O.mono (aD j _) _ _ ?_⟩⟩;unfold AA AH;rw[m.length];exact(m.drop _).take _⟩⟩⟩
noncomputable def iC:Ï|[.str z]=>if z.length<=100000 then Z (.ok (.int z.length))else Y|[.lst a]=>Z (.ok (.int a.length))|[.tup a]=>Z (.ok (.int a.length))|[.scr b]=>Z (.ok (.int b.length))|_=>Y
def ß(g:Ï)(b:Û):Ò:=λa=>Ù (b a) g
theorem dq(r:O u h [j] μ):∃v,μ=[v]/\Ó u h j v:=by obtain⟨v,a,rfl,d,b⟩:∃v a,μ=v::a/\Ó u h j v/\O u h [] a:=r;cases(show a=[]from b);exact⟨v,rfl,d⟩
theorem AI(r:O u h [j,δ] μ):∃v a,μ=[v,a]/\Ó u h j v/\Ó u h δ a:=by obtain⟨v,b,rfl,f,e⟩:∃v b,μ=v::b/\Ó u h j v/\O u h [δ] b:=r;obtain⟨a,rfl,d⟩:=dq e;exact⟨v,a,rfl,f,d⟩
theorem Jc(y:Gl a "len")(u:a.mg "len"=Y)(I:FA a (g::t) ε)(A:k_ (g::t) a.env=(L,eval g a.env)::k_ t a.env:=by lk)(m:(O_ w (k_ t a.env)).any (·.1)=L:=by lk):FE a (.Call (.Name "len" o) (g::t) [] w) (ß iC ε):=dg (gY Au y u Y5 I.h (by decide) (by decide) A m) λP H Q n E d=>⟨n,E,ä.bind d λds vs f e1 i e=>by
 unfold iC at e;split at e
 · rename_i z;split at e;·rename_i q;obtain⟨v,rfl,r⟩:=dq i;cases(show v=.str z from r);exact⟨_,_,rfl,⟨cT q,rfl⟩,e _ f (.refl f) rfl⟩
   ·exact e.elim
 ·rename_i p;obtain⟨v,rfl,r⟩:=dq i;obtain⟨b,j,rfl,h,k⟩:=r.lstE;exact⟨_,_,rfl,.inl ⟨j,ô.of h,rfl⟩,e _ f (.refl f) (by rw[k.length];rfl)⟩
 ·rename_i p;obtain⟨v,rfl,r⟩:=dq i;obtain⟨b,j,rfl,h,k⟩:=r.tupE;exact⟨_,_,rfl,.inr ⟨j,ü.of h,rfl⟩,e _ f (.refl f) (by rw[k.length];rfl)⟩
 ·rename_i ns;obtain⟨v,rfl,r⟩:=dq i;obtain⟨b,rfl,h⟩:=r.scrE;exact⟨_,_,rfl,.inl ⟨_,h,rfl⟩,e _ f (.refl f) (by rw[QL];rfl)⟩
 ·exact e.elim⟩
noncomputable def jr:List N->Option (List Bool)|[]=>Z []|.bl b::r=>(match jr r with|some bs=>Z (b::bs)|none=>Y)|_=>Y
def mK:Ï|[.lst a]=>(match jr a with|some bs=>Z (.ok (.bl (bs.all id)))|none=>Y)|_=>Y
theorem ou{K:d_}{H:Hp}:∀{f:List N}{e:List V}{a:List D}{bs:List Bool},O K H f e->Ð e a->jr f=Z bs->a=bs.map QQ
 |[],e,a,bs,r,q,h=>by cases(show e=[]from r);cases q;cases h;rfl|d::f,e,a,bs,r,q,h=>by obtain⟨v,o,rfl,j,i⟩:∃v a,e=v::a/\Ó K H d v/\O K H f a:=r;cases q with|cons m k=>
 cases d<;>try(cases h;done)
 rename_i b;simp only[jr]at h;cases g:jr f with|none=>rw[g]at h;cases h|some n=>rw[g]at h;cases h;cases(show v=.bl b from j);cases m;rw[ou i k g];rfl
theorem AJ:ó a (.builtin "all") (λy H Q=>∃d o bs t,y=[.ref d]/\H d=Z (.lst o)/\O a.K H t o/\jr t=Z bs/\a.calm=U/\Q (.bl (bs.all id)) H):=by
 intro j' s σ H y us Q I r h;obtain⟨d,o,bs,t,rfl,h1,h2,h3,hc,q⟩:=h;obtain⟨u,rfl,ru⟩:=eQ r;cases ru;obtain⟨z,a',n,P,hl,e⟩:=I.lstM h1;have k:=ou h2 P h3;subst k;have A:s.heap.IsList d (bs.map QQ).toArray:=⟨_,e,rfl,_,rfl⟩;have w:d<s.heap.objs.size:=v_ e;refine call_all_walk (SD A ?_);refine⟨s.heap.objs.size,[s.heap.objs.size,d],[s.heap.objs.size],(bs.map QQ).toArray.size,_,_,λi=>(bs[i]?).getD U,rfl,X4 (A:=a.A.in1) (I.ok.hd hc) _ d (F_ w) (bs.map QQ).toArray,⟨⟨_,pi _ rfl,rfl,rfl⟩,A.push _⟩,λi v E Q' E' hP hQ=>?_,λh' tk hk=>?_⟩
 · have f:(bs.map QQ)[i]?=Z v:=by simpa using hP
   rw[Rg]at f;cases j:bs[i]? with|none=>rw[j]at f;cases f|some b=>rw[j]at f;cases f;have m:Q' ((bs[i]?).getD U) E:=hQ;rw[j]at m;exact SA m
 · have e2:((rl (bs.map QQ).toArray.size).all λi=>(bs[i]?).getD U)=bs.all id:=by
    rw[E_,QL];rw[RH];simp only[Q2,Rt,id];constructor;·intro p b j;obtain⟨i,g,rfl⟩:=Xw.mp j;simpa[g]using p i g
    ·intro p i g;simp only[C_ g,YC];exact p _ (Vf g)
   rw[e2];refine⟨.bl _,H,I.kept λb x k=>hk b x (λhm=>?_) (j_ _ k),rfl,q⟩;rw[QK.mp hm]at k;exact RQ _ (v_ k)
theorem Je(u:a.calm=U)(p:Gl a "all")(n:a.mg "all"=Y)(z:FA a (g::t) ε)(q:k_ (g::t) a.env=(L,eval g a.env)::k_ t a.env:=by lk)(f:(O_ w (k_ t a.env)).any (·.1)=L:=by lk):FE a (.Call (.Name "all" o) (g::t) [] w) (ß mK ε):=dg (gY AJ p n PyProof.Rows.boot_all z.h (by decide) (by decide) q f) λP H Q i E b=>⟨i,E,ä.bind b λds vs h e1 m e=>by
 unfold mK at e;split at e
 · rename_i j;split at e;·rename_i bs y;obtain⟨v,rfl,r⟩:=dq m;obtain⟨d,k,rfl,I,A⟩:=r.lstE;exact⟨d,k,bs,j,rfl,I,A,y,u,e _ h (.refl h) rfl⟩
   ·exact e.elim
 ·exact e.elim⟩
noncomputable def S':N->String|.non=>"NoneType"|.bl _=>"bool"|.int _=>"int"|.str _=>"str"|.tup _=>"tuple"|.lst _=>"list"|.scr _=>"list"|.exn _=>"object"|.obj _ _=>"object"
theorem Ex(r:Ó u h j Κ)(m:∀f,j≠.scr f)(i:∀c,j≠.exn c)(n:∀k e,j≠.obj k e):tZ u h Κ (.type (S' j)):=by cases j with|non=>cases(show Κ=.non from r);exact .non|bl b=>cases(show Κ=.bl b from r);exact .bl b|int b=>cases(show Κ=.int b from r);exact .int b|str b=>cases(show Κ=.str b from r);exact .str b|tup e=>obtain⟨a,g,rfl,d,_⟩:=r.tupE;exact .tup d|lst e=>obtain⟨a,g,rfl,d,_⟩:=r.lstE;exact .lst d|scr f=>exact absurd rfl (m f)|exn c=>exact absurd rfl (i c)|obj k e=>exact absurd rfl (n k e)
theorem AK(T:String):ó a (.builtin "isinstance") (λe H Q=>∃x t b,e=[x,.ty T]/\tZ a.K H x t/\Tt a.K t (.type T)=Z b/\Q (.bl b) H):=by intro o s m H e n Q I r h;obtain⟨x,t,b,rfl,g,k,q⟩:=h;obtain⟨u,f,rfl,j,d⟩:=D8 r;cases(show f=r_ T from d);exact wH I j g k λi=>⟨.bl b,H,I.tok i,rfl,q⟩
noncomputable def jt(a:N->Bool):N->Option (Rs N)|.scr _=>Y|.exn _=>Y|.obj _ _=>Y|d=>Z (.ok (.bl (a d)))
variable{ω:Pos}
theorem uh{T:String}{q:N->Bool}(hk:∀K d,Tt K (.type (S' d)) (.type T)=Z (q d))(hT:R_ (b_ T)=Z (.type T))(P:b_ T≠"__name__")(p:(b_ T==("__debug__":Str))=L)(hg:Gl a "isinstance")(hm:a.mg "isinstance"=Y)(n:Gl a (b_ T))(m:a.mg (b_ T)=Y)(ha:FE a g y)(f:k_ [g,.Name (b_ T) ω] a.env=(L,eval g a.env)::k_ [.Name (b_ T) ω] a.env:=by lk)(i:k_ [.Name (b_ T) ω] a.env=(L,eval (.Name (b_ T) ω) a.env)::k_ [] a.env:=by lk)(j:(O_ w (k_ [.Name (b_ T) ω] a.env)).any (·.1)=L:=by lk):FE a (.Call (.Name "isinstance" o) [g,.Name (b_ T) ω] [] w) (f1 (jt q) y):=dg (gY (AK T) hg hm PyProof.Rows.boot_isinstance (oh ha.h (oh (DY (Κ:=.ty T) n m hT rfl P p) wI i) f) (by decide) (by decide) f j) λσ H Q A E e=>⟨A,E,ê.bind e λd v u e1 r h=>by show∃x t b,[v,V.ty T]=[x,.ty T]/\_;cases d with|scr I=>exact h.elim|exn c=>exact h.elim|obj k ds=>exact h.elim|_=>exact⟨v,_,_,rfl,Ex r (λI z=>by cases z) (λc z=>by cases z) (λk ds z=>by cases z),hk a.K _,h _ u (.refl u) rfl⟩⟩
noncomputable def pX:N->Bool|.str _=>U|_=>L
theorem Ey(K:d_)(d:N):Tt K (.type (S' d)) (.type "str")=Z (pX d):=by cases d<;>lk
noncomputable def rW:N->Bool|.tup _=>U|_=>L
theorem Ez(K:d_)(d:N):Tt K (.type (S' d)) (.type "tuple")=Z (rW d):=by cases d<;>lk
noncomputable def ez:N->Bool|.bl _=>U|_=>L
theorem AM(K:d_)(d:N):Tt K (.type (S' d)) (.type "bool")=Z (ez d):=by cases d<;>lk
def fM(g:Str->Ï)(e:Ò)(d:Û):Ò:=λa=>Ù (e a) λx=>match x with|.str i=>Ù (d a) λb=>g i b|_=>Y
noncomputable def pY(h:Str->Str->Bool):Str->Ï|x,[.str y]=>Z (.ok (.bl (h x y)))|_,_=>Y
noncomputable def Ml(h:Str->Str->Int):Str->Ï|x,[.str y]=>Z (.ok (.int (h x y)))|_,_=>Y
def EA(h:Str->Str->Bool):V->List V->Hp->VK->Prop:=λx a H Q=>∃i j,x=.str i/\a=[.str j]/\Q (.bl (h i j)) H
def Jf(h:Str->Str->Int):V->List V->Hp->VK->Prop:=λx a H Q=>∃i j,x=.str i/\a=[.str j]/\Q (.int (h i j)) H
theorem Nn:Ķ a "str.startswith" (EA Q6):=by intro n s f H x g v k Q I b e h;obtain⟨i,j,rfl,rfl,q⟩:=h;obtain⟨t,rfl⟩:=b;obtain⟨u,rfl,d⟩:=eQ e;obtain⟨m,rfl⟩:=d;exact SC.startswith ⟨.bl _,H,I,rfl,q⟩
theorem No:Ķ a "str.endswith" (EA VI):=by intro n s f H x g v k Q I b e h;obtain⟨i,j,rfl,rfl,q⟩:=h;obtain⟨t,rfl⟩:=b;obtain⟨u,rfl,d⟩:=eQ e;obtain⟨m,rfl⟩:=d;exact SC.endswith ⟨.bl _,H,I,rfl,q⟩
theorem AN:Ķ a "str.rfind" (Jf Zl):=by intro n s f H x g v k Q I b e h;obtain⟨i,j,rfl,rfl,q⟩:=h;obtain⟨t,rfl⟩:=b;obtain⟨u,rfl,d⟩:=eQ e;obtain⟨m,rfl⟩:=d;exact SC.rfind ⟨.int _,H,I.tok _,⟨_,rfl⟩,q⟩
theorem EB{q:String}{r:V->List V->Hp->VK->Prop}{e:Str->Ï}(k:Slot "str" b q)(u:typeOf (.builtin q)=pure (.type "method_descriptor"))(hm:Ķ a q r)(hg:∀i p n H Q,O a.K H p n->ê a H (e i p) Q->r (.str i) n H Q)(ho:FE a P y)(ha:FA a (g::t) ε)(j:Rx P b a.env (eval P a.env)=eval P a.env:=by lk)(m:((O_ w (k_ (g::t) a.env)).all (λx=>!x.1)&&(RM w (Rc [] a.env)).all (λx=>x.1.isSome)&&A_ ((g::t).length+([]:List SI).length+(if([]:List SI).isEmpty then 0 else 1)<30))=U:=by lk)(h:(o.endLine==w.line)=U:=by lk)(hs:k_ (g::t) a.env=(L,eval g a.env)::k_ t a.env:=by lk)(f:(O_ w (k_ t a.env)).any (·.1)=L:=by lk):FE a (.Call (.Attribute P b o) (g::t) [] w) (fM e y ε):=dg (wQ PySem.F.plainAttrs_str k u hm ho.h ha.h j m h hs f) λσ H Q z E P=>⟨z,E,ê.bind P λd v H1 e1 rd A=>by
 cases d<;>try exact(show False from A).elim
 rename_i i;cases(show v=.str i from rd);exact⟨rfl,z,E.mono e1,ä.bind A λp n H2 e2 I o2=>hg i p n H2 Q I o2⟩⟩
theorem Di{h:Str->Str->Bool}(i:Str)(e:List N)(d:List V)(H:Hp)(Q:VK)(f:O a.K H e d)(o:ê a H (pY h i e) Q):EA h (.str i) d H Q:=by
 unfold pY at o;split at o;·rename_i j;obtain⟨w,rfl,b⟩:=dq f;cases(show w=.str j from b);exact⟨i,j,rfl,rfl,o _ H (.refl H) rfl⟩
 ·exact o.elim
theorem Jg{h:Str->Str->Int}(i:Str)(e:List N)(d:List V)(H:Hp)(Q:VK)(f:O a.K H e d)(o:ê a H (Ml h i e) Q):Jf h (.str i) d H Q:=by
 unfold Ml at o;split at o;·rename_i j;obtain⟨w,rfl,b⟩:=dq f;cases(show w=.str j from b);exact⟨i,j,rfl,rfl,o _ H (.refl H) rfl⟩
 ·exact o.elim
noncomputable def O4(K:d_):R2:=λx y H Q=>∃(a b:B)(d:List Int),x=.ref a/\y=.ref b/\ô K H a (d.map V.int)/\H b=Z (.lst [])/\Q (.bl d.isEmpty) H
theorem Np(j:a.A.units<cLine):û a (Rk .Eq) (O4 a.K):=by intro j' s σ H x y v u Q I t p h;obtain⟨d,b,g,rfl,rfl,P,E,q⟩:=h;cases t;cases p;obtain⟨e,r,f,hz⟩:=I.list P;obtain⟨z2,o,n2,w,a',e2⟩:=I.lstM E;cases w;have m:s.heap.IsList b #[]:=⟨_,e2,rfl,_,rfl⟩;have k:=r.length;cases g with
 |nil=>
 have e0:e=[]:=by cases e with|nil=>rfl|cons _ _=>simp at k
 subst e0;exact SeqAt.eq_listAt (e:=λ_=>U) f.isList m rfl j (λi A=>absurd A (by simp)) (by first|exact⟨.bl _,H,I,rfl,q⟩|(refine⟨.bl _,H,I,?_,q⟩;simp[Ü]))|cons n g=>
 refine SeqAt.eq_list_lengthsAt f.isList m ?_ j ⟨.bl _,H,I,rfl,q⟩;have:0<e.length:=by rw[<-k];simp
 simp;exactλz=>by rw[z]at this;simp at this
noncomputable def Mm:N->N->Option (Rs N)|.scr a,.lst []=>Z (.ok (.bl a.isEmpty))|_,_=>Y
theorem Nq:Ħ a (O4 a.K) Mm:=by
 intro n m x y H Q g f o;unfold Mm at o;split at o;·rename_i h;obtain⟨d,rfl,k⟩:=g.scrE;obtain⟨b,e,rfl,j,i⟩:=f.lstE;cases(show e=[]from i);exact⟨d,b,h,rfl,rfl,k,j,o _ H (.refl H) rfl⟩
 ·exact o.elim
theorem Jh:R_ (b_ "str")=Z (.type "str"):=PyProof.Rows.boot_str
theorem AO:R_ (b_ "tuple")=Z (.type "tuple"):=by decide+kernel
theorem EC:R_ (b_ "bool")=Z (.type "bool"):=by decide+kernel
mutual
def ei:N->PyData|.non=>.none|.bl b=>.bool b|.int i=>.int i|.str x=>.str x|.tup a=>.tuple (ç a)|.lst a=>.list (ç a)|.scr e=>.list (e.map PyData.int)|.exn _=>.dict []|.obj _ _=>.dict []def ç:List N->List PyData|[]=>[]|d::f=>ei d::ç f
end
theorem ng{s:g_}:∀{b:List Int}{a:List D},Ð (b.map V.int) a->∃as,ReadsAll s.heap a (b.map PyData.int) as|[],a,r=>by cases r;exact⟨_,.nil⟩|n::b,a,r=>by cases r with|cons e d=>obtain⟨t,rfl⟩:=e;obtain⟨as,q⟩:=ng d;exact⟨_,.cons (.int n t) q⟩
mutual
theorem Ó.reads{X:C}{j':List (B×Obj)}{A:L2.St}{H:Hp}{s:g_}(I:Ì X j' A H s):∀(d:N)(v:V)(u:D),Ó X.K H d v->Ü v u->(ei d).canLay0=U->∃as,Reads s.heap u (ei d) as|.non,v,u,r,q,f=>by cases(show v=.non from r);cases(show u=H_ from q);exact⟨_,.none⟩|.bl b,v,u,r,q,f=>by cases(show v=.bl b from r);cases(show u=QQ b from q);exact⟨_,.bool b⟩|.int i,v,u,r,q,f=>by cases(show v=.int i from r);obtain⟨t,rfl⟩:=(show∃t,u=XH i t from q);exact⟨_,.int i t⟩|.str x,v,u,r,q,f=>by cases(show v=.str x from r);obtain⟨t,rfl⟩:=(show∃t,u=RK x t from q);exact⟨_,.str x t⟩|.tup g,v,u,r,q,f=>by obtain⟨a,E,rfl,h,P⟩:=r.tupE;cases(show u=y_ a from q);obtain⟨j,p,⟨o,e,c,n,d⟩,hz⟩:=I.tuple (ü.of h);obtain⟨as,w⟩:=O.reads I g E j P p (by simpa[ei,QI]using f);exact⟨as,.tuple e c d (by simpa using w)⟩|.lst g,v,u,r,q,f=>by obtain⟨a,E,rfl,h,P⟩:=r.lstE;cases(show u=y_ a from q);obtain⟨z,j,n,p,hl,e⟩:=I.lstM h;obtain⟨as,w⟩:=O.reads I g E j P p (by simpa[ei,QI]using f);exact⟨a::as,.list e rfl rfl (by simpa using w)⟩|.scr ns,v,u,r,q,f=>by obtain⟨a,rfl,h⟩:=r.scrE;cases(show u=y_ a from q);obtain⟨j,p,⟨o,n,e,c,hd,d⟩,hz⟩:=I.list h;obtain⟨as,w⟩:=ng (s:=s) p;exact⟨a::as,.list e c d (by simpa using w)⟩|.exn c,v,u,r,q,f=>by simp[ei,QI]at f|.obj c g,v,u,r,q,f=>by simp[ei,QI]at f
theorem O.reads{X:C}{j':List (B×Obj)}{A:L2.St}{H:Hp}{s:g_}(I:Ì X j' A H s):∀(g:List N)(m:List V)(k:List D),O X.K H g m->Ð m k->Sk (ç g)=U->∃as,ReadsAll s.heap k (ç g) as|[],m,k,r,q,_=>by cases(show m=[]from r);cases q;exact⟨_,.nil⟩|d::g,m,k,r,q,f=>by obtain⟨v,ws,rfl,r1,r2⟩:∃v k,m=v::k/\Ó X.K H d v/\O X.K H g k:=r;cases q with|cons q1 q2=>
 have y:(ei d).canLay0=U/\Sk (ç g)=U:=by simpa[ç,Sk]using f
 obtain⟨as,a⟩:=Ó.reads I d v _ r1 q1 y.1;obtain⟨bs,b⟩:=O.reads I g ws _ r2 q2 y.2;exact⟨_,.cons a b⟩end
noncomputable def okP(d:N):Bool:=SeqAt.shaped (ei d)
def ZQ(X:C)(d:Bool):R2:=λx y H Q=>∃b a,Ó X.K H b x/\Ó X.K H a y/\okP b=U/\okP a=U/\Q (.bl (if d then !Rn (ei b) (ei a)else Rn (ei b) (ei a))) H
theorem Ji(m:a.A.units+64<cLine):û a (Rk .Eq) (ZQ a L):=by intro r s p H x y v u Q I f e h;obtain⟨o,n,k,j,d,b,q⟩:=h;obtain⟨as,i⟩:=Ó.reads I o x v k f (Sg.mp d).1;obtain⟨bs,g⟩:=Ó.reads I n y u j e (Sg.mp b).1;exact SeqAt.compareEq_shaped i g d b m ⟨.bl _,H,I,rfl,q⟩
theorem Jj(m:a.A.units+64<cLine):û a (Rk .NotEq) (ZQ a U):=by intro r s p H x y v u Q I f e h;obtain⟨o,n,k,j,d,b,q⟩:=h;obtain⟨as,i⟩:=Ó.reads I o x v k f (Sg.mp d).1;obtain⟨bs,g⟩:=Ó.reads I n y u j e (Sg.mp b).1;exact SeqAt.compareNe_shaped i g d b m ⟨.bl _,H,I,rfl,q⟩
def Þ(x y:N):Option (Rs N):=match ĩ x y with|some b=>Z (.ok (.bl b))|none=>if okP x&&okP y then Z (.ok (.bl (Rn (ei x) (ei y))))else Y
def Ě(x y:N):Option (Rs N):=match ĩ x y with|some b=>Z (.ok (.bl (!b)))|none=>if okP x&&okP y then Z (.ok (.bl (!Rn (ei x) (ei y))))else Y
def O5(X:C):R2:=λx y H Q=>rEq x y H Q\/ZQ X L x y H Q
def O6(X:C):R2:=λx y H Q=>rNe x y H Q\/ZQ X U x y H Q
theorem Jk(b:a.A.units+64<cLine):û a (Rk .Eq) (O5 a):=op_eq.or (Ji b)
theorem Jl(b:a.A.units+64<cLine):û a (Rk .NotEq) (O6 a):=op_ne.or (Jj b)
theorem Jm:Ħ a (O5 a) Þ:=by
 intro k j x y H Q f e o;unfold Þ at o;split at o;·rename_i b g;obtain⟨i,h⟩:=Df f e g;exact .inl ⟨i,by rw[h];exact o _ H (.refl H) rfl⟩
 · split at o;·rename_i d;rw[p_]at d;exact .inr ⟨k,j,f,e,d.1,d.2,o _ H (.refl H) rfl⟩
   ·exact o.elim
theorem Jn:Ħ a (O6 a) Ě:=by
 intro k j x y H Q f e o;unfold Ě at o;split at o;·rename_i b g;obtain⟨i,h⟩:=Df f e g;exact .inl ⟨i,by rw[h];exact o _ H (.refl H) rfl⟩
 · split at o;·rename_i d;rw[p_]at d;exact .inr ⟨k,j,f,e,d.1,d.2,o _ H (.refl H) rfl⟩
   ·exact o.elim
noncomputable def Ţ:N->N->Option (Rs N)|.int i,.int j=>Z (.ok (.bl (A_ (i<j))))|.str x,.str y=>Z (.ok (.bl (A_ (x.cps.toList<y.cps.toList))))|_,_=>Y
def O7:R2:=λx y H Q=>ő (λi j=>.bl (A_ (i<j))) x y H Q\/∃i j,x=.str i/\y=.str j/\Q (.bl (A_ (i.cps.toList<j.cps.toList))) H
theorem Jo:û a (Rk .Lt) O7:=op_lt.or wA
theorem Jp:Ħ a O7 Ţ:=by
 intro f e x y H Q d b o;cases f<;>cases e<;>try exact(show False from o).elim
 ·rename_i i j;exact .inl ⟨i,j,d,b,o _ H (.refl H) rfl⟩
 ·rename_i i j;exact .inr ⟨i,j,d,b,o _ H (.refl H) rfl⟩
theorem pZ:∀(a:List Str)(k:Nat),Ð (a.map V.str) (strsFrom k a)|[],_=>.nil|p::a,k=>.cons ⟨k,rfl⟩ (pZ a (k+1))
theorem p0{K:d_}{H:Hp}:∀a:List Str,O K H (a.map N.str) (a.map V.str)|[]=>rfl|p::a=>⟨.str p,a.map V.str,rfl,rfl,p0 a⟩
noncomputable def gG:Str->Ï|x,[.str y]=>if y.length≠0/\x.length<=100000/\(S6 x y).length<=100000 then Z (.ok (.lst ((S6 x y).map N.str)))else Y|_,_=>Y
def Dj:V->List V->Hp->VK->Prop:=λx a H Q=>∃i j,x=.str i/\a=[.str j]/\j.length≠0/\i.length<=sizeLine/\(S6 i j).length<=sizeLine/\∀p,H p=Y->Q (.ref p) (Ý H p (.lst ((S6 i j).map V.str)))
theorem AQ:Ķ a "str.split" Dj:=by
 intro y s o H x E v P Q I p w h;obtain⟨i,j,rfl,rfl,z,A,g,q⟩:=h;obtain⟨t,rfl⟩:=p;obtain⟨u,rfl,r⟩:=eQ w;obtain⟨f,rfl⟩:=r;have n:(j.length==0)=L:=by simpa using z
 have one:∀{m:g_},m={s with heap:=s.heap.push {cls:=.type "list",data:=.seq [RK i t].toArray}}->S6 i j=[i]->EP a y o Q (.ref s.heap.objs.size) m:=λe k=>by subst e;rw[k]at q;exact⟨.ref _,_,I.lnew (its:=[RK i t]) (ys:=[V.str i]) (t':=s.toks) (.cons ⟨t,rfl⟩ .nil) (by show 1<=sizeLine;decide),rfl,q _ I.fresh⟩
 cases b:(A_ (i.length<j.length)||A_ (SG i<SG j))
 · cases d:(Q_ i j 0 i.length (i.length+1)).isEmpty
   · have k:S6 i j=Builtin.Str.partsBetween i (Q_ i j 0 i.length (i.length+1)) j.length:=by unfold S6;rw[if_neg (by rw[b];exact B_),if_neg (by rw[d];exact B_)]
     rw[k]at q g;refine Ug UO (Vd _ _ _) Wc (VV _ _) (meets_str_split_sep i j t f b n d A g) ?_;exact⟨.ref _,_,I.lnew (t':=_) (pZ _ _) (by rw[QL];exact g),rfl,q _ I.fresh⟩
   ·refine Ug UO (Vd _ _ _) Wc (VV _ _) (meets_str_split_not_found i j t f b n d) ?_;exact one rfl (by unfold S6;rw[if_neg (by rw[b];exact B_),if_pos d])
 ·refine Ug UO (Vd _ _ _) Wc (VV _ _) (meets_str_split_cannot_occur i j t f b) ?_;exact one rfl (by unfold S6;rw[if_pos b])
theorem ED(i:Str)(f:List N)(e:List V)(H:Hp)(Q:VK)(g:O a.K H f e)(o:ê a H (gG i f) Q):Dj (.str i) e H Q:=by
 unfold gG at o;split at o
 · rename_i j;split at o;·rename_i b;obtain⟨w,rfl,d⟩:=dq g;cases(show w=.str j from d);exact⟨i,j,rfl,rfl,b.1,cT b.2.1,cT b.2.2,λp h=>o _ _ (aD h _) ⟨p,_,rfl,aw,p0 _⟩⟩
   ·exact o.elim
 ·exact o.elim
noncomputable def vo:List N->Option (List Str)|[]=>Z []|.str x::r=>(match vo r with|some a=>Z (x::a)|none=>Y)|_=>Y
def mL:Str->Ï|x,[.lst b]=>(match vo b with|some a=>if JoinOk x a=U then Z (.ok (.str (Uh x a)))else Y|none=>Y)|_,_=>Y
def Js(K:d_):V->List V->Hp->VK->Prop:=λx f H Q=>∃i a d e b,x=.str i/\f=[.ref a]/\H a=Z (.lst d)/\O K H e d/\vo e=Z b/\JoinOk i b=U/\Q (.str (Uh i b)) H
theorem nh{K:d_}{H:Hp}:∀{f:List N}{e:List V}{a:List D}{g:List Str},O K H f e->Ð e a->vo f=Z g->∃l:List (Str×Tok),a=strValues l/\l.map (·.1)=g
 |[],e,a,g,r,q,h=>by cases(show e=[]from r);cases q;cases h;exact⟨[],rfl,rfl⟩|d::f,e,a,g,r,q,h=>by obtain⟨v,w,rfl,k,j⟩:∃v a,e=v::a/\Ó K H d v/\O K H f a:=r;cases q with|cons n m=>
 cases d<;>try(cases h;done)
 rename_i b;simp only[vo]at h;cases i:vo f with|none=>rw[i]at h;cases h|some u=>rw[i]at h;cases h;cases(show v=.str b from k);obtain⟨t,rfl⟩:=n;obtain⟨l,p,o⟩:=nh j m i;exact⟨(b,t)::l,by rw[p];rfl,by rw[QU,o]⟩
theorem EE:Ķ a "str.join" (Js a.K):=by intro j' s E H x P v us Q I d j h;obtain⟨i,b,vs,ds,ts,rfl,rfl,r,p,o,m,q⟩:=h;obtain⟨t,rfl⟩:=d;obtain⟨u,rfl,g⟩:=eQ j;cases g;obtain⟨z,A,n,f,hl,e⟩:=I.lstM r;obtain⟨l,y,w⟩:=nh p f o;subst y;exact SC.join ⟨_,e,rfl,_,rfl⟩ w m λt' k=>⟨.str _,H,I.tok _,⟨_,rfl⟩,q⟩
theorem Jt(i:Str)(f:List N)(e:List V)(H:Hp)(Q:VK)(j:O a.K H f e)(o:ê a H (mL i f) Q):Js a.K (.str i) e H Q:=by
 unfold mL at o;split at o
 · rename_i q;split at o
   · rename_i h k;split at o;·rename_i m;obtain⟨w,rfl,d⟩:=dq j;obtain⟨b,g,rfl,p,n⟩:=d.lstE;exact⟨i,b,g,q,h,rfl,rfl,p,n,k,m,o _ H (.refl H) rfl⟩
     ·exact o.elim
   ·exact o.elim
 ·exact o.elim
noncomputable def ow:Str->Ï|x,[.str y]=>if y.length≠0/\x.length<=100000 then Z (.ok (.tup [.str (SR x y).1,.str (SR x y).2.1,.str (SR x y).2.2]))else Y|_,_=>Y
def Ju:V->List V->Hp->VK->Prop:=λx a H Q=>∃i j,x=.str i/\a=[.str j]/\j.length≠0/\i.length<=sizeLine/\∀p,H p=Y->Q (.ref p) (Ý H p (.tup [.str (SR i j).1,.str (SR i j).2.1,.str (SR i j).2.2]))
theorem EG:Ķ a "str.partition" Ju:=by
 intro E s p H x xs v us Q I y A h;obtain⟨i,j,rfl,rfl,hj,hi,q⟩:=h;obtain⟨t,rfl⟩:=y;obtain⟨u,rfl,z⟩:=eQ A;obtain⟨w,rfl⟩:=z;have P:(j.length==0)=L:=by simpa using hj
 have f:∀(d b c:Str)(n m g:Tok)(k:Nat),SR i j=(d,b,c)->EP a E p Q (.ref s.heap.objs.size) {s with toks:=k,heap:=s.heap.push {cls:=.type "tuple",data:=.seq [RK d n,.str b m,.str c g].toArray}}:=λd b c n m g k e=>by rw[e]at q;refine⟨.ref _,_,I.laid (t':=k) (λb u e=>j_ _ e) (s_ _) ?_,rfl,q _ I.fresh⟩;exact⟨by show 3<=sizeLine;decide,[RK d n,.str b m,.str c g],.cons ⟨_,rfl⟩ (.cons ⟨_,rfl⟩ (.cons ⟨_,rfl⟩ .nil)),⟨_,pi _ rfl,rfl,_,rfl⟩⟩
 refine Ug Wv (Vd _ _ _) F.entry_str_partition (F.args_str_partition_2 _ _) (meets_str_partition i j t w P hi) ?_;cases o:Q_ i j 0 i.length 1 with|nil=>exact f _ _ _ _ _ _ _ (by unfold SR;rw[o])|cons k r=>exact f _ _ _ _ _ _ _ (by unfold SR;rw[o])
theorem Jv(i:Str)(f:List N)(d:List V)(H:Hp)(Q:VK)(g:O a.K H f d)(o:ê a H (ow i f) Q):Ju (.str i) d H Q:=by
 unfold ow at o;split at o
 · rename_i j;split at o;·rename_i e;obtain⟨w,rfl,b⟩:=dq g;cases(show w=.str j from b);exact⟨i,j,rfl,rfl,e.1,cT e.2,λp h=>o _ _ (aD h _) ⟨p,_,rfl,aw,⟨_,_,rfl,rfl,_,_,rfl,rfl,_,_,rfl,rfl,rfl⟩⟩⟩
   ·exact o.elim
 ·exact o.elim
noncomputable def fX:Ï|[.lst a]=>Z (.ok (.tup a))|[.tup a]=>Z (.ok (.tup a))|_=>Y
theorem AR(y:Gl a "tuple")(u:a.mg "tuple"=Y)(A:FA a (g::t) ε)(z:k_ (g::t) a.env=(L,eval g a.env)::k_ t a.env:=by lk)(j:(O_ w (k_ t a.env)).any (·.1)=L:=by lk):FE a (.Call (.Name "tuple" o) (g::t) [] w) (ß fX ε):=dg (jS oj y u (by decide+kernel) A.h (by decide) (by decide) z j) λI H Q p E d=>⟨p,E,ä.bind d λds P n e1 k f=>by
 unfold fX at f;split at f;·rename_i q;obtain⟨v,rfl,r⟩:=dq k;obtain⟨b,e,rfl,h,i⟩:=r.lstE;exact⟨b,e,rfl,.inl ⟨ô.of h,λl m=>f _ _ (aD m _) ⟨l,e,rfl,aw,O.mono (aD m _) _ _ i⟩⟩⟩
 ·rename_i q;obtain⟨v,rfl,r⟩:=dq k;obtain⟨b,e,rfl,h,i⟩:=r.tupE;exact⟨b,e,rfl,.inr ⟨ü.of h,f _ n (.refl n) ⟨b,e,rfl,h,i⟩⟩⟩
 ·exact f.elim⟩
def Mn(x:N):List N->Nat->Option Nat|[],_=>Y|y::a,k=>if ű y x then Z k else Mn x a (k+1)
def Nr:List N->Ï|a,[x]=>if iy x&&a.all iy&&A_ (a.length<=100000)then(match Mn x a 0 with|some j=>Z (.ok (.int j))|none=>Y)else Y|_,_=>Y
theorem xl{K:d_}{H:Hp}{x:N}{u:V}(q:Ó K H x u)(o:iy x=U):∀{d:List N}{b:List V}{k j:Nat},O K H d b->d.all iy=U->Mn x d k=Z j->k<=j/\(∃v,b[j-k]?=Z v/\ĳ v u=U)/\∀(m:Nat)v,m<j-k->b[m]?=Z v->ĳ v u=L
 |[],b,k,j,r,_,h=>by cases h|y::t,b,k,j,r,g,h=>by
  obtain⟨v,ws,rfl,E,A⟩:∃v i,b=v::i/\Ó K H y v/\O K H t i:=r;rw[SU,p_]at g;unfold Mn at h;have p:=xi E q g.1 o;split at h;·rename_i f;cases h;refine⟨s_ _,⟨v,by simp,by rw[p];exact f⟩,λm w I=>by omega⟩
  · rename_i f;obtain⟨a,⟨w,b1,P⟩,c⟩:=xl q o A g.2 h;refine⟨by omega,⟨w,?_,P⟩,λm z I n=>?_⟩
    · have e:j-k=(j-(k+1))+1:=by omega
      rw[e,UM];exact b1
    ·cases m with|zero=>
      have:z=v:=by simpa using n.symm
      subst this;rw[p];simpa using f|succ m=>exact c m z (by omega) (by simpa using n)
def Jw:V->List V->Hp->VK->Prop:=λx d H Q=>∃a b y j,x=.ref a/\d=[y]/\H a=Z (.lst b)/\iw y=U/\b.all iw=U/\b.length<=100000/\(∃v,b[j]?=Z v/\ĳ v y=U)/\(∀(m:Nat)v,m<j->b[m]?=Z v->ĳ v y=L)/\Q (.int j) H
theorem Dk(r:Ð μ ξ)(f:μ.all iw=U){m:Nat}{v:V}(h:μ[m]?=Z v):∃a:m<ξ.length,ı Κ ξ[m]=ĳ v Κ:=by obtain⟨u,d,b⟩:=r.get h;obtain⟨a,e⟩:=D_.mp d;refine⟨a,?_⟩;rw[e];exact uc b (Q2.mp f v (Q0 h))
theorem AS:Ķ a "list.index" Jw:=by
 intro j' s σ H x xs v us Q I A P h;obtain⟨b,r,y,j,rfl,rfl,h1,fy,g,hz,⟨w,hw,p⟩,k,q⟩:=h;cases A;obtain⟨u,rfl,E⟩:=eQ P;obtain⟨z,i,n,f,hl,e⟩:=I.lstM h1;obtain⟨hj,ej⟩:=Dk (Κ:=y) f g hw;refine Ug Ww ⟨_,e,rfl⟩ PySem.F.entry_list_index (PySem.F.args_list_index_2 _ _) (SeqAt.list_indexAt b i.toArray n Y #[] u (ı y) j (by simpa using hj) (by omega) (by simpa[ej]using p) λm hm o=>?_) ⟨e,λt ht=>gZ E fy f g t (by simpa using ht),⟨.int j,H,I.tok _,⟨_,rfl⟩,q⟩⟩;have d:m<r.length:=by rw[f.length];simpa using hm
 obtain⟨a',em⟩:=Dk (Κ:=y) f g (C_ d);have:=k m r[m] o (C_ d);simpa[em]using this
def ZD(g:List N->Ï)(e:Ò)(d:Û):Ò:=λa=>Ù (e a) λx=>match x with|.lst i=>Ù (d a) λb=>g i b|_=>Y
theorem AT(ho:FE a P y)(ha:FA a (g::t) ε)(k:Rx P "index" a.env (eval P a.env)=eval P a.env:=by lk)(q:((O_ w (k_ (g::t) a.env)).all (λx=>!x.1)&&(RM w (Rc [] a.env)).all (λx=>x.1.isSome)&&A_ ((g::t).length+([]:List SI).length+(if([]:List SI).isEmpty then 0 else 1)<30))=U:=by lk)(i:(o.endLine==w.line)=U:=by lk)(hs:k_ (g::t) a.env=(L,eval g a.env)::k_ t a.env:=by lk)(f:(O_ w (k_ t a.env)).any (·.1)=L:=by lk):FE a (.Call (.Attribute P "index" o) (g::t) [] w) (ZD Nr y ε):=dg (wQ SE Ww PySem.F.type_list_index AS ho.h ha.h k q i hs f) λσ H Q r E P=>⟨r,E,ê.bind P λd v H1 e1 rd z=>by
 cases d<;>try exact(show False from z).elim
 rename_i ds;obtain⟨e,u,rfl,I,A⟩:=rd.lstE;refine⟨.inl ⟨rfl,u,ô.of I⟩,r,E.mono e1,ä.bind z λt ws H2 e2 rs h=>?_⟩;unfold Nr at h;split at h
 · rename_i x;split at h
   · rename_i m;rw[p_,p_]at m;split at h;·rename_i j hj;obtain⟨b,rfl,n⟩:=dq rs;have p:=O.mono e2 _ _ A;obtain⟨c1,c2,c3⟩:=xl n m.1.1 p m.1.2 hj;refine⟨e,u,b,j,rfl,rfl,e2 _ _ I,oq n m.1.1,lg p m.1.2,by rw[A.length];exact of_decide_eq_true m.2,by simpa using c2,by simpa using c3,h _ H2 (.refl H2) rfl⟩
     ·exact h.elim
   ·exact h.elim
 ·exact h.elim⟩
structure FG(X:C)(tg:u_)(b:N->Ev->Option Ev):Prop where h:∀(j':List (B×Obj))(s:g_)(σ:L2.St)(H:Hp)(v:V)(u:D)(d:N)(ρ ρ':Ev),Ì X j' σ H s->Ü v u->Ó X.K H d v->Ú X.K H σ ρ->b d ρ=Z ρ'->uk (x_ X.prog X.w) X.A (S4 tg X.env u) (λ_ s'=>∃σ' H',Ì X j' σ' H' s'/\Í H H'/\Ú X.K H' σ' ρ') X.xe s
noncomputable def gN(i:Nat):N->Ev->Option Ev:=λd a=>Z (a.set i (Z d))
noncomputable def gP(i j:Nat):N->Ev->Option Ev:=λd b=>match d with|.tup [a,c]=>Z ((b.set i (Z a)).set j (Z c))|_=>Y
theorem EH(i:Nat){x:Str}(n:a.N.Nodup)(k:a.N[i]?=Z x)(j:Ļ a.env.scope x)(m:a.fn x=U\/a.env.scope.names.lookup x=Z .local):FG a (.Name x o) (gN i):=⟨λh s f H v u d y w I r rd E e=>by cases e;exact â (gX n k j m h s f H v u (λb g=>g=H/\b=f.set i (Z v)) I r ⟨rfl,rfl⟩) λ_ z⟨b,g,t,q,p⟩=>by subst q p;exact⟨_,_,t,.refl _,E.set rd⟩⟩
theorem xn(i j:Nat){x y:Str}{k:Nat}(hc:a.calm=U)(t:a.N.Nodup)(hi:a.N[i]?=Z x)(hx:Ļ a.env.scope x)(hf:a.fn x=U\/a.env.scope.names.lookup x=Z .local)(hj:a.N[j]?=Z y)(hy:Ļ a.env.scope y)(hg:a.fn y=U\/a.env.scope.names.lookup y=Z .local)(n:(QY [.Name x w,.Name y ω] a.env).map (·.2)=S4 (.Name x w) a.env::(QY [.Name y ω] a.env).map (·.2):=by lk)(m:(QY [.Name y ω] a.env).map (·.2)=S4 (.Name y ω) a.env::(QY [] a.env).map (·.2):=by lk)(hn:(QY [.Name x w,.Name y ω] a.env).length=2:=by lk)(h:(QY [.Name x w,.Name y ω] a.env).findIdx? (·.1)=Y:=by lk):FG a (.Tuple [.Name x w,.Name y ω] k o) (gP i j):=⟨λj' s p H v u d ρ a' I r rd E e=>by
 unfold gP at e;split at e;·rename_i b c;cases e;obtain⟨ad,xs,rfl,h1,h2⟩:=rd.tupE;obtain⟨q,g,rfl,P,A⟩:=AI h2;refine â (CV (r:=2) hc (oa (gX (d:=i) t hi hx hf) (oa (gX (d:=j) t hj hy hg) wu m) n) hn h j' s p H _ u (λf z=>z=H/\f=(p.set i (Z q)).set j (Z g)) I r ⟨ad,_,rfl,ü.of h1,rfl,q,[g],rfl,g,[],rfl,rfl,rfl,rfl⟩) λ_ s'⟨f,z,I',e1,e2⟩=>?_;subst e1 e2;exact⟨_,_,I',.refl _,(E.set P).set A⟩
 ·cases e⟩
structure ų(K:d_)(J:It)(ds:List N)(H0:Hp):Prop where
 go:∀i H,Í H0 H->i<ds.length->J.go i H
 stop:∀H,Í H0 H->J.stop ds.length H
 yld:∀i H x H',Í H0 H->i<ds.length->J.yld i H x H'->Í H H'/\∃d,ds[i]?=Z d/\Ó K H' d x
theorem Wk.toG{J:It}(w:Wk u J q h):ų u J q h:=⟨w.go,w.stop,λi H x g e a y=>by obtain⟨rfl,d,f,b⟩:=w.yld i H x g e a y;exact⟨.refl _,d,f,b⟩⟩
def Ī(X:C)(H:Hp)(o:Option (Rs (List N)))(R:It->Hp->Prop):Prop:=match o with|none=>False|some (.exc c)=>XW X c H|some (.ok b)=>∀J a,Í H a->ų X.K J b a->R J a
theorem Ī.mono{R:It->Hp->Prop}(e:Í h Ζ):∀{o:Option (Rs (List N))},Ī a h o R->Ī a Ζ o R|none,b=>b|some (.exc _),b=>XW.mono b e|some (.ok _),b=>λv f d r=>b v f (e.trans d) r
structure Ő(X:C)(tg iter:u_)(f:Û):Prop where h:PI X tg iter λσ H R=>∃ρ,Ú X.K H σ ρ/\Ī X H (f ρ) R
theorem FI.toG(h:FI a g P ε):Ő a g P ε:=⟨λf s d H R I⟨b,E,o⟩=>h.h f s d H R I ⟨b,E,by match j:ε b,o with|some (.exc c),o=>exact o|some (.ok k),o=>exactλJ i e w=>o J i e w.toG⟩⟩
noncomputable def gW(m:Nat)(b:List (Str×Nat))(a:Ev):Ev:=L_ m Y++b.map λc=>(a[c.2]?).join
noncomputable def jY(b:N->Ev->Option Ev)(a:Option ã)(e:Ò)(f:Ev):List N->Option (List N)|[]=>Z []|d::h=>match b d f with|none=>Y|some g=>match(match a with|none=>(Z (.ok U):Option (Rs Bool))|some t=>t g)with|some (.ok U)=>(match e g with|some (.ok y)=>(match jY b a e f h with|some i=>Z (y::i)|none=>Y)|_=>Y)|some (.ok L)=>jY b a e f h|_=>Y
noncomputable def p8(m:Nat)(b:List (Str×Nat))(a:L2.St):L2.St:=L_ m Y++b.map λc=>(a[c.2]?).join
theorem p9{v:υ}{l:List (Option υ)}(h:(L_ d (Y:Option υ)++l)[r]?=Z (Z v)):∃k,r=d+k/\l[k]?=Z (Z v):=by
 by_cases a:r<d;·rw[Sr (by simpa using a),UL,if_pos a]at h;cases h
 ·refine⟨r-d,by omega,?_⟩;rw[Sm (by simpa using a)]at h;simpa using h
theorem xo(m:Nat)(f:List (Str×Nat))(E:Ú u h Λ H):Ú u h (p8 m f Λ) (gW m f H):=by refine⟨by simp[p8,gW],λi d a=>?_⟩;obtain⟨k,rfl,b⟩:=p9 a;rw[Rg]at b;cases e:f[k]? with|none=>rw[e]at b;simp at b|some c=>
 rw[e]at b;simp only[TW,UX]at b;have n:H[c.2]?=Z (Z d):=by cases q:H[c.2]? with|none=>rw[q]at b;simp at b|some o=>rw[q]at b;simp at b;rw[b]
 obtain⟨v,j,g⟩:=E.at' c.2 d n;refine⟨v,?_,g⟩;unfold p8;rw[Sm (by simp)];simp only[TZ,WA,Rg,e,TW,j];rfl
theorem qa{R:WN->g_->Prop}{a':u_}{c':D}{b:Env}(I:Nat->g_->Prop)(d':∀n f,I n f->uk (x_ p m) E (TX Ε) (λr w=>match r with|none=>R (.ok .next) w|some v=>uk (x_ p m) E (Vx P Ε v) (λ_ H=>uk (x_ p m) E (S4 P b v) (λ_ A=>uk (x_ p m) E (forIn t U λc r=>if r=U then do let ok<-isTrue c b (eval c b);pure (W7 ok)else pure (W7 r)) (λok u=>if ok=U then uk (x_ p m) E (eval g b) (λx q=>uk (x_ p m) E (call (.builtin "list.append") [c',x]) (λ_ k=>∃a,a<n/\I a k) (WH (x_ p m) E b λe j=>R (.error e) j) q) (WH (x_ p m) E b λe j=>R (.error e) j) u else∃a,a<n/\I a u) (WH (x_ p m) E b λe j=>R (.error e) j) A) (WH (x_ p m) E b λe j=>R (.error e) j) H) (WH (x_ p m) E b λe j=>R (.error e) j) w) (WH (x_ p m) E b λe j=>R (.error e) j) f)(n:Nat)(h:I n f):Ta (x_ p m) E (.compLoop (.ListComp g [⟨P,a',t,0⟩] η o) 0 Ε c' b) R f:=by refine codeAny_loop rfl I (λn f hI=>?_) n h;show uk _ E ((compTurn (.ListComp g [⟨P,a',t,0⟩] η o) 0 Ε c' b).onRaise (λx=>do Ys x b;theTreesLotGoes x)) _ _ f;refine wpAny_noted ?_;rw[compTurn_list];refine e_ (We (e_ (QX (d' n f hI) (λr w b'=>?_) λ_ _ i=>i)));cases r with|none=>exact m_ b'|some v=>refine e_ (QX b' (λ_ H f'=>?_) λ_ _ i=>i);refine e_ (QX f' (λ_ A e'=>e_ (QX e' (λok u d=>?_) λ_ _ i=>i)) λ_ _ i=>i);cases ok with
 |false=>rw[if_neg B_]at d;first|exact e_ (m_ (m_ ⟨rfl,d⟩))|exact m_ ⟨rfl,d⟩|(show uk _ _ (Y8 _) _ _ _;exact m_ ⟨rfl,d⟩)
 |true=>rw[if_pos rfl]at d;first|exact e_ (e_ (QX d (λx q z=>e_ (QX z (λ_ k y=>m_ (m_ ⟨rfl,y⟩)) λ_ _ i=>i)) λ_ _ i=>i))|exact e_ (QX d (λx q z=>e_ (QX z (λ_ k y=>m_ ⟨rfl,y⟩) λ_ _ i=>i)) λ_ _ i=>i)
def cq(m:Nat)(i:List (Str×Nat))(d:Û)(b:N->Ev->Option Ev)(a:Option ã)(e:Ò):Ò:=λf=>Ù (d f) λh=>match jY b a e (gW m i f) h with|some g=>if g.length<=100000/\h.length<=100000 then Z (.ok (.lst g))else Y|none=>Y
theorem Nt{j:List (Str×Nat)}{b:N->Ev->Option Ev}{a:Option ã}{o:Rs N}(h:cq d j ε b a y H=Z o):(∃c,ε H=Z (.exc c)/\o=.exc c)\/∃e f,ε H=Z (.ok e)/\jY b a y (gW d j H) e=Z f/\e.length<=100000/\f.length<=100000/\o=.ok (.lst f):=by unfold cq at h;match i:ε H with|none=>rw[i]at h;cases h|some (.exc c)=>rw[i]at h;cases h;exact .inl ⟨c,rfl,rfl⟩|some (.ok e)=>rw[i]at h;dsimp only[Ù]at h;match g:jY b a y (gW d j H) e with
 |none=>rw[g]at h;cases h|some f=>
 rw[g]at h;dsimp only at h;split at h;·rename_i k;cases h;exact .inr ⟨e,f,rfl,g,k.2,k.1,rfl⟩
 ·cases h
theorem EI(e:List (Str×Nat))(b:Ev)(d:N)(a:Ev)(h:gN 0 d (gW 1 e b)=Z a):fgt [0] a=gW 1 e b:=by cases h;rfl
theorem Nu(e:List (Str×Nat))(b:Ev)(d:N)(a:Ev)(h:gP 0 1 d (gW 2 e b)=Z a):fgt [0,1] a=gW 2 e b:=by
 unfold gP at h;split at h;·cases h;rfl
 ·cases h
def Ite(K:d_)(a:B):It:=⟨λi H=>∃b x,ô K H a b/\b[i]?=Z x,λi H v d=>∃p x,v=.ref p/\H p=Y/\d=Ý H p (.tup [.int i,x])/\∀b,ô K H a b->b[i]?=Z x,λi H=>∃b,ô K H a b/\b.length<=i⟩
theorem xp(a e y:B)(e':e≠y):Aa p m u (.Tuple t d o) (Ite u a) [e,y] e (λi h=>(∃A,IsEnum h e y i A)/\h.IsListIter y a i)where
 mem:=by simp
 obj:=λi h st b P=>by
  obtain⟨⟨A,he⟩,f,e2,c,k⟩:=st;have m':b=e\/b=y:=by simpa using P
  rcases m' with rfl|rfl;·exact⟨_,he,λv z=>by cases z⟩
  ·exact⟨f,e2,λv z=>by rw[k]at z;cases z⟩
 keep:=λi h h' st kk=>by obtain⟨⟨A,he⟩,a'⟩:=st;exact⟨⟨A,kk e (by simp) _ he⟩,a'.at λf ee=>kk y (by simp) f ee⟩
 item:=by
  intro X hP hw hK hc i j' s σ H E I hf st hg;subst hP hw hK;obtain⟨xs,x,hq,hx⟩:=hg;obtain⟨k',rv,j,hz⟩:=I.list hq;obtain⟨g,hu,ru⟩:=rv.get hx;obtain⟨⟨A,he⟩,a'⟩:=st;obtain⟨f0,f1,Q,f3,f4,f5⟩:=hf e (by simp);obtain⟨g0,g1,g2,g3,g4,g5⟩:=hf y (by simp);refine wpAny_pyNext_enum_item he a' j.isList (x:=g) (by simpa using hu) e' λh' eo i' tp sz kk=>?_;refine⟨_,rfl,wpAny_letOwnedTupleGo_enum eo λh2 l' c'=>?_⟩;have hp:H s.heap.objs.size=Y:=I.hok.fresh (s_ _);have f':e<s.heap.objs.size:=v_ he;have k2:∀b f,b∉[e,y]->s.heap.get? b=Z f->h2.get? b=Z f:=λb f P q=>c'.extBut b f (λz=>P (by simp[z])) (kk b f (λz=>P (by simp[z])) (λz=>P (by simp[z])) q);have g':h2.get? s.heap.objs.size=Z {cls:=.type "tuple",data:=.seq #[.int i s.toks,g]}:=c'.extBut _ _ (Td f') tp;have I1:Ì X j' σ (Ý H s.heap.objs.size (.tup [.int i,x])) {s with heap:=h2,toks:=s.toks+1}:=by
   have nt:∀b g,H b=Z g->b∉[e,y]:=λb g q z=>by
    have z':b=e\/b=y:=by simpa using z
    rcases z' with rfl|rfl;·rw[f0]at q;cases q
    ·rw[g0]at q;cases q
   refine I.step (g':=s.gens) (d':=s.drawn) (ch:=[e,y]) (λb P=>?_) (λb f _ _ b' q _=>k2 b f b' q) (λb f _ _ b' q _=>⟨f.slots,k2 b f b' q⟩) (λb f b' q n=>?_) (λb f b' q=>⟨f,k2 b f b' q⟩) (λb ys q=>by rw[ay (au q hp)];exact q) (λb f ys q=>by rw[ay (au q hp)];exact q) (λb ps q=>⟨#[],by rw[ay (au q hp),q];simp⟩) (λw hm=>?_) (λb u2 q=>?_) I.bare
   · have z':b=e\/b=y:=by simpa using P
     rcases z' with rfl|rfl;·exact⟨f3,f1,f4,f5⟩
     ·exact⟨g3,g1,g4,g5⟩
   ·rw[ay (F_ (v_ q))];exact n
   ·obtain⟨f,n',ep,ho,r⟩:=hm;exact⟨f,n',ep,k2 _ f (λz=>by
      have z':X.env.locals=e\/X.env.locals=y:=by simpa using z
      rcases z' with z'|z';·exact f1 z'.symm
      ·exact g1 z'.symm) ho,r⟩
   · by_cases P:b=s.heap.objs.size;·subst P;rw[aw]at q;cases q;exact⟨by show 2<=sizeLine;decide,[.int i s.toks,g],.cons ⟨_,rfl⟩ (.cons ru .nil),⟨_,g',rfl,_,rfl⟩⟩
     · rw[ay P]at q;refine(I.hok b u2 q).stay (λc v d' qq=>k2 c v ?_ qq) (λc qq=>by rw[ay (au qq hp)];exact qq) λc ys qq=>by rw[ay (au qq hp)];exact qq
       rcases d' with rfl|d';·exact nt _ _ q
       ·exact nt _ _ d'
  refine⟨.ref s.heap.objs.size,_,I1,rfl,⟨_,x,rfl,hp,rfl,λzs hy=>by rw[I.list_inj hy hq];exact hx⟩,⟨⟨_,by simpa using l'⟩,?_⟩,λb P=>?_⟩;·exact i'.at λf q=>c'.extBut _ _ (SM e') q
  · have z':b=e\/b=y:=by simpa using P
    rcases z' with rfl|rfl;·rw[ay (F_ f')];exact f0
    ·obtain⟨f,q,_⟩:=id a';rw[ay (F_ (v_ q))];exact g0
 done:=by intro X hP hw hK hc i j' s σ H E I hf st hg;subst hP hw hK;obtain⟨xs,hq,hx⟩:=hg;obtain⟨k',rv,j,hz⟩:=I.list hq;obtain⟨⟨A,he⟩,a'⟩:=st;obtain⟨g0,g1,g2,g3,g4,g5⟩:=hf y (by simp);have hl:=rv.length;exact wpAny_pyNext_enum_end (I.ok.hd hc) he a' j.isList (by simp;omega) λh' eb=>⟨rfl,I.turned (t':=s.toks) (λb f P e=>eb b f P e) g0 g1 g3 g4 g5⟩
 self:=λ_ _ _ _ _ st h=>by obtain⟨⟨A,he⟩,_⟩:=st;exact wpAny_pyIter_enum he h
noncomputable def ky:Nat->List N->List N|_,[]=>[]|k,d::a=>.tup [.int k,d]::ky (k+1) a
theorem iF:∀(a:List N)(k:Nat),(ky k a).length=a.length|[],_=>rfl|d::a,k=>by show(ky (k+1) a).length+1=a.length+1;rw[iF]
theorem qb:∀(a:List N)(k i:Nat)(d:N),a[i]?=Z d->(ky k a)[i]?=Z (.tup [.int ((k+i:Nat):Int),d])
 |[],_,_,_,h=>by simp at h|d::a,k,0,b,h=>by simp at h;subst h;rfl|d::a,k,i+1,b,h=>by
  have q:=qb a (k+1) i b (by simpa using h);show(N.tup [.int k,d]::ky (k+1) a)[i+1]?=_;rw[UM,q];have e:k+1+i=k+(i+1):=by omega
  rw[e]
theorem EJ(b:h e=Z (.lst μ))(r:O u h q μ):ų u (Ite u e) (ky 0 q) h where
 go:=λi k a g=>by
  rw[iF]at g;have m:i<μ.length:=by rw[r.length];exact g
  exact⟨μ,μ[i],ô.of (a _ _ b),by simp[m]⟩
 stop:=λk a=>⟨μ,ô.of (a _ _ b),by rw[r.length,iF];exact s_ _⟩;yld:=λi k v t a g y=>by obtain⟨p,x,rfl,j,rfl,y⟩:=y;obtain⟨d,o,n⟩:=O.get (O.mono a _ _ r) (y μ (ô.of (a _ _ b)));have f:=qb q 0 i d o;rw[Uq]at f;exact⟨aD j _,_,f,⟨p,_,rfl,aw,⟨.int i,[x],rfl,rfl,x,[],rfl,Ó.mono (aD j _) _ _ n,rfl⟩⟩⟩
def AU:List N->Option (Rs (List N))|[.lst a]=>Z (.ok (ky 0 a))|_=>Y
theorem AV(hg:Gl a "enumerate")(hm:a.mg "enumerate"=Y)(ha:FA a [g] ε)(hs:k_ [g] a.env=[(L,eval g a.env)]:=by lk):Ő a (.Tuple t d o) (.Call (.Name "enumerate" w) [g] [] ω) (λm=>Ù (ε m) AU):=by
 constructor;intro j' s σ H R I h;obtain⟨m,E,f⟩:=h;have key:ä a H (ε m) λr z=>∃n,O a.K z n r/\Ī a z (AU n) R:=by match hf:ε m,f with|some (.exc c),f=>exact f|some (.ok n),f=>exactλr z e y=>⟨n,y,Ī.mono e f⟩
 refine Call_ (gD I hg hm (show R_ "enumerate"=Z (.type "enumerate")by decide+kernel) (Rz (â (ha.h ω j' s σ H _ I ⟨m,E,key⟩) λus j⟨r,q,k,r1,n,y,p⟩=>?_) hs rfl));unfold AU at p;split at p
 · rename_i xs;obtain⟨v,rfl,rv⟩:=dq y;obtain⟨i,ws,rfl,h1,h2⟩:=rv.lstE;obtain⟨u,rfl,ru⟩:=eQ r1;cases ru;obtain⟨b',a',pl,hz⟩:=k.list (ô.of h1);refine call_enumerate_list pl.isList λh' he A c' kk=>?_;refine wpAny_pyIter_enum he ?_;have I2:Ì a j' σ q {j with heap:=h'}:=k.kept (t':=j.toks) kk;refine⟨j.heap.objs.size+1,[j.heap.objs.size+1,j.heap.objs.size],_,Ite a.K i,q,rfl,I2,xp i _ _ (Nat.succ_ne_self _),⟨⟨_,he⟩,A⟩,λb hb=>?_,p _ q (.refl q) (EJ h1 h2)⟩;have P:b=j.heap.objs.size+1\/b=j.heap.objs.size:=by simpa using hb
   rcases P with rfl|rfl;·exact k.fpOk (UK _) (k.hok.fresh (UK _))
   ·exact k.fpOk (s_ _) (k.hok.fresh (s_ _))
 ·exact p.elim
noncomputable def Nv:List Nat->List V->L2.St->L2.St|i::is,v::b,a=>Nv is b (a.set i (Z v))|_,_,a=>a
noncomputable def Mp:List Nat->List N->Ev->Ev|i::is,d::b,a=>Mp is b (a.set i (Z d))|_,_,a=>a
def EM(b:List Nat):Ũ:=λa d H Q=>a.length=b.length/\Q (Nv b a d) H
theorem ui{b f:Ũ}(h:Œ a t b)(w:∀e d H Q,f e d H Q->b e d H Q):Œ a t f:=λi s d H e g Q I r q=>h i s d H e g Q I r (w e d H Q q)
theorem Jx:Œ a [] (EM []):=ui wu λb d H Q⟨l,q⟩=>by cases b with|nil=>exact⟨rfl,q⟩|cons v r=>cases l
theorem EN(i:Nat){x:Str}{d:List Nat}{b:List u_}(n:a.N.Nodup)(k:a.N[i]?=Z x)(g:Ļ a.env.scope x)(m:a.fn x=U\/a.env.scope.names.lookup x=Z .local)(h:Œ a b (EM d))(j:(QY (.Name x o::b) a.env).map (·.2)=S4 (.Name x o) a.env::(QY b a.env).map (·.2):=by lk):Œ a (.Name x o::b) (EM (i::d)):=ui (oa (gX (d:=i) n k g m) h j) λf e H Q⟨l,q⟩=>by cases f with|nil=>cases l|cons v r=>exact⟨v,r,rfl,(⟨Nat.succ.inj l,q⟩:EM d r (e.set i (Z v)) H Q)⟩
theorem Ú.setAll{K:d_}{H:Hp}:∀(is:List Nat){b:List N}{a:List V}{e:L2.St}{f:Ev},Ú K H e f->O K H b a->Ú K H (Nv is a e) (Mp is b f)|[],_,_,_,_,E,_=>E|_::_,[],a,_,_,E,r=>by cases(show a=[]from r);exact E|i::is,d::b,a,e,f,E,r=>by obtain⟨v,g,rfl,h,t⟩:∃v g,a=v::g/\Ó K H d v/\O K H b g:=r;exact Ú.setAll is (E.set h) t
def P6(a:List Nat)(d:Ev):N->Option Fl|.tup b=>if b.length=a.length then Z (.nx (Mp a b d))else Y|_=>Y
def JA(b:List Nat)(f:Ò):Ö:=λa=>cu (f a) (P6 b a)
theorem JB{i:List Nat}(hc:a.calm=U)(h:Œ a t (EM i))(he:FE a g y)(hn:(QY t a.env).length=i.length:=by lk)(u:(QY t a.env).findIdx? (·.1)=Y:=by lk)(hs:XV [.Tuple t d w] g o.line a.env=pure L:=by lk)(P:XX [.Tuple t d w] g a.env=pure Y:=by lk)(n:(QY [.Tuple t d w] a.env).map (·.2)=[S4 (.Tuple t d w) a.env]:=by lk):FS a (.Assign [.Tuple t d w] g o) (JA i y):=rP (CW he.h (CV (r:=i.length) hc h hn u) hs P n) λD σ H z E b=>⟨z,E,ê.bindS b λe v q g r A=>by cases e with
 |tup p=>
 have j:ï a q (if p.length=i.length then Z (.nx (Mp i p z))else Y) D:=A;by_cases k:p.length=i.length;·rw[if_pos k]at j;obtain⟨f,I,rfl,n,m⟩:=r.tupE;exact⟨f,I,rfl,ü.of n,m.length.trans k,m.length.trans k,j _ q (.refl q) (Ú.setAll i (E.mono g) m)⟩
 ·rw[if_neg k]at j;exact j.elim|_=>exact A.elim⟩
theorem ar{b:Ö}{a:Ev}(h:Ο H=Z (.nx a)):aA Ο b H=b a:=by unfold aA;rw[h];rfl
theorem lQ{b:Ö}(h:Ο H=Z (.rt j)):aA Ο b H=Z (.rt j):=by unfold aA;rw[h];rfl
theorem cw(h:Μ H=Z (.ok L)):ba Μ Ο (λH=>Z (.nx H)) H=Z (.nx H):=by unfold ba;rw[h];rfl
theorem aV{a:Ev}(h:y H=Z (.ok j))(e:H.set d (Z j)=a):bI d y H=Z (.nx a):=by unfold bI;rw[h,<-e];rfl
theorem jZ(h:y H=Z (.ok j)):cU y H=Z (.nx H):=by unfold cU;rw[h];rfl
theorem cH(h:y H=Z (.ok j)):aH y H=Z (.rt j):=by unfold aH;rw[h];rfl
theorem EO{a:List Nat}(h:ε H=Z (.ok q)):Dc d a ε Ο H=lO d a Ο q H:=by unfold Dc;rw[h];rfl
theorem xq{b:ã}(h:Μ H=Z (.ok U)):lN Μ b H=b H:=by unfold lN;rw[h];rfl
theorem xr{b:ã}(h:Μ H=Z (.ok L)):lN Μ b H=Z (.ok L):=by unfold lN;rw[h];rfl
theorem kz(h:Μ H=Z (.ok A)):cg Μ H=Z (.ok (!A)):=by unfold cg;rw[h];rfl
theorem bx(h:y H=Z (.ok (.bl A))):fB y H=Z (.ok A):=by unfold fB;rw[h];rfl
theorem bV{g:N->N->Option (Rs N)}(b:y H=Z (.ok j))(a:È H=Z (.ok δ)):Q g y È H=g j δ:=by unfold Q;rw[b,a];rfl
theorem ac(h:y H=Z (.ok j))(t:ε H=Z (.ok q)):aK y ε H=Z (.ok (j::q)):=by unfold aK;rw[h,t];rfl
theorem aj:cM H=Z (.ok []):=rfl
theorem j3(h:ε H=Z (.ok q))(a:q.length=d)(b:ψ q=Z (.ok j)):ae ψ d ε H=Z (.ok j):=by unfold ae;rw[h];show(if _ then _ else _)=_;rw[if_pos a,b]
theorem gH(F:Ï){f:Ò}{b:Ev}{a d:N}(h:f b=Z (.ok a))(e:F [a]=Z (.ok d)):ae F 1 (aK f cM) b=Z (.ok d):=j3 (ac h aj) rfl e
theorem dw(F:Ï){f g:Ò}{e:Ev}{a b d:N}(h:f e=Z (.ok a))(j:g e=Z (.ok b))(i:F [a,b]=Z (.ok d)):ae F 2 (aK f (aK g cM)) e=Z (.ok d):=j3 (ac h (ac j aj)) rfl i
theorem jE(h:ε H=Z (.ok q))(a:q.length<=100000):fW ε H=Z (.ok (.tup q)):=by unfold fW;rw[h];show(if _ then _ else _)=_;rw[if_pos a]
theorem JC(h:y H=Z (.ok (.bl L))):Ġ y È H=È H:=by unfold Ġ;rw[h];rfl
theorem JD(h:y H=Z (.ok (.bl U))):Ġ y È H=Z (.ok (.bl U)):=by unfold Ġ;rw[h];rfl
theorem JE(h:y H=Z (.ok (.bl U))):iD y È H=È H:=by unfold iD;rw[h];rfl
theorem dr(h:ε H=Z (.ok q)):ß ψ ε H=ψ q:=by unfold ß;rw[h];rfl
theorem Nw{g:N->Option (Rs N)}(h:y H=Z (.ok j)):f1 g y H=g j:=by unfold f1;rw[h];rfl
theorem Nx(h:Μ H=Z (.ok U)):ĺ Μ y È H=y H:=by unfold ĺ;rw[h];rfl
theorem Ny(h:Μ H=Z (.ok L)):ĺ Μ y È H=È H:=by unfold ĺ;rw[h];rfl
theorem ox(h:ε H=Z (.ok q))(a:q.length<=100000):fj ε H=Z (.ok (.lst q)):=by unfold fj;rw[h];show(if _ then _ else _)=_;rw[if_pos a]
theorem eR(h:Ο (q.map Z++L_ (d-q.length) Y)=Z (.rt j)):bt d Ο q=Z (.ok j):=by unfold bt;rw[h]
structure V'(X:C)(e:B)(Ts:List B)(h h':J_):Prop where
 keep:∀b o,h.get? b=Z o->b≠e->b∉Ts->b∉frs X.stack->h'.get? b=Z o
 slot:∀b o,h.get? b=Z o->b∈frs X.stack->∃sl,h'.get? b=Z {o with slots:=sl}
theorem V'.any(A:V' a e Ã É I){b:B}{o:Obj}(q:É.get? b=Z o)(h:b≠e)(g:b∉Ã):∃f,I.get? b=Z {o with slots:=f}:=by
 by_cases d:b∈frs a.stack;·exact A.slot b o q d
 ·exact⟨o.slots,A.keep b o q h g d⟩
theorem Ì.aft(g:Ì a ζ Λ h f)(A:V' a e Ã f.heap I)(b':a.ex=[])(P:∀b,b=e\/b∈Ã->h b=Y/\a.s₀.heap.get? b=Y/\(∀p∈a.pn++ζ,p.1≠b)/\∃o H,f.heap.get? b=Z o/\o.data=.fields H):Ì a ζ Λ h {f with heap:=I}:=by
 have nE:∀b,h b≠Y->b≠e/\b∉Ã:=λb t=>⟨λz=>t (P b (.inl z)).1,λz=>t (P b (.inr z)).1⟩;have n0:∀b o,a.s₀.heap.get? b=Z o->b≠e/\b∉Ã:=λb o t=>⟨λz=>(by simp:(Z o:Option Obj)≠Y) (t.symm.trans (P b (.inl z)).2.1),λz=>(by simp:(Z o:Option Obj)≠Y) (t.symm.trans (P b (.inr z)).2.1)⟩;have nx:∀b,b∉a.ex:=λb=>by rw[b'];simp
 have nD:∀b o,f.heap.get? b=Z o->(∀H,o.data≠.fields H)->b≠e/\b∉Ã:=λb o t hd=>
  have go:(b=e\/b∈Ã)->False:=λz=>by obtain⟨o',H,q,d⟩:=(P b z).2.2.2;rw[t]at q;cases q;exact hd H d
  ⟨λz=>go (.inl z),λz=>go (.inr z)⟩;have nS:∀b∈frs a.stack,h b=Y:=g.stkFree;have E:∀c v,f.heap.IsCell c v->I.IsCell c v:=λc v⟨o,ho,hd⟩=>by
  obtain⟨y,w⟩:=nD c o ho λH q=>by rw[hd]at q;cases q
  obtain⟨sl,q⟩:=A.any ho y w;exact⟨_,q,hd⟩
 refine⟨g.ok,g.os,g.bare,⟨λb o q n t hx=>?_,λb o q n t hx=>?_,g.base.free,λb o q hx=>?_,g.base.tups,g.base.frzs,g.base.tbls⟩,?_,λx c q=>?_,g.free,g.freeC,λp hp=>?_,λj o q=>?_,g.len⟩
 · have h1:=g.base.keep b o q n t hx;obtain⟨y,w⟩:=n0 b o q;refine A.keep b o h1 y w λz=>?_;rcases t_.mp (g.stkSub b z)with z|z;·exact absurd z (F_ (QJ (v_ q) g.ok.above))
   ·exact t z
 ·obtain⟨sl,h1⟩:=g.base.slot b o q n t hx;obtain⟨y,w⟩:=n0 b o q;obtain⟨a',h2⟩:=A.any h1 y w;exact⟨a',h2⟩
 ·obtain⟨o',h1⟩:=g.base.there b o q hx;obtain⟨y,w⟩:=n0 b o q;obtain⟨sl,h2⟩:=A.any h1 y w;exact⟨_,h2⟩
 · obtain⟨m,⟨o,es,ep,ho,hd,r⟩,hl⟩:=g.loc;obtain⟨y,w⟩:=nD _ o ho λH q=>by rw[hd]at q;cases q
   obtain⟨sl,q⟩:=A.any ho y w;refine⟨m,⟨_,es,ep,q,hd,r⟩,λi x v e1 e2 e3=>?_⟩;obtain⟨u,ru,l⟩:=hl i x v e1 e2 e3;refine⟨u,ru,?_⟩;rcases l with l|⟨k,c,ec,z⟩;·exact .inl l
   ·exact .inr ⟨k,c,ec,E c _ z⟩
 ·obtain⟨v,z⟩:=g.cell x c q;exact⟨v,E c v z⟩
 · obtain⟨q,n,ne,nf,d⟩:=g.pin p hp;have y:p.1≠e:=(P e (.inl rfl)).2.2.1 p hp;have w:p.1∉Ã:=λz=>(P p.1 (.inr z)).2.2.1 p hp rfl;refine⟨A.keep p.1 p.2 q y w λz=>?_,n,ne,nf,d⟩;rcases t_.mp (g.stkSub _ z)with z|z;·exact ne z
   ·exact nf z
 · refine(g.hok j o q).stay (λb u t hu=>?_) (λ_ z=>z) λ_ _ z=>z;have hn:h b≠Y:=by
    rcases t with rfl|t;·rw[q];simp
    ·rw[t];simp
   exact A.keep b u hu (nE b hn).1 (nE b hn).2 λz=>hn (nS b z)
abbrev ĸ(X:C)(e:B)(a:List B)(h:J_):J_:=YS h (e::(a++frs X.stack))
theorem uj(g:Ì a ζ Λ h f)(k:(ĸ a e Ã f.heap).StaysIn I)(u:∀b o,f.heap.get? b=Z o->(∀j,o.data≠.fields j)->∃m,I.get? b=Z {o with slots:=m}):V' a e Ã f.heap I:=⟨λb o q r p n=>k b o (VD _ q (by simp only[t_,QS];rintro(z|z|z);exact r z;exact p z;exact n z)),λb o q t=>by obtain⟨_,v,i,d⟩:=g.stack.mem t;rw[q]at i;cases i;exact u b o q d⟩
theorem oy(I:Ì a ζ Λ h f):f.heap.FunFrames (ĸ a e Ã f.heap) a.stack:=PySem.W.funFrames_hide I.stack λg i b d=>on _ (o_ _ (V1.mpr ⟨g,i,d⟩))
theorem ů.imp{N d:B->Prop}(F:ů N h e Ε I)(k:∀a,N a->d a):ů d h e Ε I:=by
 obtain⟨y,w,u,f,z,t,r,q,p,b⟩:=F;refine⟨y,k _ w,u,f,z,t,r,q,p,?_⟩;rcases b with b|⟨T,v,g,o,n,m,j,i⟩;·exact .inl b
 ·exact .inr ⟨T,v,g,o,n,m,k _ j,i⟩
theorem Dl(b:Ì a ζ Λ h f)(r:a.ex=[])(he:h e=Y/\a.s₀.heap.get? e=Y)(hT:∀T∈Ã,h T=Y/\a.s₀.heap.get? T=Y)(ff:I.FunFrames (ĸ a e Ã f.heap) a.stack){T:B}{v:Obj}{t:Array D}(H:(ĸ a e Ã f.heap).get? T=Y)(E:T≠e)(P:I.get? T=Z v)(hd:v.data=.fields t):h T=Y/\a.s₀.heap.get? T=Y:=by
 have A:T∉frs a.stack:=λz=>by obtain⟨_,o,q,d⟩:=ff.mem z;rw[P]at q;cases q;exact d t hd
 have m:T∈Ã\/f.heap.get? T=Y:=by cases q:f.heap.get? T with|none=>exact .inr rfl|some o=>
   by_cases k:T∈Ã;·exact .inl k
   ·have:=VD (e::(Ã++frs a.stack)) q (by simp only[t_,QS];rintro(z|z|z);exact E z;exact k z;exact A z);rw[H]at this;cases this
 rcases m with k|k;·exact hT T k
 · constructor;·cases q:h T with|none=>rfl|some u=>
    have j:=b.hok T u q;exfalso;have:∃o,f.heap.get? T=Z o:=by clear q;induction u with|lst w=>obtain⟨_,_,_,_,z⟩:=j;exact⟨_,z⟩|tup w=>obtain⟨_,_,_,o,z,_⟩:=j;exact⟨_,z⟩|dK p=>obtain⟨_,_,_,_,o,_,_,z,_⟩:=j;exact⟨_,z⟩|dT p=>obtain⟨_,_,_,_,o,_,_,z,_⟩:=j;exact⟨_,z⟩|set S n=>obtain⟨o,_,_,_,z,_⟩:=j;exact⟨_,z⟩|ins i dx fs=>obtain⟨_,_,_,z,_⟩:=j;exact⟨_,z⟩|own y=>obtain⟨_,z⟩:=j;exact⟨_,z⟩|xd fs=>obtain⟨_,⟨_,_,_,z,_⟩,_⟩:=j;exact⟨_,z⟩|rng lo hi=>obtain⟨_,_,_,z⟩:=j;exact⟨_,z⟩|frz ob u ih=>obtain⟨z,_⟩:=j;exact⟨_,z⟩|tbl ps=>obtain⟨_,z,_⟩:=j;exact⟨_,z⟩|met g y=>exact⟨_,(show f.heap.get? T=Z _ from j)⟩|ext φ=>obtain⟨_,⟨_,z⟩,_⟩:=j;exact⟨_,z⟩
    obtain⟨o,z⟩:=this;rw[k]at z;cases z
   ·cases q:a.s₀.heap.get? T with|none=>rfl|some o=>obtain⟨o',z⟩:=b.base.there T o q (by rw[r];simp);rw[k]at z;cases z
theorem xt(I:Ì a ζ Λ h f)(P:a.ex=[])(i:a.stack=a.env::a.outer)(H:a.env.frame=Z a.env.locals)(F:ů (λd=>a.s₀.heap.get? d=Y) h e Ε f.heap){g:Unit->g_->Prop}{E:D->g_->Prop}(k:∀j Ts,ů (λd=>a.s₀.heap.get? d=Y) h e Ε j->V' a e Ts f.heap j->(∀b,b=e\/b∈Ts->h b=Y/\a.s₀.heap.get? b=Y/\∃o t,f.heap.get? b=Z o/\o.data=.fields t)->g () {f with heap:=j}):uk (x_ a.prog a.w) a.A (leaving a.env (.ref e)) g E f:=by
 obtain⟨f1,Q,oe,t,a0,q1,q2,q3,q4,q5⟩:=F;have A:a.A.frames=Z (a.env::a.outer):=i▸I.ok.frames;subst q2;rcases q5 with q5|⟨T,oT,ts,r1,r2,r3,r4,r5,r6,r7⟩
 · have b3:f.heap.FunFrames (ĸ a e [] f.heap) (a.env::a.outer):=i▸oy I;refine wpAny_leaving_firstW (base:=ĸ a e [] f.heap) A b3 H q1 (λb o z=>TD _ z) (Sc _ (q_ ..)) q3 q5 q4 λj hL=>?_;obtain⟨k1,k2,⟨q,n,T,oT,ts,t1,⟨t2,t3⟩,t4,t5,t6,w,v,u,p⟩,k4⟩:=hL;have r:j.FunFrames (ĸ a e [] f.heap) a.stack:=i▸k2;have y:=Dl I P ⟨f1,Q⟩ (λ_ z=>absurd z (by simp)) r t6 w v u;refine k j [] ⟨f1,Q,q,n,a0,t1,t2,t4,t3,.inr ⟨T,oT,ts,t5,w,y.1,y.2,v,u,p⟩⟩ (uj I k1 k4) λb m=>?_;rcases m with rfl|m;·exact⟨f1,Q,oe,t,q1,q3⟩
   ·cases m
 · have b3:f.heap.FunFrames (ĸ a e [T] f.heap) (a.env::a.outer):=i▸oy I;have ht:f.heap.TracedW (ĸ a e [T] f.heap) e oe.cls a0:=⟨oe,t,T,oT,ts,q1,⟨rfl,q4⟩,q3,r1,Sc _ (by simp),r2,r5,r6,r7⟩;refine wpAny_leaving_nextW (base:=ĸ a e [T] f.heap) A b3 H ht (λb o z=>TD _ z) (Sc _ (q_ ..)) λj hL=>?_;obtain⟨k1,k2,⟨q,n,T',b',a',t1,⟨t2,t3⟩,t4,t5,t6,w,v,u,p⟩,k4⟩:=hL;have r:j.FunFrames (ĸ a e [T] f.heap) a.stack:=i▸k2;have y:=Dl I P ⟨f1,Q⟩ (λT0 z=>by simp at z;subst z;exact⟨r3,r4⟩) r t6 w v u;refine k j [T] ⟨f1,Q,q,n,a0,t1,t2,t4,t3,.inr ⟨T',b',a',t5,w,y.1,y.2,v,u,p⟩⟩ (uj I k1 k4) λb m=>?_;rcases m with rfl|m;·exact⟨f1,Q,oe,t,q1,q3⟩
   ·simp at m;subst m;exact⟨r3,r4,oT,ts,r5,r6⟩
def ĥ(P:n_)(w:w_):Ĵ:=λb H s E h d=>∃e f g,h=.ref e/\d.os=s.os/\VM d.gens/\Un (frs b) [] H g s.heap d.heap/\Ċ P w g d.heap/\ů (λa=>s.heap.get? a=Y) g e f d.heap/\E f Y g
def ũ(K:d_)(F:Ï)(n:Nat):Sp:=λe H Q E=>∃b,O K H b e/\b.length=n/\match F b with|some (.ok d)=>∀v a,Í H a->Ó K a d v->Q v a|some (.exc c)=>∀C a,Rq K z_ (ğ c)=Z (Z (.ref C))->Í H a->E (.ref C) Y a|none=>False
def EX(X:C):XK:=λb _ d=>∃c a,b=.ref a/\Rq X.K z_ (ğ c)=Z (Z (.ref a))/\XW X c d
theorem vp(i:a.ex=[]):jR (ĥ a.prog a.w) a (EX a):=by
 intro n k H s y m I⟨e,E,t,w,os,g,un,h,F,c,f,j,hC,u⟩;have A:Ì a n k t m:=I.call' (ch:=[]) os un h g λb z=>absurd z (by simp);refine u n k t m y (λ_ _ z=>z) A ⟨e,f,w,hC,j▸F.imp λd r=>⟨?_,λp v z=>?_⟩⟩;·cases q:a.s₀.heap.get? d with|none=>rfl|some o=>obtain⟨P,z⟩:=I.base.there d o q (by rw[i];simp);rw[r]at z;cases z
 ·have:=(I.pin p (G_ _ v)).1;rw[z,r]at this;cases this
def av(F:Ï)(n:Nat)(g:Û):Ò:=λb=>Ù (g b) λa=>if a.length=n then F a else Y
def JF(P:n_)(w:w_)(K:d_)(d:Str->Option D)(a:J_)(x:Str)(k:Nat)(b:List Str)(F:Ï):Prop:=∃f e,è P w K d a (ĥ P w) k f e b (ũ K F b.length)/\d x=Z (.ref f)/\Rr K (.ref f)=U/\ë K e b []
theorem AX(k:Nat)(n:List Str)(F:Ï)(h:JF a.prog a.w a.K a.mg a.base b k n F)(hr:Ø r a.A)(hk:k<=r)(z:a.ex=[])(hg:Gl a b)(ha:FA a (g::t) ε)(hn:d=n.length:=by lk)(A:(b==("__debug__":Str))=L:=by lk)(he:k_ (g::t) a.env=(L,eval g a.env)::k_ t a.env:=by lk)(v:(O_ w (k_ t a.env)).any (·.1)=L:=by lk):FE a (.Call (.Name b o) (g::t) [] w) (av F d ε):=by
 subst hn;obtain⟨f,fd,G,hm,y,hb⟩:=h;refine dg (lI (G.mono hk) hr hg hm y hb .nil (vp z) ha.h A he v) λσ H Q I E e=>⟨I,E,ä.bind e λu P H' g rs m=>?_⟩;show ũ a.K F n.length (P++[]) H' Q (EX a);rw[RB];by_cases p:u.length=n.length
 ·rw[if_pos p]at m;refine⟨u,rs,p,?_⟩;match q:F u with|none=>rw[q]at m;exact m.elim|some (.ok j)=>rw[q]at m;exact m|some (.exc c)=>rw[q]at m;exactλi H1 hC e1=>⟨c,i,rfl,hC,XW.mono m e1⟩
 ·rw[if_neg p]at m;exact m.elim
noncomputable def dL(m:Nat)(b:Ö):Ï:=λa=>match b (a.map Z++L_ (m-a.length) Y)with|some (.nx _)=>Z (.ok .non)|some (.rt d)=>Z (.ok d)|some (.exc c)=>Z (.exc c)|none=>Y
theorem EQ{o:List Env}{n:XK}(q:∀C r,Rq u z_ (ğ d)=Z (Z (.ref C))->Í h r->n (.ref C) Y r):XW (kq (ĥ p m) p m u Α I z b η e Ε E o f h n) d h:=by intro j' σ r A ev e1 g⟨k,C,H,hC,F⟩;subst H;have F':ů (λa=>f.heap.get? a=Y) r k (.ref C) A.heap:=F.imp λa P=>P.1;refine xt g rfl rfl rfl F' λh' Ts F2 A2 v=>?_;have y:=Ì.aft (ζ:=[]) (g.pins_of (pins':=[]) λj t=>nomatch t) A2 rfl λi w=>⟨(v i w).1,(v i w).2.1,λj t=>absurd (show j∈([]:List (B×Obj))from t) (by simp),(v i w).2.2⟩;exact⟨k,.ref C,r,rfl,g.os,g.bare,y.base,y.hok,F2,q C r hC e1⟩
theorem Do(N t:List Str)(w:Ö)(hF:ψ=dL N.length w)(hn:r=t.length)(Fn:ġ u b i τ e Â)(S:dO N t (ah τ))(hb:∀(k:D)(A:xy)(j:List Env)(s:g_)(H:Hp)(E:XK),Ø d (A.deeper (Sq i (ah τ) s.heap.objs.size e k))->ć (kq (ĥ p m) p m u Α I N i (ah τ) e k A j s H E) (bB τ) w):è p m u Α I (ĥ p m) (d+1) e Â t (ũ u ψ r):=by
 subst hF hn;obtain⟨oc,od,kV,c',pm,an,k,ct,b',rfl,lk,z⟩:=Fn.ex;refine vf lk z S (λvs H Q E h=>?_) λA j s H vs Q E hr h=>?_;·obtain⟨n,a,P,_⟩:=h;rw[a.length,P]
 ·obtain⟨n,a,P,q⟩:=h;refine⟨_,(hb k A j s H E hr).h,n.map Z++L_ (N.length-n.length) Y,dH a,?_⟩;unfold dL at q;match o:w (n.map Z++L_ (N.length-n.length) Y)with|none=>rw[o]at q;exact q.elim|some (.exc c)=>rw[o]at q;exact EQ q|some (.rt g)=>rw[o]at q;exactλv y f r'=>q v y f r'|some (.nx ρ)=>rw[o]at q;exactλa' y f _=>q .non y f rfl
theorem oz(g:Ċ p m h I){a:B}{u:HO}(q:h a=Z u):∃o,I.get? a=Z o:=by have b:=g a u q;clear q;induction u with|lst e=>obtain⟨_,_,_,_,z⟩:=b;exact⟨_,z⟩|tup e=>obtain⟨_,_,_,o,z,_⟩:=b;exact⟨_,z⟩|dK d=>obtain⟨_,_,_,_,o,_,_,z,_⟩:=b;exact⟨_,z⟩|dT d=>obtain⟨_,_,_,_,o,_,_,z,_⟩:=b;exact⟨_,z⟩|set S n=>obtain⟨o,_,_,_,z,_⟩:=b;exact⟨_,z⟩|ins C v fs=>obtain⟨_,_,_,z,_⟩:=b;exact⟨_,z⟩|own y=>obtain⟨_,z⟩:=b;exact⟨_,z⟩|xd fs=>obtain⟨_,⟨_,_,_,z,_⟩,_⟩:=b;exact⟨_,z⟩|rng lo t=>obtain⟨_,_,_,z⟩:=b;exact⟨_,z⟩|frz k u r=>obtain⟨z,_⟩:=b;exact⟨_,z⟩|tbl j=>obtain⟨_,z,_⟩:=b;exact⟨_,z⟩|met f y=>exact⟨_,(show I.get? a=Z _ from b)⟩|ext i=>obtain⟨_,⟨_,z⟩,_⟩:=b;exact⟨_,z⟩
theorem xu(b:Ċ p m h I){a:B}(n:I.get? a=Y):h a=Y:=by cases q:h a with|none=>rfl|some u=>obtain⟨o,z⟩:=oz b q;rw[n]at z;cases z
theorem xx{a:String}(X:u.In I)(t:Α b=Z (.ref e))(q:XZ u e ξ a=U):OwnCls b e ξ a Α I:=by
 constructor;·exact t
 unfold XZ at q;split at q
 · rename_i dd cd r look;split at q;·rename_i C2 rest m k j i f h n H;simp only[p_,beq_iff_eq,Sn]at q;have e1:=q.1.1.1.1.1;have e2:=q.1.1.1.1.2;have p:=q.1.1.1.2;have e4:=q.1.1.2;have d:=q.1.2;have o:=q.2;clear q;subst e1 e2;obtain⟨f1,Q,f3,E,A,z,y,w,v,g,a'⟩:=cd;dsimp only at n p d o;subst n p;obtain⟨l⟩:=r;have P:l=[m,k,j,i,Z (.builtin f),h]:=H;subst P;refine⟨rest,E,f1,A,Q,z,y,w,v,g,dd,m,k,j,i,h,_,X _ _ look,.of_isNs (PySem.W.isNs_of_in X d),?_,PySem.W.tail_of_in X e4⟩;exact PySem.W.nsMap_none_of_in X d o
   ·cases q
 ·cases q
abbrev ņ:List D:=[.type "ValueError",.type "Exception",.type "BaseException",.type "object"]
structure XC(K:d_)(c:Nat)(C:B):Prop where nm:Rq K z_ (ğ c)=Z (Z (.ref C))ex:XZ K C ņ "ValueError.__new__"=U
noncomputable def eC(c:Nat)(f:Ò):Ö:=λa=>cu (f a) λ_=>Z (.exc c)
theorem AY(c:Nat)(K:XC a.K c e)(hx:ğ c=b)(hm:a.mg b=Z (.ref e))(b':a.ex=[])(hc:a.calm=U)(hg:Gl a b)(ha:FE a g y)(he:k_ [g] a.env=(L,eval g a.env)::k_ [] a.env:=by lk)(c':(b==("__debug__":Str))=L:=by lk):FS a (.Raise (Z (.Call (.Name b o) [g] [] w)) Y ω) (eC c y):=by
 subst hx;constructor;intro A s n H D I⟨u,E,f⟩;obtain⟨tl,N,nm,q,bs,k,sn,sub,ab,d',dd,k0,k1,k2,k3,k5,mN,hC,hN,a',T⟩:=(xx I.ok.mod.kin hm K.ex).obj;refine wpAny_Raise_call_subT (C:=e) (nm:=nm) (q:=q) (N:=N) (bs:=bs) (bm:=tl) (hdct:=k) (sn:=sn) (sub:=sub) (ab:=ab) (col:=d') (dd:=dd) (k0:=k0) (k1:=k1) (k2:=k2) (k3:=k3) (k5:=k5) Ui (mN:=mN) (T.hasType Ui.hasBase) (I.ok.hd hc) (by rw[he];rfl) a' (kt I hg hm ⟨rfl,?_⟩ c');have m:=(rR ha wX he).h w A s n H (λv j=>v.length=1/\XW a c j) I ⟨u,E,?_⟩
 · rw[he]at m⊢;refine Xu (â m λus s2⟨v,j,i,rv,hl,hw⟩=>⟨rfl,?_,i.bk _ _ hC,hN.keeps i.bk,T.keeps i.bk,λh' h me=>?_⟩);·rw[<-rv.length,hl];decide
   · have I2:Ì a A n j {s2 with heap:=h'}:=i.kept (t':=s2.toks) me.keeps;obtain⟨t,t1,t2,t3⟩:=me.there;refine hw A n j _ (.ref h) (λ_ _ z=>z) I2 ⟨h,e,rfl,K.nm,xu i.hok me.new,⟨?_,λp m z=>?_⟩,_,_,.ref t,t1,rfl,rfl,rfl,.inl rfl⟩;·cases z:a.s₀.heap.get? h with|none=>rfl|some o2=>obtain⟨o3,z3⟩:=i.base.there h o2 z (by rw[b'];simp);rw[me.new]at z3;cases z3
     ·have z2:=(i.pin p (G_ _ m)).1;rw[z,me.new]at z2;cases z2
 ·show ä a H (aK y cM u) _;unfold aK;unfold eC at f;match P:y u with|none=>rw[P]at f;exact f.elim|some (.exc c2)=>rw[P]at f;exact f|some (.ok d)=>rw[P]at f;exactλv j e1 r=>⟨r.length,XW.mono f e1⟩
open PySem.W Builtin.Getset_descriptor
structure XI(K:d_)(C:B):Prop where
 ga:findIn K (.ref C) "__getattribute__"=Z (Z (.builtin "BaseException.__getattribute__"))gt:findIn K (.ref C) "__getattr__"=Z Y
 cl:findIn K (.ref C) "__class__"=Z (Z (.builtin "object.__class__"))sp:specialIn K (.builtin "object.__class__") "__get__"=Z (Z (.builtin "getset_descriptor.__get__"))tk:takesIn K (.builtin "object.__class__")=Z U
 ob:mroIn K C (.type "object")=Z U
 be:mroIn K C (.type "BaseException")=Z U
structure ñ(k:Nat)(A:xy):Prop where
 dp:A.depth+3*k+5<recursionLimit
 un:A.units+16*k+200<cLine
theorem ñ.of(r:Ø d E):ñ d E:=⟨r.dp,r.un⟩
theorem ñ.mono(a:ñ r E)(h:d<=r):ñ d E:=⟨by have:=a.dp;omega,by have:=a.un;omega⟩
theorem ñ.deeper(r:ñ (d+1) E)(a:Env):ñ d (E.deeper a):=⟨by have:=r.dp;show E.depth+1+3*d+5<_;omega,by have:=r.un;show E.units+3+16*d+200<_;omega⟩
theorem ñ.units(r:ñ d E):E.units+64<cLine:=by have:=r.un;omega
structure FnM(P:n_)(w:w_)(K:d_)(mg:Str->Option D)(base:J_)(k:Nat)(f:B)(fd:Rj)(ps:List Str)(F:Ï):Prop where run:∀(A:xy)(outer:List Env)(s:g_)(H:Hp)(args:Args)(us:List D)(vs:List V)(ds:List N)(d:N)(Q:VK),ñ k A->ĕ P w K mg base A outer s H->WR s fd args (ps.zip us)->Ð vs us->O K H ds vs->ds.length=ps.length->F ds=Z (.ok d)->(∀v H',Í H H'->Ó K H' d v->Q v H')->Ta (x_ P w) A (.call (.ref f) args) (CR ċ outer P w H s Q E0) s
def QG(P:n_)(w:w_)(K:d_)(d:Str->Option D)(a:J_)(x:Str)(k:Nat)(b:List Str)(F:Ï):Prop:=∃f e,FnM P w K d a k f e b F/\d x=Z (.ref f)/\Rr K (.ref f)=U/\ë K e b []
def Zz(P:n_)(w:w_)(K:d_)(g:Str->Option D)(e:J_)(N:List Str)(d:Str)(a:RS)(f:B)(h:D)(A:xy)(b:List Env)(s:g_)(H:Hp):C:={kq ċ P w K g e N d a f h A b s H E0 with calm:=L,xe:=λ_ _=>False}
theorem JG{k:Nat}{f:B}{fd:Rj}{x:Str}{P:n_}{w:w_}{K:d_}{mg:Str->Option D}{i:J_}{h:Str}{p:Re}{F:Ï}(N ps:List Str)(fb:Ö)(t:F=bt N.length fb)(Fn:ġ K x h p f fd)(S:dO N ps (ah p))(hb:∀(j:D)(A:xy)(a:List Env)(s:g_)(H:Hp),ñ k (A.deeper (Sq h (ah p) s.heap.objs.size f j))->ć (Zz P w K mg i N h (ah p) f j A a s H) (bB p) fb):FnM P w K mg i (k+1) f fd ps F:=by
 subst t;obtain⟨oc,od,kV,l',pm,an,j,ct,j',rfl,lk,g'⟩:=Fn.ex;refine⟨λA a s H i' us vs ds d Q hr m h' r rs hl t q=>?_⟩;have e':vs.length=ps.length:=by rw[rs.length,hl]
 have KX:K.In s.heap:=m.mod.kin.keeps λb o e=>(m.bs b o e).1;have c':s.heap.NoLimit:=m.mod.nolimit.keeps λb o e=>(m.bs b o e).1;have a':∀y∈ps.zip us,(ah p).names.lookup y.1=Z .local\/((ah p).names.lookup y.1=Z .cell/\((Ri (s.heap.objs.size+1) (ah p).names []).lookup y.1).isSome=U):=λ⟨n,v⟩hy=>by
  rcases S.par n (UB hy).1 with z|z;·exact .inl z
  ·exact .inr ⟨z,TF _ _ _ (.inl z)⟩
 have f':A.depth<recursionLimit:=by have:=hr.dp;omega
 refine Xa f' (KX _ _ lk) rfl S.co S.gen rfl (X5 KX g') (h' _ _ _ _ ?_);refine Ud S.kind a' λk' he s1 x=>?_;subst he;refine⟨c'.keeps x.toInCall.keep,codeAny_func ?_⟩;have e1:ĕ P w K mg i {A with handled:=Y} a s H:=⟨m.frames,m.mod,m.bs,m.bsz,m.funs,m.frf,m.hok,m.bare⟩;have g:Ì (kq ċ P w K mg i N h (ah p) f j {A with handled:=Y} a s H E0) [] (start N vs) H s1:=lJ S rfl e1 e' r x;have I:Ì (Zz P w K mg i N h (ah p) f j A a s H) [] (start N vs) H s1:=⟨⟨g.ok.mod,g.ok.kind,g.ok.glob,g.ok.blt,g.ok.above,g.ok.inj,g.ok.has,g.ok.cab,(λz=>absurd z B_),Xv m.frames,g.ok.stk,g.ok.exf,g.ok.bs,g.ok.bsz,g.ok.noex,g.ok.exfs,g.ok.funs,g.ok.frf⟩,g.os,g.bare,g.base,g.loc,g.cell,g.free,g.freeC,g.pin,g.hok,g.len⟩;have b':∀{s':g_}{E:L2.St}{H':Hp}{v:V}{u:D},Ì (Zz P w K mg i N h (ah p) f j A a s H) [] E H' s'->Ü v u->Q v H'->CE a P w H s Q u s':=λ{s' E H' v u}J rv q=>⟨v,H',J.os,J.bare,J.base,J.hok,rv,q⟩;have hq:ï (Zz P w K mg i N h (ah p) f j A a s H) H (fb (ds.map Z++L_ (N.length-ds.length) Y)) {nx:=λ_ H'=>Q .non H',rt:=Q}:=by unfold bt at t;match hf:fb (ds.map Z++L_ (N.length-ds.length) Y)with|none=>rw[hf]at t;cases t|some (.exc c)=>rw[hf]at t;cases t|some (.rt d')=>rw[hf]at t;cases t;exact q|some (.nx ρ)=>rw[hf]at t;cases t;exactλE H' e _=>q .non H' e rfl
 refine QX ((hb j A a s H (hr.deeper _)).h [] s1 (start N vs) H _ I ⟨_,dH rs,hq⟩) (λfl s' hs=>?_) λe s' hs=>hs.elim;cases fl with|ret u=>obtain⟨v,E,H',J,rv,z⟩:=hs;exact b' J rv z|next=>obtain⟨E,H',J,z⟩:=hs;exact b' (v:=V.non) (u:=H_) J rfl z|brk=>obtain⟨_,_,_,z⟩:=hs;exact QN z|cont=>obtain⟨_,_,_,z⟩:=hs;exact QN z
abbrev Hw(X:C)(a:List (B×Obj))(E:D->g_->Prop):C:={X with pn:=X.pn++a,xe:=E}
abbrev rX(X:C)(a:List (B×Obj))(e:B):C:={X with A:=X.A.mark (Z (.ref e)),calm:=L,pn:=X.pn++a,xe:=λ_ _=>False}
theorem ES(I:Ì a ζ Λ h f):Ì (Hw a ζ ο) [] Λ h f:=⟨⟨I.ok.mod,I.ok.kind,I.ok.glob,I.ok.blt,I.ok.above,I.ok.inj,I.ok.has,I.ok.cab,I.ok.hd,I.ok.frames,I.ok.stk,I.ok.exf,I.ok.bs,I.ok.bsz,I.ok.noex,I.ok.exfs,I.ok.funs,I.ok.frf⟩,I.os,I.bare,I.base,I.loc,I.cell,I.free,I.freeC,λp b=>I.pin p (by simpa using b),I.hok,I.len⟩
theorem gI{b:List (B×Obj)}(I:Ì (Hw a ζ ο) b Λ h f):Ì a ζ Λ h f:=⟨⟨I.ok.mod,I.ok.kind,I.ok.glob,I.ok.blt,I.ok.above,I.ok.inj,I.ok.has,I.ok.cab,I.ok.hd,I.ok.frames,I.ok.stk,I.ok.exf,I.ok.bs,I.ok.bsz,I.ok.noex,I.ok.exfs,I.ok.funs,I.ok.frf⟩,I.os,I.bare,I.base,I.loc,I.cell,I.free,I.freeC,λp d=>I.pin p (G_ _ d),I.hok,I.len⟩
theorem ul(I:Ì a ζ Λ h f):Ì (rX a ζ e) [] Λ h f:=⟨⟨I.ok.mod,I.ok.kind,I.ok.glob,I.ok.blt,I.ok.above,I.ok.inj,I.ok.has,I.ok.cab,λz=>absurd z B_,I.ok.frames,I.ok.stk,I.ok.exf,I.ok.bs,I.ok.bsz,I.ok.noex,I.ok.exfs,I.ok.funs,I.ok.frf⟩,I.os,I.bare,I.base,I.loc,I.cell,I.free,I.freeC,λp b=>I.pin p (by simpa using b),I.hok,I.len⟩
theorem vq{b:List (B×Obj)}(d:a.Ok)(I:Ì (rX a ζ e) b Λ h f):Ì a ζ Λ h f:=⟨d,I.os,I.bare,I.base,I.loc,I.cell,I.free,I.freeC,λp g=>I.pin p (G_ _ g),I.hok,I.len⟩
theorem AZ(I:Ì a ζ Λ h f)(a':a.ex=[])(j:a.stack=a.env::a.outer)(p:a.env.frame=Z a.env.locals){A:D}(F:ů (M8 a) h e A f.heap){g:Unit->g_->Prop}{E1 E2:D->g_->Prop}(k:∀i H r,(ĸ a e H f.heap).StaysIn i->i.FunFrames (ĸ a e H f.heap) a.stack->i.TracedW (ĸ a e H f.heap) e A r->(∀b o,f.heap.get? b=Z o->(∀n,o.data≠.fields n)->∃t,i.get? b=Z {o with slots:=t})->(∀b,b=e\/b∈H->h b=Y/\M8 a b/\∃o n,f.heap.get? b=Z o/\o.data=.fields n)->g () {f with heap:=i}):uk (x_ a.prog a.w) a.A (Ys (.ref e) a.env) (λ_ s2=>uk (x_ a.prog a.w) a.A (setFlight (.ref e) Y) g E1 s2) E2 f:=by
 obtain⟨f1,Q,w,n,r,v,q2,u,q4,E⟩:=F;have y:a.A.frames=Z (a.env::a.outer):=j▸I.ok.frames;subst q2;rcases E with E|⟨T,oT,ts,r1,r2,r3,r4,r5,r6,r7⟩
 · have b3:f.heap.FunFrames (ĸ a e [] f.heap) (a.env::a.outer):=j▸oy I;have go:∀i,Heap.NotedW (ĸ a e [] f.heap) (a.env::a.outer) e w.cls r (RY a.env.locals) f.heap i->uk (x_ a.prog a.w) a.A (setFlight (.ref e) Y) g E1 {f with heap:=i}:=λi⟨k1,k2,k3,k4⟩=>U8 (s:={f with heap:=i}) k1 k2 k3 λh2 m1 m2 m3 m4=>k h2 [] r m1 (j▸m2) m3 (λb o q d=>by obtain⟨t,P⟩:=k4 b o q d;exact⟨t,m4 b _ P d⟩) λb m=>by
    rcases m with rfl|m;·exact⟨f1,Q,w,n,v,u⟩
    ·cases m
   unfold Ys;simp only[p];refine e_ (RL v u E ?_);rw[if_neg (by decide)];exact wpAny_entryW y b3 p v (λb o z=>TD _ z) (Sc _ (q_ ..)) u (RO.mp E).1 q4 go
 ·have b3:f.heap.FunFrames (ĸ a e [T] f.heap) (a.env::a.outer):=j▸oy I;have ht:f.heap.TracedW (ĸ a e [T] f.heap) e w.cls r:=⟨w,n,T,oT,ts,v,⟨rfl,q4⟩,u,r1,Sc _ (by simp),r2,r5,r6,r7⟩;refine wpAny_noteFrame_onW y b3 p ht (λb o z=>TD _ z) (Sc _ (q_ ..)) λi⟨k1,k2,k3,k4⟩=>?_;refine U8 (s:={f with heap:=i}) k1 k2 k3 λh2 m1 m2 m3 m4=>k h2 [T] r m1 (j▸m2) m3 (λb o q d=>by obtain⟨t,P⟩:=k4 b o q d;exact⟨t,m4 b _ P d⟩) λb m=>by
    rcases m with rfl|m;·exact⟨f1,Q,w,n,v,u⟩
    ·simp at m;subst m;exact⟨r3,r4,oT,ts,r5,r6⟩
theorem xz{w:Str->Option D}{H:Obj}{Q:Bool->g_->Prop}(X:u.In f.heap)(o:OwnCls b v ņ "ValueError.__new__" Α f.heap)(n:OwnCls i Ι ņ "ValueError.__new__" w f.heap)(he:f.heap.get? e=Z H)(hc:H.cls=.ref v)(I:mroIn u v (.ref Ι)=Z U)(h:Q U f):uk (x_ p m) E (excMatches (.ref e) (.ref Ι)) Q ο f:=by
 obtain⟨tl,N,nm,q,bs,c',sn,sub,ab,k',dd,k0,k1,k2,k3,k5,mN,o,hN,h',T⟩:=o.obj;obtain⟨r,N',f',q',l',A,e',P,m',d',j',l0,l1,l2,l3,l5,g',n,i',a',T'⟩:=n.obj;obtain⟨hh,g,d,t,os⟩:=f;have z:(y_ Ι::r).contains (.type "BaseException")=U:=by rw[List.contains_cons,T'.hasType Ui.hasBase,Bool.or_true]
 have y:(y_ v::tl).contains (.ref Ι)=U:=by
  unfold mroIn at I;obtain⟨cd,a,j⟩:=Tx.mp I;split at j;·cases j
  · have b':=Q4 j;unfold clsIn at a;split at a;·rename_i look;cases a;have i:=(X _ _ look).symm.trans o;cases i;exact b'
    ·cases a
 have k:=tc_notTuple;unfold excMatches;repeat(first|(with_reducible refine wpAny_loadPart_at he ?_;rw[hc])|with_reducible refine wpAny_loadPart_at n ?_|(with_reducible refine wpAny_isSubtype_exc n ?_;rw[z])|(with_reducible refine wpAny_isSubtype_exc o ?_;rw[y])|wp_step)
 exact h
def Mq:List N->Ï|a,[x]=>if iy x&&a.all iy&&A_ (a.length<=100000)then Z (.ok (.int (a.countP (λy=>ű y x):Nat)))else Y|_,_=>Y
def JH:V->List V->Hp->VK->Prop:=λx d H Q=>∃a b y,x=.ref a/\d=[y]/\H a=Z (.lst b)/\iw y=U/\b.all iw=U/\b.length<=100000/\Q (.int (b.countP (λv=>ĳ v y):Nat)) H
theorem ni{y:V}:∀{b:List V}{a:List D},Ð b a->b.all iw=U->a.countP (ı y)=b.countP λv=>ĳ v y|_,_,.nil,_=>rfl|_,_,.cons (a:=v) (b:=u) r t,f=>by rw[SU,p_]at f;rw[Vh,Vh,ni t f.2,uc r f.1]
theorem xA:Ķ a "list.count" JH:=by intro P s w H x A v E Q I j m h;obtain⟨b,i,y,rfl,rfl,p,r,g,hz,q⟩:=h;cases j;obtain⟨u,rfl,k⟩:=eQ m;obtain⟨z,d,n,f,hl,e⟩:=I.lstM p;refine Ug Wx ⟨_,e,rfl⟩ PySem.F.entry_list_count (PySem.F.args_list_count_2 _ _) (SeqAt.list_countAt b d.toArray n Y #[] u (ı y)) ⟨e,λt o=>gZ k r f g t (by simpa using o),⟨.int (i.countP (λv=>ĳ v y):Nat),H,I.tok _,⟨s.toks,?_⟩,q⟩⟩;have:=ni (y:=y) f g;rw[VE,this]
theorem Dr{K:d_}{H:Hp}{x:N}{u:V}(q:Ó K H x u)(e:iy x=U):∀{b:List N}{a:List V},O K H b a->b.all iy=U->a.countP (λv=>ĳ v u)=b.countP λy=>ű y x|[],a,r,_=>by cases(show a=[]from r);rfl|y::g,a,r,f=>by obtain⟨v,j,rfl,i,h⟩:∃v d,a=v::d/\Ó K H y v/\O K H g d:=r;rw[SU,p_]at f;rw[Vh,Vh,Dr q e h f.2,xi i q f.1 e]
theorem A0(ho:FE a P y)(ha:FA a (g::t) ε)(i:Rx P "count" a.env (eval P a.env)=eval P a.env:=by lk)(p:((O_ w (k_ (g::t) a.env)).all (λx=>!x.1)&&(RM w (Rc [] a.env)).all (λx=>x.1.isSome)&&A_ ((g::t).length+([]:List SI).length+(if([]:List SI).isEmpty then 0 else 1)<30))=U:=by lk)(h:(o.endLine==w.line)=U:=by lk)(hs:k_ (g::t) a.env=(L,eval g a.env)::k_ t a.env:=by lk)(f:(O_ w (k_ t a.env)).any (·.1)=L:=by lk):FE a (.Call (.Attribute P "count" o) (g::t) [] w) (ZD Mq y ε):=dg (wQ SE Wx PySem.F.type_list_count xA ho.h ha.h i p h hs f) λσ H Q q E P=>⟨q,E,ê.bind P λd v H1 e1 rd u=>by
 cases d<;>try exact(show False from u).elim
 rename_i ds;obtain⟨e,r,rfl,A,z⟩:=rd.lstE;refine⟨.inl ⟨rfl,r,ô.of A⟩,q,E.mono e1,ä.bind u λt ws H2 I rs j=>?_⟩;unfold Mq at j;split at j
 · rename_i x;split at j;·rename_i k;rw[p_,p_]at k;obtain⟨b,rfl,m⟩:=dq rs;have n:=O.mono I _ _ z;refine⟨e,r,b,rfl,rfl,I _ _ A,oq m k.1.1,lg n k.1.2,by rw[z.length];exact of_decide_eq_true k.2,?_⟩;rw[Dr m k.1.1 n k.1.2];exact j _ H2 (.refl H2) rfl
   ·exact j.elim
 ·exact j.elim⟩
noncomputable def xiB(K:d_)(C:B):Bool:=findIn K (.ref C) "__getattribute__"==Z (Z (.builtin "BaseException.__getattribute__"))&&findIn K (.ref C) "__getattr__"==Z Y&&findIn K (.ref C) "__class__"==Z (Z (.builtin "object.__class__"))&&specialIn K (.builtin "object.__class__") "__get__"==Z (Z (.builtin "getset_descriptor.__get__"))&&takesIn K (.builtin "object.__class__")==Z U&&mroIn K C (.type "object")==Z U&&mroIn K C (.type "BaseException")==Z U
theorem Nz(h:xiB u e=U):XI u e:=by unfold xiB at h;simp only[p_,beq_iff_eq]at h;exact⟨h.1.1.1.1.1.1,h.1.1.1.1.1.2,h.1.1.1.1.2,h.1.1.1.2,h.1.1.2,h.1.2,h.2⟩
structure Ŭ(K:d_)(m:Nat)(cls:Nat->B)(CJ:B):Prop where at_:∀c,c<m->nsIn K z_ (ğ c)=Z (Z (.ref (cls c)))/\excIn K (cls c) ņ "ValueError.__new__"=U/\XI K (cls c)/\mroIn K (cls c) (.ref CJ)=Z U/\kitOne K (.ref (cls c)) (.type "ValueError")=Z U/\∀d,d<m->kitOne K (.ref (cls c)) (.ref (cls d))=Z (c==d)exJ:excIn K CJ ņ "ValueError.__new__"=U
section
variable{K:d_}{m:Nat}{cls:Nat->B}{CJ:B}(x:Ŭ K m cls CJ)
include x
theorem Ŭ.xc(c:Nat)(h:c<m):XC K c (cls c):=⟨(x.at_ c h).1,(x.at_ c h).2.1⟩
theorem Ŭ.same{c:Nat}{C:B}(h:c<m)(q:nsIn K z_ (ğ c)=Z (Z (.ref C))):C=cls c:=by have z:=(x.at_ c h).1;rw[q]at z;cases z;rfl
theorem Ŭ.xk:∀c C,c<m->nsIn K z_ (ğ c)=Z (Z (.ref C))->excIn K C ņ "ValueError.__new__"=U/\mroIn K C (.ref CJ)=Z U:=λc C h q=>by rw[x.same h q];exact⟨(x.at_ c h).2.1,(x.at_ c h).2.2.2.1⟩
end
noncomputable def lR:Str->Ï|x,[.str y]=>if x.length<=100000 then Z (.ok (.str (Sy x y)))else Y|_,_=>Y
def Ds:V->List V->Hp->VK->Prop:=λx a H Q=>∃i j,x=.str i/\a=[.str j]/\i.length<=sizeLine/\Q (.str (Sy i j)) H
theorem Ba:Ķ a "str.strip" Ds:=by intro r s g H x m v n Q I b e h;obtain⟨i,j,rfl,rfl,f,q⟩:=h;obtain⟨t,rfl⟩:=b;obtain⟨u,rfl,d⟩:=eQ e;obtain⟨p,rfl⟩:=d;exact SC.stripChars (λo k=>⟨.str _,H,I.tok k,⟨_,rfl⟩,q⟩) f
theorem ET(i:Str)(e:List N)(d:List V)(H:Hp)(Q:VK)(f:O a.K H e d)(o:ê a H (lR i e) Q):Ds (.str i) d H Q:=by
 unfold lR at o;split at o
 · rename_i j;split at o;·rename_i g;obtain⟨w,rfl,b⟩:=dq f;cases(show w=.str j from b);exact⟨i,j,rfl,rfl,cT g,o _ H (.refl H) rfl⟩
   ·exact o.elim
 ·exact o.elim
def cK(x y:N):Option (Rs N):=match x,y with|.tup a,.tup b=>if a.length+b.length<=100000 then Z (.ok (.tup (a++b)))else Y|x,y=>cR x y
theorem Bb(u:Zd f.heap e #[])(w:Zd f.heap v ξ.toArray)(y:Å (.ref v) f):uk (x_ p m) E (Tc .Add (.ref e) (.ref v)) Å ο f:=by obtain⟨⟨A,z,o,r⟩,i,k,n,j⟩:=id u;obtain⟨⟨q,h,data2,g⟩,a,d,t,b⟩:=id w;simp only at k j d b;subst k j d b;exact Yd ⟨_,i,rfl⟩ ⟨_,a,rfl⟩ Wp XY UV UJ (Uv _ _) (tuple_addW0 e v #[] ξ.toArray n t z h r g (by simp)) ⟨i,a,y⟩
noncomputable def Dt(K:d_):R2:=λx y H Q=>∃a b d,x=.ref a/\y=.ref b/\ü K H a []/\ü K H b d/\Q (.ref b) H
theorem Bc:û a (Tc .Add) (Dt a.K):=by intro w s p H x y v u Q I g f h;obtain⟨d,b,r,rfl,rfl,n,m,q⟩:=h;cases g;cases f;obtain⟨o,i,k,_⟩:=I.tuple n;obtain⟨e,t,j,_⟩:=I.tuple m;cases i;exact Bb k j ⟨.ref b,H,I,rfl,q⟩
def JK(X:C):R2:=λx y H Q=>Et x y H Q\/(Ir X.K x y H Q\/Dt X.K x y H Q)
theorem JL:û a (Tc .Add) (JK a):=Ÿ.or (op_catT.or Bc)
variable{j δ:N}
theorem xB(h:∀a b,¬(j=.tup a/\δ=.tup b)):cK j δ=cR j δ:=by
 unfold cK;split;·rename_i a b;exact absurd ⟨rfl,rfl⟩ (h a b)
 ·rfl
theorem JM:Ħ a (JK a) cK:=by
 intro z w x y H Q t r o;by_cases v:∃d b,z=.tup d/\w=.tup b
 · obtain⟨d,b,rfl,rfl⟩:=v;have e:ê a H (if d.length+b.length<=100000 then Z (.ok (.tup (d++b)))else Y) Q:=o;split at e;·rename_i i;obtain⟨p,k,rfl,q,g⟩:=t.tupE;obtain⟨m,j,rfl,n,f⟩:=r.tupE;cases k with
   |nil=>
   have I:d=[]:=by have:=g.length;exact Sf.mp this.symm
   subst I;exact .inr (.inr ⟨p,m,j,rfl,rfl,ü.of q,ü.of n,e _ H (.refl H) ⟨m,j,rfl,n,by simpa using f⟩⟩)|cons A k=>refine .inr (.inl ⟨p,m,A::k,j,rfl,rfl,ü.of q,ü.of n,by simp,by rw[g.length,f.length];exact cT i,λu=>?_,λu l i=>e _ _ (aD i _) ⟨l,_,rfl,aw,O.mono (aD i _) _ _ (g.append f)⟩⟩);subst u;have E:b=[]:=Sf.mp f.length.symm;subst E;exact e _ H (.refl H) ⟨p,_,rfl,q,by simpa using g⟩
   ·exact e.elim
 ·rw[xB (λd b h=>v ⟨d,b,h⟩)]at o;exact .inl (IW z w x y H Q t r o)
theorem jF{j:D}(a:Zd f.heap e Δ)(n:f.heap.IsSliceOf v Ε j .none)(q:WO Ε Η)(o:WO j Ρ)(k:HT.sIx Δ.size 0 Η=0/\HT.sIx Δ.size Δ.size Ρ=Δ.size)(h:Å (.ref e) f):uk (x_ p m) E (WI (.ref e) (.ref v)) Å ο f:=by
 obtain⟨os,d,g,r⟩:=id n;have i:f.TypeIs (.ref v) "slice":=⟨os,d,g⟩;unfold WI;try with_reducible refine Rv ?_
 first|refine e_ (m_ ?_)|skip
 refine e_ (wpAny_sequenceKey a.typeIs (by decide) ?_);refine e_ (Rf (name:=b_ "__getitem__") a.typeIs RA (Ro RA a.typeIs entry_tuple_getitem ?_ (args_tuple_getitem _ _)));show uk _ _ (VY (.ref e)>>=_) _ _ f;refine e_ (tupleItemsOf_ a ?_);refine e_ (Ul i ?_);rw[if_pos (by decide)];refine e_ (HT.sliceApplied_gen n q o ?_);have b:(((HT.sIx Δ.size 0 Η:Nat):Int)==0&&(1:Int)==1&&(HT.sIx Δ.size Δ.size Ρ-HT.sIx Δ.size 0 Η)==Δ.size)=U:=by rw[k.1,k.2];simp
 show uk _ _ (if(((HT.sIx Δ.size 0 Η:Nat):Int)==0&&(1:Int)==1&&(HT.sIx Δ.size Δ.size Ρ-HT.sIx Δ.size 0 Η)==Δ.size)=U then _ else _) _ _ f;rw[if_pos b];refine e_ (e_ (Ul a.typeIs (m_ ?_)));rw[if_pos (by decide)];exact e_ (TC (m_ ⟨_,rfl,m_ h⟩))
def P7(K:d_):V->Option Int->Option Int->Hp->VK->Prop:=λx lo d H Q=>∃a b,x=.ref a/\ü K H a b/\(HT.sIx b.length 0 lo=0/\HT.sIx b.length b.length d=b.length)/\Q (.ref a) H
theorem Bd:Ŧ a (P7 a.K):=by
 intro y s p H x v u t lo A w Q I i o k j h;obtain⟨b,g,rfl,m,n,q⟩:=h;cases i;obtain⟨e,r,f,z⟩:=I.tuple m;have d:e.toArray.size=g.length:=by rw[E_];exact r.length.symm
 refine⟨"tuple",_,RA.lookup,f.typeIs,?_⟩;exact jF f o k j (by rw[d];exact n) ⟨.ref b,H,I,rfl,q⟩
def O8(x:N)(a b:Option Int):Option (Rs N):=match x with|.tup d=>Z (.ok (.tup (AH d a b)))|x=>Mj x a b
def ju(f:Ò)(d e:ž):Ò:=λa=>Ù (f a) λx=>Ù (d a) λlo=>Ù (e a) λb=>O8 x lo b
theorem vt{a:List υ}(h:HT.sIx a.length 0 Η=0/\HT.sIx a.length a.length Ρ=a.length):AH a Η Ρ=a:=by unfold AH;rw[h.1,h.2];simp
variable{y:Ò}
theorem EU{A I:Option u_}{P fh:ž}(ha:FE a g y)(hl:FO a A P)(hh:FO a I fh):FE a (.Subscript g (.Slice A I Y o) w) (ju y P fh):=dg (ub ((Ŗ.or wO).or (sl_tup.or Bd)) ha.h hl.h hh.h) λσ H Q q E b=>⟨q,E,ê.bind b λd v H1 e1 r1 o1=>⟨q,E.mono e1,jX o1 λl H2 e2 o2=>⟨q,(E.mono e1).mono e2,jX o2 λu n e3 f=>by
 have r:=Ó.mono e3 d v (Ó.mono e2 d v r1);cases d<;>try exact(show False from f).elim
 · rename_i z;unfold O8 Mj at f;dsimp only at f;split at f;·rename_i hz;exact .inl (.inl ⟨z,r,cT hz,f _ n (.refl n) rfl⟩)
   ·exact f.elim
 · rename_i ds;obtain⟨k,e,rfl,j,h⟩:=r.tupE;have m:=h.length;by_cases t:HT.sIx e.length 0 l=0/\HT.sIx e.length e.length u=e.length;·refine .inr (.inr ⟨k,e,rfl,ü.of j,t,f _ n (.refl n) ⟨k,e,rfl,j,?_⟩⟩);rw[vt (by rw[<-m];exact t)];exact h
   ·refine .inr (.inl ⟨k,e,rfl,ü.of j,t,λp i=>f _ _ (aD i _) ⟨p,_,rfl,aw,O.mono (aD i _) _ _ ?_⟩⟩);unfold AA AH;rw[h.length];exact(h.drop _).take _
 ·rename_i ds;obtain⟨k,e,rfl,j,h⟩:=r.lstE;refine .inl (.inr ⟨k,e,rfl,ô.of j,λp i=>f _ _ (aD i _) ⟨p,_,rfl,aw,O.mono (aD i _) _ _ ?_⟩⟩);unfold AA AH;rw[h.length];exact(h.drop _).take _⟩⟩⟩
theorem O.reverse{K:d_}{H:Hp}:∀{b:List N}{a:List V},O K H b a->O K H b.reverse a.reverse|[],a,r=>by cases(show a=[]from r);exact r|d::b,a,r=>by obtain⟨v,e,rfl,g,f⟩:∃v e,a=v::e/\Ó K H d v/\O K H b e:=r;rw[Tf,Tf];exact(O.reverse f).append ⟨v,[],rfl,g,rfl⟩
theorem Ð.reverse:∀{a:List V}{b:List D},Ð a b->Ð a.reverse b.reverse|_,_,.nil=>.nil|x::a,u::b,.cons r t=>by rw[Tf,Tf];exact(Ð.reverse t).append (.cons r .nil)
noncomputable def Be:Ï|[.lst a]=>Z (.ok (.lst a))|[.tup a]=>Z (.ok (.lst a))|_=>Y
def Ŵ(x:N)(a:List N):Option Bool:=if okP x&&A_ ((ei x).depth<=63)&&Sk (ç a)then Z ((ç a).any λy=>Rn y (ei x))else Y
def Mr(x y:N):Option Bool:=match Hv x y with|some b=>Z b|none=>match y with|.lst a=>Ŵ x a|.tup a=>Ŵ x a|_=>Y
def inX(x y:N):Option (Rs N):=match Mr x y with|some b=>Z (.ok (.bl b))|none=>Y
def jy(x y:N):Option (Rs N):=match Mr x y with|some b=>Z (.ok (.bl (!b)))|none=>Y
def O9(X:C)(d:Bool):R2:=λx y H Q=>∃e a b,Ó X.K H e x/\(Ó X.K H (.lst a) y\/Ó X.K H (.tup a) y)/\Ŵ e a=Z b/\Q (.bl (if d then !b else b)) H
theorem xD(A:a.A.units+64<cLine):û a (Rk .NotIn) (O9 a U):=by
 intro z s w H x y v u Q I p m h;obtain⟨f,d,b,r,e,g,q⟩:=h;unfold Ŵ at g;split at g
 · rename_i t;cases g;obtain⟨⟨k,E⟩,i⟩:(okP f=U/\(ei f).depth<=63)/\Sk (ç d)=U:=by simpa using t
   obtain⟨as,n⟩:=Ó.reads I f x v r p (Sg.mp k).1;have o:a.A.units+1+min (Uy (ç d)) (ei f).depth<cLine:=by have:=YE (Uy (ç d)) (ei f).depth;omega
   rcases e with e|e;·obtain⟨bs,j⟩:=Ó.reads I (.lst d) y u e m (by simpa[ei,QI]using i);exact SeqAt.notIn_list_reads j n i (Sg.mp k).1 o ⟨.bl _,H,I,rfl,q⟩
   ·obtain⟨bs,j⟩:=Ó.reads I (.tup d) y u e m (by simpa[ei,QI]using i);exact SeqAt.notIn_tuple_reads j n i (Sg.mp k).1 o ⟨.bl _,H,I,rfl,q⟩
 ·cases g
def xE(X:C):R2:=λx y H Q=>rT X.K x y H Q\/O9 X U x y H Q
theorem Bf(b:a.A.units+64<cLine):û a (Rk .NotIn) (xE a):=Ł.or (xD b)
theorem Bg:Ħ a (xE a) jy:=by intro e j x y H Q h g o;unfold jy Mr at o;match i:Hv e j with
 |some b=>rw[i]at o;exact .inl (xj e j x y H Q h g (by unfold pW;rw[i];exact o))|none=>
 rw[i]at o;cases j<;>try exact(show False from o).elim
 ·rename_i f;match d:Ŵ e f with|none=>simp only[d]at o;exact(show False from o).elim|some b=>simp only[d]at o;exact .inr ⟨e,f,b,h,.inr g,d,o _ H (.refl H) rfl⟩
 ·rename_i f;match d:Ŵ e f with|none=>simp only[d]at o;exact(show False from o).elim|some b=>simp only[d]at o;exact .inr ⟨e,f,b,h,.inl g,d,o _ H (.refl H) rfl⟩
noncomputable def JN:Str->Ï
 |x,[.str y]=>match Q_ x y 0 x.length 1 with|i::_=>Z (.ok (.int i))|[]=>Y
 |_,_=>Y
def Pb:V->List V->Hp->VK->Prop:=λx a H Q=>∃i j k l,x=.str i/\a=[.str j]/\Q_ i j 0 i.length 1=k::l/\Q (.int (k:Nat)) H
theorem JO:Ķ a "str.index" Pb:=by intro p s g H x m v n Q I b e h;obtain⟨i,j,k,l,rfl,rfl,f,q⟩:=h;obtain⟨t,rfl⟩:=b;obtain⟨u,rfl,d⟩:=eQ e;obtain⟨o,rfl⟩:=d;exact SC.index f ⟨.int _,H,I.tok _,⟨_,rfl⟩,q⟩
theorem NA(i:Str)(f:List N)(e:List V)(H:Hp)(Q:VK)(g:O a.K H f e)(o:ê a H (JN i f) Q):Pb (.str i) e H Q:=by
 unfold JN at o;split at o
 ·rename_i j;obtain⟨w,rfl,d⟩:=dq g;cases(show w=.str j from d);match b:Q_ i j 0 i.length 1 with|[]=>rw[b]at o;exact o.elim|k::l=>rw[b]at o;exact⟨i,j,k,l,rfl,rfl,b,o _ H (.refl H) rfl⟩
 ·exact o.elim
abbrev EV(a:List D)(n:Nat):Obj:={cls:=.type "list",data:=.seq a.toArray n}
variable{Λ:L2.St}
theorem Ì.untrack(I:Ì a ζ Λ (Ý h e (.lst μ)) f)(ha:h e=Y)(y:a.ex=[]):∃j n,Ð μ j/\μ.length<=sizeLine/\(∀o,a.s₀.heap.get? e=Z o->a.H₀ e≠Y)/\(∀p∈a.pn++ζ,p.1≠e)/\Ì a (ζ++[(e,EV j n)]) Λ h f:=by
 obtain⟨z,j,n,rv,hl,d⟩:=I.lstM (l:=e) (xs:=μ) aw;have hb:∀b u,h b=Z u->b≠e:=λb u q=>au q ha;have g:∀b,Ý h e (.lst μ) b=Y->h b=Y:=λb q=>by
  by_cases i:b=e;·rw[i];exact ha
  ·rw[ay i]at q;exact q
 have t:∀b u,Ý h e (.lst μ) b=Z u->(∀H,u≠.lst H)->h b=Z u:=λb u q hu=>by
  by_cases i:b=e;·rw[i,aw]at q;exact absurd (Q4 q).symm (hu μ)
  ·rw[ay i]at q;exact q
 have a':e∉a.fs:=λhm=>by obtain⟨_,o,r,_⟩:=I.ok.funs.mem hm;have:=I.base.free e o r (I.ok.frf e hm) (by rw[y];simp);rw[aw]at this;cases this
 have A:∀p∈a.pn++ζ,p.1≠e:=λp hp w=>by have:=(I.pin p hp).2.1;rw[w,aw]at this;cases this
 refine⟨j,n,rv,z,λo r h0=>?_,A,⟨I.ok,I.os,I.bare,⟨I.base.keep,I.base.slot,λb o q n hx=>g b (I.base.free b o q n hx),I.base.there,λb H q=>t b _ (I.base.tups b H q) (λ_ w=>by cases w),λb o u q=>t b _ (I.base.frzs b o u q) (λ_ w=>by cases w),λb ps q=>?_⟩,I.loc,I.cell,g _ I.free,λx c q=>g _ (I.freeC x c q),λp hp=>?_,λb u q=>?_,I.len⟩⟩;·have:=I.base.free e o r h0 (by rw[y];simp);rw[aw]at this;cases this
 ·obtain⟨E,q'⟩:=I.base.tbls b ps q;exact⟨E,t b _ q' (λ_ w=>by cases w)⟩
 · rcases QS.mp hp with k|k;·obtain⟨q1,q2,P⟩:=I.pin p (G_ _ k);exact⟨q1,g _ q2,P⟩
   · rcases QS.mp k with k|k;·obtain⟨q1,q2,P⟩:=I.pin p (o_ _ k);exact⟨q1,g _ q2,P⟩
     ·simp only[QK]at k;subst k;refine⟨d,ha,λw=>?_,a',λv w=>by cases w⟩;obtain⟨m,⟨o,es,ep,r,hd,_⟩,_⟩:=I.loc;have w':e=a.env.locals:=w;rw[<-w',d]at r;cases r;cases hd
 · have hq:Ý h e (.lst μ) b=Z u:=by rw[ay (hb b u q)];exact q
   refine(I.hok b u hq).stay (λ_ _ _ w=>w) (λc w=>t c _ w (λ_ w=>by cases w)) (λc H w=>t c _ w (λ_ w=>by cases w)) λc _ _ w=>t c _ w (λ_ w=>by cases w)
theorem Ì.retrack(I:Ì a (ζ++[(e,EV ξ d)]) Λ h f)(A:Ð μ ξ)(hz:μ.length<=sizeLine)(h0:∀o,a.s₀.heap.get? e=Z o->a.H₀ e≠Y)(n:∀p∈a.pn++ζ,p.1≠e):h e=Y/\Ì a ζ Λ (Ý h e (.lst μ)) f:=by
 obtain⟨g,z,nL,nf,nc⟩:=I.pin (e,EV ξ d) (o_ _ (o_ _ (by simp)));have up:∀b u,h b=Z u->Ý h e (.lst μ) b=Z u:=λb u q=>by rw[ay (au q z)];exact q
 have lo:∀b,h b=Y->b≠e->Ý h e (.lst μ) b=Y:=λb q i=>by rw[ay i];exact q
 refine⟨z,⟨I.ok,I.os,I.bare,⟨I.base.keep,I.base.slot,λb o q d hx=>lo b (I.base.free b o q d hx) (λw=>h0 o (w▸q) (w▸d)),I.base.there,λb r q=>up b _ (I.base.tups b r q),λb o u q=>up b _ (I.base.frzs b o u q),λb ps q=>?_⟩,I.loc,I.cell,lo _ I.free (SM nL),λx c q=>lo _ (I.freeC x c q) (λw=>?_),λp t=>?_,λb u q=>?_,I.len⟩⟩;·obtain⟨j,q'⟩:=I.base.tbls b ps q;exact⟨j,up b _ q'⟩
 ·obtain⟨v,o,k,hd⟩:=I.cell x c q;rw[w]at k;have e':f.heap.get? e=Z (EV ξ d):=g;rw[e']at k;cases k;cases hd
 ·obtain⟨P,H,E⟩:=I.pin p (by
   rcases QS.mp t with m|m;·exact G_ _ m
   ·exact o_ _ (G_ _ m));exact⟨P,lo _ H (n p t),E⟩
 · by_cases y:b=e;·subst y;rw[aw]at q;cases q;exact⟨hz,ξ,d,A,g⟩
   ·rw[ay y]at q;exact(I.hok b u q).stay (λ_ _ _ w=>w) (λc w=>up c _ w) (λc r w=>up c _ w) λc _ _ w=>up c _ w
def NB(t:TE):TE:=λe f Q=>∃H a b,f=Ý H a (.lst b)/\H a=Y/\t e H λv d=>d a=Y->Q v (Ý d a (.lst b))
def NC(t:TT):TT:=λe f Q=>∃H a b,f=Ý H a (.lst b)/\H a=Y/\t e H λv d=>d a=Y->Q v (Ý d a (.lst b))
def ND(t:TA):TA:=λe f Q=>∃H a b,f=Ý H a (.lst b)/\H a=Y/\t e H λv d=>d a=Y->Q v (Ý d a (.lst b))
def NE(t:TI):TI:=λe f Q=>∃H a b,f=Ý H a (.lst b)/\H a=Y/\t e H λv d=>d a=Y->Q v (Ý d a (.lst b))
theorem rY(d:a.ex=[]){t:TE}(h:PE a g t):PE a g (NB t):=by intro j' s f Hf Q I⟨H,b,P,w,o,q⟩;subst w;obtain⟨E,n,i,k,p,m,A⟩:=Ì.untrack I o d;refine â (h _ s f H _ A q) λu s'⟨v,H',z,r,j⟩=>?_;obtain⟨e,y⟩:=Ì.retrack z i k p m;exact⟨v,_,y,r,j e⟩
theorem EW(d:a.ex=[]){t:TT}(h:PT a g t):PT a g (NC t):=by intro P s f Hf Q I⟨H,b,A,r,o,q⟩;subst r;obtain⟨z,n,i,k,p,m,y⟩:=Ì.untrack I o d;refine â (h _ s f H _ y q) λu E⟨H',w,j⟩=>?_;obtain⟨e,v⟩:=Ì.retrack w i k p m;exact⟨_,v,j e⟩
theorem EY(e:a.ex=[]){b:TA}(h:PA a t b):PA a t (ND b):=by intro pos j' s g Hf Q I⟨H,d,P,w,o,q⟩;subst w;obtain⟨E,n,i,k,p,m,A⟩:=Ì.untrack I o e;refine â (h pos _ s g H _ A q) λu s'⟨v,H',z,r,j⟩=>?_;obtain⟨f,y⟩:=Ì.retrack z i k p m;exact⟨v,_,y,r,j f⟩
theorem EZ(j:a.ex=[]){r:u_}{t:TI}(h:PI a r g t):PI a r g (NE t):=by
 intro j' s y Hf R I⟨H,d,xs,e1,ha,q⟩;subst e1;obtain⟨e,n,E,hz,h0,hp,I'⟩:=Ì.untrack I ha j;refine â (h _ s y H _ I' q) λu s1 f=>â f λa' s2⟨it,fp,z,J,H',e2,I2,T,A,o,P⟩=>?_;obtain⟨m,I3⟩:=Ì.retrack I2 E hz h0 hp;refine⟨it,fp,z,J,_,e2,I3,T,A,λb hb=>?_,P m⟩;obtain⟨g0,g1,g2,g3,g4,v⟩:=o b hb;have k:b≠d:=λw=>v (d,EV e n) (o_ _ (o_ _ (by simp))) w.symm;refine⟨by rw[ay k];exact g0,g1,g2,g3,g4,λp i=>v p ?_⟩;rcases QS.mp i with w|w;·exact G_ _ w
 ·exact o_ _ (G_ _ w)
mutual
def ĝ:N->Bool|.non=>U|.bl _=>U|.int _=>U|.str _=>U|.tup a=>æ a|.lst _=>L|.scr _=>L|.exn _=>L|.obj _ _=>L
def æ:List N->Bool|[]=>U|d::a=>ĝ d&&æ a
end
mutual
theorem Ó.tups{K:d_}{H j:Hp}(k:∀b f,H b=Z (.tup f)->j b=Z (.tup f)):∀(d:N)(v:V),ĝ d=U->Ó K H d v->Ó K j d v|.non,_,_,h=>h|.bl _,_,_,h=>h|.int _,_,_,h=>h|.str _,_,_,h=>h|.tup e,v,i,h=>by obtain⟨a,n,r,h,q⟩:=h.tupE;exact⟨a,n,r,k _ _ h,O.tups k e n (by simpa[ĝ]using i) q⟩|.lst _,_,i,_=>by simp[ĝ]at i|.scr _,_,i,_=>by simp[ĝ]at i|.exn _,_,i,_=>by simp[ĝ]at i|.obj _ _,_,i,_=>by simp[ĝ]at i
theorem O.tups{K:d_}{H j:Hp}(k:∀b f,H b=Z (.tup f)->j b=Z (.tup f)):∀(e:List N)(m:List V),æ e=U->O K H e m->O K j e m
 |[],_,_,h=>h|d::e,m,i,h=>by
  obtain⟨v,g,r,h,q⟩:∃v g,m=v::g/\Ó K H d v/\O K H e g:=h;have o:ĝ d=U/\æ e=U:=by simpa[æ]using i
  exact⟨v,g,r,Ó.tups k d v o.1 h,O.tups k e g o.2 q⟩end
inductive Fo where|nx(ρ:Ev)(ds:List N)|rt(d:N)
abbrev j4:=Ev->List N->Option Fo
def ď(X:C)(i:Nat)(a:B)(H:Hp)(o:Option Fo)(D:mI):Prop:=match o with|none=>False|some (.rt d)=>∀v b,Í H b->Ó X.K b d v->D.rt v b|some (.nx g h)=>∀e b f,Í H b->b a=Y->e[i]?=Z (Z (.ref a))->Ú X.K b e g->O X.K b h f->D.nx e (Ý b a (.lst f))
theorem ď.mono{D:mI}(f:Í h Ζ):∀{o:Option Fo},ď a d e h o D->ď a d e Ζ o D|none,b=>b|some (.rt _),b=>λv i g r=>b v i (f.trans g) r|some (.nx _ _),b=>λj i k g=>b j i k (f.trans g)
def tO(X:C)(i:Nat)(f:j4):TS:=λD b h=>∃H a e d g,h=Ý H a (.lst e)/\H a=Y/\b[i]?=Z (Z (.ref a))/\Ú X.K H b d/\O X.K H g e/\ď X i a H (f d g) D
structure Ŏ(X:C)(i:Nat)(st:Re)(f:j4):Prop where h:PS X st (tO X i f)
structure Ō(X:C)(i:Nat)(st:List Re)(f:j4):Prop where h:ķ X st (tO X i f)
def vv(o:Option (Rs υ))(k:υ->Option Fo):Option Fo:=match o with|some (.ok a)=>k a|_=>Y
noncomputable def Hx:j4:=λa b=>Z (.nx a b)
noncomputable def fw(f g:j4):j4:=λd e=>match f d e with|some (.nx a b)=>g a b|o=>o
noncomputable def fY(j:Nat)(f:Ò):j4:=λa b=>vv (f a) λd=>Z (.nx (a.set j (Z d)) b)
noncomputable def ZL(c:ã)(f g:j4):j4:=λa b=>vv (c a) λk=>if k then f a b else g a b
noncomputable def Fa(i:Nat)(c:ã)(f g:j4):j4:=λa b=>vv (c (a.set i (Z (.lst b)))) λk=>if k then f a b else g a b
noncomputable def xF(i:Nat)(f:Ò):j4:=λa b=>vv (f (a.set i (Z (.lst b)))) λd=>Z (.rt d)
noncomputable def Bh(f:Ò):j4:=λa b=>if b.length<100000 then vv (f a) λd=>Z (.nx a (b++[d]))else Y
theorem xG(g:h e=Y)(a:Í (Ý h e (.lst μ)) Ζ):∃f,Ζ=Ý f e (.lst μ)/\f e=Y/\Í h f:=by
 refine⟨λb=>if b=e then Y else Ζ b,?_,by simp,λb u q=>?_⟩
 · funext b;by_cases d:b=e;·subst d;rw[aw];exact a b _ aw
   ·rw[ay d];simp[d]
 ·have d:b≠e:=au q g;simp only[d,if_false];exact a b u (by rw[ay d];exact q)
theorem iG(a:h e=Y):Í h (Ý h e (.lst μ)):=aD a _
variable{H:Ev}{q:List N}
theorem lS(i:h e=Y)(n:Λ[d]?=Z (Z (.ref e)))(E:Ú a.K h Λ H)(r:O a.K h q μ):Ú a.K (Ý h e (.lst μ)) Λ (H.set d (Z (.lst q))):=by
 have k:=E.mono (iG (μ:=μ) i);refine⟨by rw[Q5];exact k.len,λj b f=>?_⟩;by_cases g:d=j
 · subst g;by_cases m:d<H.length;·rw[QH m]at f;cases f;exact⟨.ref e,n,e,μ,rfl,aw,O.mono (iG i) _ _ r⟩
   ·rw[RW (by rw[Q5];omega)]at f;cases f
 ·rw[I_ g]at f;exact k.at' j b f
theorem Fb:Ō a d [] Hx:=⟨λg s e n D I⟨H,b,f,k,m,j,i,h,E,r,o⟩=>by subst j;exact lB g s e _ D I (o e H f (.refl H) i h E r)⟩
theorem Bi{f g:j4}(P:Ŏ a d τ f)(A:Ō a d Ξ g):Ō a d (τ::Ξ) (fw f g):=⟨λw s t Hf D I⟨H,b,u,p,q,e1,z,y,E,r,o⟩=>by refine cL P.h A.h w s t Hf D I ⟨H,b,u,p,q,e1,z,y,E,r,?_⟩;unfold fw at o;match h:f p q with|none=>rw[h]at o;exact o.elim|some (.rt e)=>rw[h]at o;exact o|some (.nx i n)=>rw[h]at o;exactλa' H' j e' m k E' v=>⟨H',b,j,i,n,rfl,m,k,E',v,ď.mono e' o⟩⟩
theorem Fc{f:j4}(b:Ŏ a d τ f):Ō a d [τ] f:=⟨ku b.h⟩
theorem JP(p:a.ex=[])(j:Nat)(m:d≠j){x:Str}{h:Pos}(hN:a.N.Nodup)(hi:a.N[j]?=Z x)(A:Ļ a.env.scope x)(he:FE a g y)(P:Q8 g (Z (.Name x h)) o.line a.env=pure L:=by lk)(hf:a.fn x=U\/a.env.scope.names.lookup x=Z .local:=by first|exact .inl rfl|exact .inr rfl|assumption):Ŏ a d (.Assign [.Name x h] g o) (fY j y):=⟨λz s w Hf D I⟨H,e,u,t,ds,e1,ha,n,E,r,b⟩=>by refine mY hN hi A (rY p he.h) P hf z s w Hf D I ⟨H,e,u,e1,ha,t,E,?_⟩;unfold fY at b;match i:y t with|none=>rw[i]at b;exact b.elim|some (.exc _)=>rw[i]at b;exact b.elim|some (.ok f)=>rw[i]at b;exactλv H' k rd q=>b _ H' u k q (by rw[I_ (SM m)];exact n) ((E.mono k).set rd) (O.mono k _ _ r)⟩
variable{Μ:ã}
theorem NF{f h:j4}(t:a.ex=[]){y w:List Re}(P:FT a g Μ)(ha:Ō a d y f)(hb:Ō a d w h):Ŏ a d (.If g y w o) (ZL Μ f h):=⟨λA s z Hf D I⟨H,e,n,k,v,e1,u,j,E,r,b⟩=>by refine wp (EW t P.h) ha.h hb.h A s z Hf D I ⟨H,e,n,e1,u,k,E,?_⟩;unfold ZL at b;match m:Μ k with|none=>rw[m]at b;exact b.elim|some (.exc _)=>rw[m]at b;exact b.elim|some (.ok U)=>rw[m]at b;exactλq i p=>wU ⟨q,e,n,k,v,rfl,p,j,E.mono i,O.mono i _ _ r,ď.mono i b⟩|some (.ok L)=>rw[m]at b;exactλq i p=>wT ⟨q,e,n,k,v,rfl,p,j,E.mono i,O.mono i _ _ r,ď.mono i b⟩⟩
theorem JQ{f e:j4}{y:List Re}(P:FT a g Μ)(ha:Ō a d Ξ f)(hb:Ō a d y e):Ŏ a d (.If g Ξ y o) (Fa d Μ f e):=⟨λA s z Hf D I⟨H,h,w,n,u,e1,k,j,E,r,b⟩=>by subst e1;refine wp P.h ha.h hb.h A s z _ D I ⟨_,lS k j E r,?_⟩;unfold Fa at b;match m:Μ (n.set d (Z (.lst u)))with|none=>rw[m]at b;exact b.elim|some (.exc _)=>rw[m]at b;exact b.elim|some (.ok U)=>rw[m]at b;intro H2 t;obtain⟨v,q,p,i⟩:=xG k t;exact wU ⟨v,h,w,n,u,q,p,j,E.mono i,O.mono i _ _ r,ď.mono i b⟩|some (.ok L)=>rw[m]at b;intro H2 t;obtain⟨v,q,p,i⟩:=xG k t;exact wT ⟨v,h,w,n,u,q,p,j,E.mono i,O.mono i _ _ r,ď.mono i b⟩⟩
theorem JR(p:FE a g y):Ŏ a d (.Return (Z g) o) (xF d y):=⟨λn s k A D I⟨H,f,z,m,u,t,h,j,E,r,b⟩=>by subst t;refine pJ p.h n s k _ D I ⟨_,lS h j E r,?_⟩;unfold xF at b;match i:y (m.set d (Z (.lst u)))with|none=>rw[i]at b;exact b.elim|some (.exc _)=>rw[i]at b;exact b.elim|some (.ok e)=>rw[i]at b;exactλv w q rd=>b v w ((iG h).trans q) rd⟩
theorem JU(P:a.ex=[]){x:Str}{i h:Pos}(hx:PE a (.Name x i) (mJ d))(he:FE a g y)(n:Rx (.Name x i) "append" a.env (eval (.Name x i) a.env)=eval (.Name x i) a.env:=by lk)(t:((O_ h (k_ [g] a.env)).all (λx=>!x.1)&&(RM h (Rc [] a.env)).all (λx=>x.1.isSome)&&A_ ([g].length+([]:List SI).length+(if([]:List SI).isEmpty then 0 else 1)<30))=U:=by lk){z:Pos}(m:(z.endLine==h.line)=U:=by lk)(hs:k_ [g] a.env=(L,eval g a.env)::k_ [] a.env:=by lk)(k:(O_ h (k_ [] a.env)).any (·.1)=L:=by lk)(A:Q8 (.Call (.Attribute (.Name x i) "append" z) [g] [] h) Y o.line a.env=pure L:=by lk):Ŏ a d (.Expr (.Call (.Attribute (.Name x i) "append" z) [g] [] h) o) (Bh y):=⟨λj' s σ Hf D I⟨H,e,p,u,ds,e1,b',q,E,r,b⟩=>by
 refine lC (wQ SE TY Wh pS hx (EY P (rR he wX hs).h) n t m hs k) A j' s σ Hf D I ?_;unfold Bh at b;split at b
 ·rename_i hl;match j:y u with
  |none=>rw[j]at b;exact b.elim|some (.exc _)=>rw[j]at b;exact b.elim|some (.ok f)=>
  rw[j]at b;refine⟨.ref e,q,.inl ⟨rfl,p,ô.of (by rw[e1];exact aw)⟩,H,e,p,e1,b',u,E,?_⟩;show ä a H (aK y cM u) _;rw[ac j aj];intro vs H' w rs a';obtain⟨v,rfl,rv⟩:=dq rs;have hz:p.length<sizeLine:=by have:=r.length;have h2:=cT (d:=p.length+1) (by omega);omega
  refine⟨e,p,v,rfl,rfl,aw,hz,?_⟩;rw[wg];exact b σ H' (p++[v]) w a' q (E.mono w) ((O.mono w _ _ r).append ⟨v,[],rfl,rv,rfl⟩)
 ·exact b.elim⟩
noncomputable def xH(i:Nat)(g:Û)(f:j4):Ö:=λe=>cu (g e) λh=>if h.length<=100000 then(match f (e.set i Y) h with|some (.nx a b)=>Z (.nx (a.set i (Z (.lst b))))|some (.rt d)=>Z (.rt d)|none=>Y)else Y
variable{ε:Û}{ω:Pos}
theorem Fd{f:j4}(hN:a.N.Nodup)(hi:a.N[d]?=Z b)(hx:Ļ a.env.scope b)(hg:FA a t ε)(hr:Ō a d Ξ f)(hs:Q8 (.List t w) (Z (.Name b ω)) o.line a.env=pure L:=by lk)(hf:a.fn b=U\/a.env.scope.names.lookup b=Z .local:=by first|exact .inl rfl|exact .inr rfl|assumption):ć a (.Assign [.Name b ω] (.List t w) o::Ξ) (xH d ε f):=⟨λj' s σ H D I⟨m,E,e⟩=>by refine cL (mY (d:=d) hN hi hx (C7 hg.h) hs hf) hr.h j' s σ H D I ⟨m,E,?_⟩;unfold xH at e;match i:ε m with
 |none=>rw[i]at e;exact e.elim|some (.exc _)=>rw[i]at e;exact e|some (.ok q)=>
 rw[i]at e;intro vs H1 e1 rs;have h:ï a H (if q.length<=100000 then(match f (m.set d Y) q with|some (.nx r z)=>Z (.nx (r.set d (Z (.lst z))))|some (.rt g)=>Z (.rt g)|none=>Y)else Y) D:=e;by_cases P:q.length<=100000
 · rw[if_pos P]at h;refine⟨by rw[rs.length];exact cT P,λp hp=>?_⟩;have c':d<σ.length:=by rw[I.len];exact(D_.mp hi).1
   refine⟨H1,p,vs,m.set d Y,q,rfl,hp,QH c',?_,rs,?_⟩
   · have E1:=(E.mono e1).fgt1 d;refine⟨by rw[Q5];exact E1.len,λj g n=>?_⟩;by_cases u:d=j
     · subst u;by_cases b':d<m.length;·rw[QH b']at n;cases n
       ·rw[RW (by rw[Q5];omega)]at n;cases n
     ·obtain⟨v,q1,q2⟩:=E1.at' j g n;exact⟨v,by rw[I_ u];exact q1,q2⟩
   ·match k:f (m.set d Y) q with|none=>rw[k]at h;exact h.elim|some (.rt g)=>rw[k]at h;exactλv H' e' A=>h v H' (e1.trans e') A|some (.nx r z)=>rw[k]at h;exactλa' H' f' e' y d' E' A=>h a' _ ((e1.trans e').trans (iG y)) (lS y d' E' A)
 ·rw[if_neg P]at h;exact h.elim⟩
def mM(j:Nat)(f:List Nat)(a:j4):List N->Ev->List N->Option Fo|[],b,e=>Z (.nx (fgt f b) e)|d::i,b,e=>match a ((fgt f b).set j (Z d)) e with|some (.nx g h)=>mM j f a i g h|o=>o
def xI(j:Nat)(g:List Nat)(b:Û)(a:j4):j4:=λd f=>vv (b d) λe=>if æ e=U then mM j g a e d f else Y
theorem lh:∀{a:List N}{n:Nat}{d:N},æ a=U->a[n]?=Z d->ĝ d=U
 |[],_,_,_,h=>by simp at h|e::a,0,d,i,h=>by
  have b:ĝ e=U/\æ a=U:=by simpa[æ]using i
  cases(show Z e=Z d from h);exact b.1|e::a,n+1,d,i,h=>by
  have b:ĝ e=U/\æ a=U:=by simpa[æ]using i
  exact lh b.2 (show a[n]?=Z d from h)
theorem Bj(i:ĝ j=U)(r:Ó u (Ý h e (.lst μ)) j Κ):Ó u h j Κ:=Ó.tups (λb d q=>by
 by_cases a:b=e;·rw[a,aw]at q;cases q
 ·rw[ay a]at q;exact q) j Κ i r
theorem JV{fb:j4}(s':a.ex=[])(j:Nat)(js:List Nat)(n':d≠j)(hp:UI (x_ a.prog a.w) a.A a.env a.xe)(hc:a.calm=U)(hi:FI a g P ε)(hg:PG a g (wt j))(hb:Ō a d Ξ fb)(hs:∀x,QT P a.env x=pure x:=by intro _;lk):Ŏ a d (.For g P Ξ [] o) (xI j js ε fb):=⟨λj' s σ Hf D I⟨H,b,xs,ρ,ds,e1,ha,p',E,r,e⟩=>by refine tY hp hc (EZ s' hi.h) hg hb.h hs j' s σ Hf D I ⟨H,b,xs,e1,ha,ρ,E,?_⟩;unfold xI at e;match hf:ε ρ with
 |none=>rw[hf]at e;exact e.elim|some (.exc _)=>rw[hf]at e;exact e.elim|some (.ok i)=>
 rw[hf]at e;have o0:ď a d b H (if æ i=U then mM j js fb i ρ ds else Y) D:=e;by_cases c':æ i=U
 · rw[if_pos c']at o0;intro J H1 e1 wk t';have o1:=ď.mono e1 o0;refine⟨λn m w i'=>m=i.length-n/\n<=i.length/\∃k h p t,i'=Ý k b (.lst h)/\k b=Y/\Í H1 k/\w[d]?=Z (Z (.ref b))/\Ú a.K k w p/\O a.K k t h/\ď a d b k (mM j js fb (i.drop n) p t) D,⟨i.length,by simp,QZ _,H1,xs,ρ,ds,rfl,t',.refl H1,p',E.mono e1,O.mono e1 _ _ r,by simpa using o1⟩,?_⟩;rintro n m w i'⟨rfl,hn,k,h,p,t,rfl,e',e2,a',E',r',u⟩;have f':Í H1 (Ý k b (.lst h)):=e2.trans (iG e');by_cases b':n<i.length;·refine .inr ⟨wk.go n _ f' b',λv h'=>∃H2 g' z A,h'=Ý H2 b (.lst g')/\H2 b=Y/\Í H1 H2/\v[d]?=Z (Z (.ref b))/\Ú a.K H2 v z/\O a.K H2 A g'/\ď a d b H2 (mM j js fb (i.drop (n+1)) z A) D,λv h' q=>⟨i.length-(n+1),by omega,rfl,b',q⟩,λx H2 y=>?_⟩;obtain⟨rfl,f,hd,rd⟩:=wk.yld n _ x H2 f' b' y;have l':=Bj (lh c' hd) rd;rw[jV hd]at u;show tO a d fb _ _ _;refine⟨k,b,h,(fgt js p).set j (Z f),t,rfl,e',by rw[I_ (SM n')];exact a',(Ú.fgt js E').set l',r',?_⟩;unfold mM at u;match d':fb ((fgt js p).set j (Z f)) t with|none=>rw[d']at u;exact u|some (.rt r)=>rw[d']at u;exact u|some (.nx z A)=>rw[d']at u;exactλv H3 k' e3 h3 q' E3 r3=>⟨H3,k',z,A,rfl,h3,e2.trans e3,q',E3,r3,ď.mono e3 u⟩
   · have m':n=i.length:=by omega
     subst m';rw[Vg]at u;exact .inl ⟨wk.stop _ f',u w k h (.refl k) e' a' (Ú.fgt js E') r'⟩
 ·rw[if_neg c']at o0;exact o0.elim⟩
noncomputable def oA:N->Bool|.bl _=>U|.int _=>U|_=>L
theorem Fe(K:d_)(d:N):Tt K (.type (S' d)) (.type "int")=Z (oA d):=by cases d<;>lk
theorem JW:R_ (b_ "int")=Z (.type "int"):=by lk
noncomputable def JX:Ï|[.int i,.int j]=>Z (.ok (.int (if j>i then j else i)))|_=>Y
noncomputable def Ms:Ï|[.int i,.int j]=>Z (.ok (.int (if j<i then j else i)))|_=>Y
noncomputable def NG:Ï|[.int i]=>if i.natAbs.log2<1920 then Z (.ok (.str (toString i)))else Y|_=>Y
theorem JY(y:a.calm=U)(q:Gl a "max")(p:a.mg "max"=Y)(z:FA a (g::t) ε)(u:k_ (g::t) a.env=(L,eval g a.env)::k_ t a.env:=by lk)(e:(O_ w (k_ t a.env)).any (·.1)=L:=by lk):FE a (.Call (.Name "max" o) (g::t) [] w) (ß JX ε):=dg (gY (wD y) q p Xd z.h (by decide) (by decide) u e) λA H Q h E b=>⟨h,E,ä.bind b λds I f P m d=>by
 unfold JX at d;split at d;·rename_i i j;obtain⟨v,k,rfl,r,n⟩:=AI m;cases(show v=.int i from r);cases(show k=.int j from n);exact⟨i,j,rfl,d _ f (.refl f) rfl⟩
 ·exact d.elim⟩
theorem JZ(y:a.calm=U)(q:Gl a "min")(p:a.mg "min"=Y)(z:FA a (g::t) ε)(u:k_ (g::t) a.env=(L,eval g a.env)::k_ t a.env:=by lk)(e:(O_ w (k_ t a.env)).any (·.1)=L:=by lk):FE a (.Call (.Name "min" o) (g::t) [] w) (ß Ms ε):=dg (gY (wE y) q p PyProof.Rows.boot_min z.h (by decide) (by decide) u e) λA H Q h E b=>⟨h,E,ä.bind b λds I f P m d=>by
 unfold Ms at d;split at d;·rename_i i j;obtain⟨v,k,rfl,r,n⟩:=AI m;cases(show v=.int i from r);cases(show k=.int j from n);exact⟨i,j,rfl,d _ f (.refl f) rfl⟩
 ·exact d.elim⟩
noncomputable def į:N->N->Option (Rs N)|.int i,.int j=>Z (.ok (.bl (A_ (i<=j))))|.str x,.str y=>Z (.ok (.bl (!A_ (y.cps.toList<x.cps.toList))))|_,_=>Y
def Pc:R2:=λx y H Q=>ő (λi j=>.bl (A_ (i<=j))) x y H Q\/∃i j,x=.str i/\y=.str j/\Q (.bl (!A_ (j.cps.toList<i.cps.toList))) H
theorem xJ:û a (Rk .LtE) (λx y H Q=>∃i j,x=.str i/\y=.str j/\Q (.bl (!A_ (j.cps.toList<i.cps.toList))) H):=by intro g s e H x y v u Q I d b h;obtain⟨i,j,rfl,rfl,q⟩:=h;obtain⟨t,rfl⟩:=d;obtain⟨f,rfl⟩:=b;exact PySem.P.le_str ⟨.bl _,H,I,rfl,q⟩
theorem NH:û a (Rk .LtE) Pc:=op_le.or xJ
theorem NI:Ħ a Pc į:=by
 intro f e x y H Q d b o;cases f<;>cases e<;>try exact(show False from o).elim
 ·rename_i i j;exact .inl ⟨i,j,d,b,o _ H (.refl H) rfl⟩
 ·rename_i i j;exact .inr ⟨i,j,d,b,o _ H (.refl H) rfl⟩
def NJ(K:d_)(S:List Nat)(a:List B)(b:B):Bool:=excIn K b ņ "ValueError.__new__"&&S.all λc=>excIn K (a.getD c 0) ņ "ValueError.__new__"&&xiB K (a.getD c 0)&&mroIn K (a.getD c 0) (.ref b)==Z U&&mroIn K (a.getD c 0) (.ref (a.getD c 0))==Z U&&kitOne K (.ref (a.getD c 0)) (.type "ValueError")==Z U&&S.all λd=>kitOne K (.ref (a.getD c 0)) (.ref (a.getD d 0))==Z (c==d)
structure Ė(K:d_)(S:List Nat)(cls:Nat->B)(CJ:B):Prop where at_:∀c∈S,nsIn K z_ (ğ c)=Z (Z (.ref (cls c)))/\excIn K (cls c) ņ "ValueError.__new__"=U/\XI K (cls c)/\mroIn K (cls c) (.ref CJ)=Z U/\mroIn K (cls c) (.ref (cls c))=Z U/\kitOne K (.ref (cls c)) (.type "ValueError")=Z U/\∀d∈S,kitOne K (.ref (cls c)) (.ref (cls d))=Z (c==d)exJ:excIn K CJ ņ "ValueError.__new__"=U
theorem Bk{S:List Nat}(f:∀c∈S,nsIn u z_ (ğ c)=Z (Z (.ref (Ã.getD c 0))))(h:NJ u S Ã e=U):Ė u S (λc=>Ã.getD c 0) e:=by unfold NJ at h;rw[p_]at h;refine⟨λc b=>?_,h.1⟩;have a:=Q2.mp h.2 c b;simp only[p_,beq_iff_eq]at a;exact⟨f c b,a.1.1.1.1.1,Nz a.1.1.1.1.2,a.1.1.1.2,a.1.1.2,a.1.2,λd g=>by have i:=Q2.mp a.2 d g;simpa using i⟩
section
variable{K:d_}{S:List Nat}{cls:Nat->B}{CJ:B}(x:Ė K S cls CJ)
include x
theorem Ė.xc(c:Nat)(h:c∈S):XC K c (cls c):=⟨(x.at_ c h).1,(x.at_ c h).2.1⟩
theorem Ė.same{c:Nat}{C:B}(h:c∈S)(q:nsIn K z_ (ğ c)=Z (Z (.ref C))):C=cls c:=by have z:=(x.at_ c h).1;rw[q]at z;cases z;rfl
end
end FD
variable{q:List FD.N}{Λ:L2.St}{H:FD.Ev}{j:FD.N}{ψ:FD.Ï}{y:FD.Ò}{Μ:FD.ã}{Ο:FD.Ö}{È:FD.Ò}{ε:FD.Û}{δ:FD.N}{ω:Pos}
namespace ST
open PySem.SetTable
noncomputable def ZU(m i:Nat):Nat:=(i*5+1)%(m+1)
def it(m:Nat):Nat->Nat->Nat|0,i=>i|k+1,i=>it m k (ZU m i)
def Bl(m:Nat):Bool:=(rl (m+1)).all λi=>(rl (m+1)).all λj=>(rl (m+1)).any λk=>it m k i==j
theorem P8:Bl 7=U:=by decide+kernel
theorem NK:Bl 31=U:=by decide+kernel
theorem J0(h:Bl d=U){i j:Nat}(m:i<=d)(g:j<=d):∃k,k<=d/\it d k i=j:=by unfold Bl at h;have f:=Q2.mp h i (Rt.mpr (by omega));have b:=Q2.mp f j (Rt.mpr (by omega));obtain⟨k,a,e⟩:=Tz.mp b;exact⟨k,by have:=Rt.mp a;omega,by simpa using e⟩
noncomputable def lp(m:Nat):Nat->Nat×Nat->Nat×Nat|0,x=>x|r+1,x=>lp m r (leap m x.1 x.2)
theorem xK(m:Nat):∀(a b:Nat)(x:Nat×Nat),lp m (a+b) x=lp m b (lp m a x)|0,b,x=>by rw[Uq];rfl|a+1,b,x=>by rw[Nat.succ_add];show lp m (a+b) (leap m x.1 x.2)=lp m b (lp m a (leap m x.1 x.2));exact xK m a b _
theorem Ff(m:Nat):∀(r:Nat)(x:Nat×Nat),x.1<=m->(lp m r x).1<=m|0,x,h=>h|r+1,x,h=>Ff m r _ (by show(x.1*5+1+x.2/32)%(m+1)<=m;exact Te (UE _ (UY m)))
theorem J8(m:Nat):∀(r:Nat)(x:Nat×Nat),(lp m r x).2=x.2/32^r|0,x=>by simp[lp]|r+1,x=>by show(lp m r (leap m x.1 x.2)).2=_;rw[J8 m r];show x.2/32/32^r=_;rw[Nat.div_div_eq_div_mul,Nat.pow_succ,Nat.mul_comm]
theorem xL(m:Nat):∀(r:Nat)(i:Nat),(lp m r (i,0)).1=it m r i
 |0,i=>rfl|r+1,i=>by
  show(lp m r (leap m i 0)).1=it m r (ZU m i);have e:leap m i 0=(ZU m i,0):=by unfold leap ZU;simp
  rw[e];exact xL m r _
theorem xM(c:Bl d=U){i a j:Nat}(f:i<=d)(m:a<2^64)(b:j<=d):∃r,r<=13+d/\(lp d r (i,a)).1=j:=by
 have g:(lp d 13 (i,a)).2=0:=by rw[J8];exact Nat.div_eq_of_lt (by
 show a<32^13;have:(32:Nat)^13=2^65:=by decide
 omega)
 obtain⟨k,n,e⟩:=J0 c (Ff d 13 (i,a) f) b;refine⟨13+k,by omega,?_⟩;rw[xK];have h:lp d 13 (i,a)=((lp d 13 (i,a)).1,0):=by rw[<-g]
 rw[h,xL];exact e
noncomputable def advN(t:SetTable):Nat->Probe->Probe|0,p=>p|n+1,p=>advN t n (t.advance p)
theorem j5(t:SetTable):∀(a b:Nat)(p:Probe),advN t (a+b) p=advN t b (advN t a p)|0,b,p=>by rw[Uq];rfl|a+1,b,p=>by rw[Nat.succ_add];exact j5 t a b _
structure Vp(t:SetTable)(p:Probe):Prop where
 i:p.i<=t.mask
 pt:p.perturb<2^64more:p.more<=9dm:p.dummy=Y
theorem qc(m i:Nat):Za m i-i<=9:=by unfold Za;split<;>omega
noncomputable def qd(t:SetTable)(p:Probe):Probe:={p with j:=(leap t.mask p.i p.perturb).1,more:=Za t.mask (leap t.mask p.i p.perturb).1-(leap t.mask p.i p.perturb).1,i:=(leap t.mask p.i p.perturb).1,perturb:=(leap t.mask p.i p.perturb).2}
theorem um(t:SetTable)(p:Probe)(h:p.more=0):t.advance p=qd t p:=by unfold Yy qd;rw[if_neg (by omega)]
theorem xN(t:SetTable)(p:Probe)(h:0<p.more):t.advance p={p with j:=p.j+1,more:=p.more-1}:=by unfold Yy;rw[if_pos h]
theorem rZ(t:SetTable):∀(k:Nat)(p:Probe),p.more=k->advN t (k+1) p=qd t p|0,p,h=>um t p h|k+1,p,h=>by show advN t (k+1) (t.advance p)=_;rw[xN t p (by omega),rZ t k _ (by show p.more-1=k;omega)];rfl
theorem xO(m i a:Nat)(h:a<2^64):(leap m i a).2<2^64:=Nat.lt_of_le_of_lt (Nat.div_le_self _ _) h
variable{χ:SetTable}
theorem Vp.leap{p:Probe}(v:Vp χ p):Vp χ (qd χ p):=⟨by show(p.i*5+1+p.perturb/32)%(χ.mask+1)<=χ.mask;exact Te (UE _ (UY χ.mask)),(show(X1 χ.mask p.i p.perturb).2<2^64 from xO _ _ _ v.pt),(show Za χ.mask (X1 χ.mask p.i p.perturb).1-(X1 χ.mask p.i p.perturb).1<=9 from qc _ _),v.dm⟩
theorem Vp.adv{p:Probe}(v:Vp χ p):Vp χ (χ.advance p):=by
 by_cases h:0<p.more;·rw[xN χ p h];exact⟨v.i,v.pt,by show p.more-1<=9;have:=v.more;omega,v.dm⟩
 ·rw[um χ p (by omega)];exact v.leap
theorem Vp.advN{t:SetTable}:∀(n:Nat){p:Probe},Vp t p->Vp t (advN t n p)|0,p,v=>v|n+1,p,v=>Vp.advN n v.adv
theorem uo(t:SetTable):∀(r:Nat)(p:Probe),Vp t p->∃n,n<=10*r/\(advN t n p).i=(lp t.mask r (p.i,p.perturb)).1/\(r≠0->(advN t n p).j=(advN t n p).i)
 |0,p,v=>⟨0,by omega,rfl,λh=>absurd rfl h⟩|r+1,p,v=>by
  obtain⟨n,f,e,d⟩:=uo t r (qd t p) v.leap;refine⟨p.more+1+n,by have:=v.more;omega,?_,λ_=>?_⟩;·rw[j5,rZ t p.more p rfl,e];rfl
  · rw[j5,rZ t p.more p rfl];by_cases a:r=0
    · subst a;have b:n=0:=by omega
      subst b;rfl
    ·exact d a
structure Tb(t:SetTable)(n:Nat):Prop where
 size:t.place.size=n
 dm:t.dummies=#[]cyc:Bl t.mask=U
 room:n<=t.mask
theorem xP(j:Nat):has #[] j=L:=by unfold has;simp
theorem nj(T:Tb χ d)(j:Nat):χ.slot j=.empty\/∃i,χ.slot j=.live i/\χ.place[i]?=Z j:=by
 unfold SetTable.slot;dsimp only;split;·rename_i h;exact .inr ⟨_,rfl,by simpa using h⟩
 ·rw[T.dm,xP];exact .inl rfl
theorem xQ:∀(m:Nat)(l:List Nat),l.length<=m->∃j,j<=m/\j∉l
 |0,l,h=>⟨0,s_ _,by have:l=[]:=Sf.mp (by omega);simp[this]⟩|m+1,l,h=>by
  by_cases a:(m+1)∈l;·obtain⟨j,e,b⟩:=xQ m (l.erase (m+1)) (by rw[List.length_erase_of_mem a];omega);refine⟨j,by omega,λd=>b ?_⟩;exact(List.mem_erase_of_ne (by omega)).mpr d
  ·exact⟨m+1,s_ _,a⟩
theorem Bm(T:Tb χ d):∃j,j<=χ.mask/\χ.slot j=.empty:=by
 obtain⟨j,b,a⟩:=xQ χ.mask χ.place.toList (by simp[T.size,T.room]);refine⟨j,b,?_⟩;rcases nj T j with h|⟨i,h,e⟩;·exact h
 ·exact absurd (Th.mpr (Array.mem_of_getElem? e)) a
theorem NL(T:Tb χ d){p:Probe}(v:Vp χ p):∃N,N<10*X0 χ.mask/\χ.slot (advN χ N p).j=.empty:=by obtain⟨j,a,b⟩:=Bm T;obtain⟨r,h,e⟩:=xM T.cyc (Ff χ.mask 1 (p.i,p.perturb) v.i) (by show(leap χ.mask p.i p.perturb).2<2^64;exact xO _ _ _ v.pt) a (a:=(lp χ.mask 1 (p.i,p.perturb)).2);obtain⟨N,i,g,f⟩:=uo χ (1+r) p v;refine⟨N,by unfold X0;omega,?_⟩;rw[f (by omega),g,xK];rw[show lp χ.mask 1 (p.i,p.perturb)=((lp χ.mask 1 (p.i,p.perturb)).1,(lp χ.mask 1 (p.i,p.perturb)).2)from rfl,e];exact b
theorem first{P:Nat->Prop}[DecidablePred P]:∀(b:Nat),(∃n,n<b/\P n)->∃n,n<b/\P n/\∀k,k<n->¬P k
 |0,⟨n,h,_⟩=>absurd h (UA _)|b+1,⟨n,h,a⟩=>by
  by_cases q:∃n,n<b/\P n
  ·obtain⟨n,i,g,f⟩:=first b q;exact⟨n,by omega,g,f⟩
  · have d:n=b:=by have:¬n<b:=λz=>q ⟨n,z,a⟩;omega
    subst d;exact⟨n,by omega,a,λk e z=>q ⟨k,e,z⟩⟩
theorem J9(T:Tb χ d){p:Probe}(v:Vp χ p):∃N,N<10*X0 χ.mask/\χ.slot (advN χ N p).j=.empty/\∀k,k<N->χ.slot (advN χ k p).j≠.empty:=first (P:=λd=>χ.slot (advN χ d p).j=.empty) _ (NL T v)
theorem Du{t:SetTable}{n:Nat}(T:Tb t n)(a:Nat->Int)(h:Int):∀(N b:Nat)(p:Probe),Vp t p->N<b->t.slot (advN t N p).j=.empty->(∀k,k<N->t.slot (advN t k p).j≠.empty)->Ws t a h b p=Z (.empty (advN t N p).j Y)\/∃m i,m<N/\t.slot (advN t m p).j=.live i/\t.place[i]?=Z (advN t m p).j/\a i=h/\Ws t a h b p=Z (.candidate (advN t m p).j i (advN t (m+1) p))
 |N,0,p,v,e,_,_=>absurd e (UA _)|0,b+1,p,v,e,f,_=>by refine .inl ?_;unfold Ws;rw[show t.slot p.j=.empty from f];show Z (Met.empty p.j p.dummy)=_;rw[v.dm];rfl|N+1,b+1,p,v,e,f,j=>by
  rcases nj T p.j with E|⟨i,g,A⟩;·exact absurd E (j 0 (by omega))
  · by_cases d:a i=h;·refine .inr ⟨0,i,by omega,g,A,d,?_⟩;unfold Ws;rw[g];dsimp only;rw[if_pos (by simpa using d)];rfl
    · have o:Ws t a h (b+1) p=Ws t a h b (t.advance p):=by
       conv=>lhs;unfold Ws
       rw[g];dsimp only;rw[if_neg (by simpa using d)]
      rcases Du T a h N b (t.advance p) v.adv (by omega) f (λk I=>j (k+1) (by omega))with q|⟨m,z,H,y,w,u,r⟩;·exact .inl (by rw[o,q];rfl)
      ·exact .inr ⟨m+1,z,by omega,y,w,u,by rw[o,r];rfl⟩
theorem xS(h:Int):Vp χ (χ.probeStart h):=⟨by show bits h%(χ.mask+1)<=χ.mask;exact Te (UE _ (UY χ.mask)),by show bits h<2^64;unfold bits;have b:=S9 h (show(2^64:Int)≠0 by decide);have a:=Su h (show(0:Int)<2^64 by decide);omega,qc _ _,rfl⟩
theorem qe{m:Nat}{a:Array (Option Nat)}:∀(b i pt:Nat),i<=m->(∃r,r<b/\(a.getD (lp m r (i,pt)).1 (Z 0)).isNone=U)->∃j,Vk m a b i pt=Z j/\(a.getD j (Z 0)).isNone=U
 |0,i,pt,_,⟨r,h,_⟩=>absurd h (UA _)|b+1,i,pt,g,⟨r,h,e⟩=>by
  unfold Vk;split;·rename_i k d;exact⟨i+k,rfl,by simpa using List.find?_some d⟩
  ·rename_i d;cases r with|zero=>have f:0∈rl (Za m i+1-i):=Rt.mpr (by unfold Za;split<;>omega);have:=List.find?_eq_none.mp d 0 f;exact absurd (show(a.getD (i+0) (Z 0)).isNone=U from e) this|succ r=>exact qe b _ _ (by show(i*5+1+pt/32)%(m+1)<=m;exact Te (UE _ (UY m))) ⟨r,by omega,e⟩
theorem Dw:∀(l:List (Option Nat))(j k:Nat),l[j]?=Z Y->((l.set j (Z k)).filterMap id).Perm (k::l.filterMap id)
 |[],j,k,h=>by simp at h|x::l,0,k,h=>by
  have:x=Y:=by simpa using h
  subst this;simp|x::l,j+1,k,h=>by have a:=Dw l j k (by simpa using h);cases x with|none=>simpa using a|some y=>show List.Perm (y::(l.set j (Z k)).filterMap id) (k::y::l.filterMap id);exact(a.cons y).trans (Xy ..)
theorem xT:∀(l:List (Option Nat)),(l.filterMap id).length<l.length->∃j,j<l.length/\l[j]?=Z Y|[],h=>by simp at h|none::l,h=>⟨0,by simp,rfl⟩|some y::l,h=>by obtain⟨j,b,a⟩:=xT l (by simpa using h);exact⟨j+1,by simpa using b,by simpa using a⟩
noncomputable def Fg(m:Nat)(b:Option (Array (Option Nat)×Nat))(h:Int):Option (Array (Option Nat)×Nat):=do let(a,k)<-b let j<-Vk m a (X0 m) (bits h%(m+1)) (bits h)pure (a.setIfInBounds j (Z k),k+1)
theorem Fh(h:Int):bits h<2^64:=by unfold bits;have b:=S9 h (show(2^64:Int)≠0 by decide);have a:=Su h (show(0:Int)<2^64 by decide);omega
theorem getD_none{a:Array (Option Nat)}(h:(a.getD d (Z 0)).isNone=U):d<a.size/\a.toList[d]?=Z Y:=by rw[Uc]at h;cases q:a[d]? with|none=>rw[q]at h;simp at h|some x=>
 rw[q]at h;have b:x=Y:=by simpa using h
 subst b;refine⟨(RO.mp q).1,by rw[Va];exact q⟩
theorem xU{m:Nat}(c:Bl m=U):∀(b:List Int)(a:Array (Option Nat))(k:Nat),a.size=m+1->(a.toList.filterMap id).Perm (rl k)->k+b.length<=m->∃d,b.foldl (Fg m) (Z (a,k))=Z (d,k+b.length)/\d.size=m+1/\(d.toList.filterMap id).Perm (rl (k+b.length))
 |[],a,k,f,g,n=>⟨a,rfl,f,g⟩|h::b,a,k,f,g,n=>by
  have z:k+(b.length+1)<=m:=by simpa using n
  obtain⟨p,y,o⟩:=xT a.toList (by rw[g.length_eq,Ua];simp only[Rb,f];omega);have i:p<=m:=by simp only[Rb,f]at y;omega
  obtain⟨r,E,w⟩:=xM c (i:=bits h%(m+1)) (a:=bits h) (Te (UE _ (UY m))) (Fh h) i;obtain⟨j,f1,Q⟩:=qe (m:=m) (a:=a) (X0 m) (bits h%(m+1)) (bits h) (Te (UE _ (UY m))) ⟨r,by unfold X0;omega,by rw[w,Uc];rw[Va]at o;rw[o];rfl⟩;obtain⟨A,q⟩:=getD_none Q;have e:Fg m (Z (a,k)) h=Z (a.setIfInBounds j (Z k),k+1):=by show(Vk m a (X0 m) (bits h%(m+1)) (bits h)).bind (λj=>Z (a.setIfInBounds j (Z k),k+1))=_;rw[f1];rfl
  rw[W6,e];obtain⟨d,v,u,t⟩:=xU c b (a.setIfInBounds j (Z k)) (k+1) (by rw[Array.size_setIfInBounds];exact f) (by rw[Array.toList_setIfInBounds];refine(Dw _ _ _ q).trans ((g.cons k).trans ?_);rw[W4];exact(Uj k (rl k)).symm) (by omega);refine⟨d,?_,u,?_⟩;·rw[v];simp only[Q1];congr 2;omega
  ·simp only[Q1];rw[show k+(b.length+1)=k+1+b.length by omega];exact t
theorem r9(c:Bl d=U)(b:Array Int)(i:b.size<=d):∃f,Zb d b=Z f/\f.size=d+1/\(f.toList.filterMap id).Perm (rl b.size):=by obtain⟨f,o,n,m⟩:=xU c b.toList (W8 (d+1) Y) 0 (by simp) (by simp[List.filterMap_replicate]) (by simpa using i);refine⟨f,?_,n,by simpa using m⟩;unfold Zb;rw[<-Array.foldl_toList];have e:(List.foldl (λg h=>do let(a,k)<-g let j<-Vk d a (X0 d) (bits h%(d+1)) (bits h)pure (a.setIfInBounds j (Z k),k+1)) (Z (W8 (d+1) Y,0)) b.toList:Option (Array (Option Nat)×Nat))=b.toList.foldl (Fg d) (Z (W8 (d+1) Y,0)):=rfl;rw[e,o];rfl
theorem uq:∀(l:List (Option Nat))(a:Nat),((rl l.length).filterMap λj=>(l.getD j Y).map (λx=>(a+j,x))).map (·.2)=l.filterMap id
 |[],a=>rfl|x::l,a=>by
  rw[Q1,WX,Ut,V5];have b:=uq l (a+1);have e:(rl l.length).filterMap ((λj=>((x::l).getD j Y).map (λx=>(a+j,x)))∘Nat.succ)=(rl l.length).filterMap λj=>(l.getD j Y).map (λx=>(a+1+j,x)):=by congr 1;funext j;show((x::l).getD (j+1) Y).map _=_;simp only[List.getD_cons_succ];rw[show a+(j+1)=a+1+j by omega]
  rw[e];cases x with|none=>simpa using b|some y=>simp only[List.getD_cons_zero,TW,QU];rw[b];rfl
variable{Β:Nat}
theorem Fj(c:Bl d=U)(f:Array Int)(h:f.size<=d):∃t a,laid d r Β A Χ f=Z (t,a)/\t.mask=d/\t.moves=Β/\t.led=A/\t.plain=Χ/\Tb t f.size/\a.toList.Perm (rl f.size):=by
 obtain⟨g,m,k,i⟩:=r9 c f h;have e:=uq g.toList 0;have b:((rl (d+1)).filterMap λj=>(g.getD j Y).map (j,·))=((rl g.toList.length).filterMap λj=>(g.toList.getD j Y).map (λx=>(0+j,x))):=by rw[Rb,k];congr 1;funext j;rw[Uq,Uc,Uk,Va]
 refine⟨_,_,by unfold laid;rw[m];rfl,rfl,rfl,rfl,rfl,⟨?_,rfl,c,h⟩,?_⟩;·simp only[E_,QL];rw[b];have:=congrArg Vu e;rw[QL]at this;rw[this,i.length_eq,Ua]
 ·rw[VE,b,e];exact i
theorem j6(a:Array υ)(p:Nat)(x:υ)(h:p<=a.size):(insertAt a p x).size=a.size+1:=by unfold insertAt;simp only[Wd,Array.size_push,Array.size_extract];omega
theorem ur(b:Array Nat)(j:Nat):below b j<=b.size:=by
 unfold below;have:∀(a lo d:Nat),lo<=d->d<=b.size->Yj b j a lo d<=b.size:=by intro a;induction a with|zero=>intro lo d g f;unfold Yj;omega|succ a e=>
  intro lo d g f;unfold Yj;split
  · rename_i h;dsimp only;split;·exact e _ _ (by omega) f
    ·exact e _ _ (by omega) (by omega)
  ·omega
 exact this _ _ _ (QZ _) (s_ _)
theorem Ka(T:Tb χ d)(h:d+1<=χ.mask)(j:Nat):Tb (χ.put j).1 (d+1)/\(χ.put j).2<=d/\(χ.put j).1.mask=χ.mask/\(χ.put j).1.led=χ.led/\(χ.put j).1.moves=χ.moves:=by
 unfold SetTable.put;refine⟨⟨?_,?_,T.cyc,h⟩,?_,rfl,rfl,rfl⟩;·show(insertAt χ.place (below χ.place j) j).size=d+1;rw[j6 _ _ _ (ur _ _),T.size]
 ·show(if has χ.dummies j then eraseAt χ.dummies (below χ.dummies j)else χ.dummies)=#[];rw[T.dm,xP];rfl
 ·show below χ.place j<=d;rw[<-T.size];exact ur _ _
abbrev TK(b:n_)(w:w_)(h:J_)(k:List Str)(a:B):Prop:=IsTupleKey (strKind b w) h k a
abbrev Ğ(a:n_)(w:w_)(k:List Str):Int:=tupleKeyHash (strKind a w) k
theorem qf(h:ItemsAre (strKind p m) z ξ):∀v∈ξ,∃x t,v=.str x t:=by induction h with|nil=>intro v a;simp at a|@cons g e f ξ d _ b=>
 intro v a;rcases t_.mp a with rfl|a;·obtain⟨t,rfl⟩:=XN d;exact⟨_,_,rfl⟩
 ·exact b v a
theorem xV{Q:Bool->g_->Prop}(i:TK p m f.heap z e)(h:Q L f):uk (x_ p m) E (ofAClassStatement 8 (.ref e)) Q ο f:=by
 have hT:=i.typeIs;obtain⟨o,items,n,j,_,q,k⟩:=i;unfold ofAClassStatement;refine e_ (Ul hT ?_);show uk _ _ ((if("tuple"=="tuple")=U then pure U else isSubtype (.type "tuple") (.type "tuple"))>>=_) _ _ f;rw[if_pos (by decide)];refine e_ (m_ ?_);simp only[Vn,M_,if_false];refine e_ (RX j q ?_);refine e_ ?_;show uk _ _ (forIn items _ _) _ _ f;rw[<-UF];refine Wl _ (λrest r b=>r.1=Y/\b=f/\∀v∈rest,∃x t,v=RK x t) _ ?_ ?_ _ _ ⟨rfl,rfl,qf k⟩;·rintro v rest r b⟨d,rfl,a⟩;obtain⟨x,t,rfl⟩:=a v q_;refine e_ (m_ ?_);simp only[M_,if_false];exact m_ ⟨rfl,rfl,λu g=>a u (on _ g)⟩
 ·rintro⟨y,w⟩b⟨d,rfl,_⟩;simp only at d;subst d;exact m_ h
theorem Kb(n:TK p m f.heap z e){l:List D}(q:∀v∈l,∃g a,v=.ref a/\TK p m f.heap g a){Q:Bool->g_->Prop}(h:Q L f):uk (x_ p m) E (searchCouldBeSeen (.ref e) l) Q ο f:=by
 unfold searchCouldBeSeen;refine e_ ?_;refine Wl _ (λrest r i=>r.1=Y/\i=f/\∀v∈rest,∃g a,v=y_ a/\TK p m f.heap g a) _ ?_ ?_ _ _ ⟨rfl,rfl,q⟩
 · rintro v rest r i⟨j,rfl,d⟩;obtain⟨g,a,rfl,o⟩:=d v q_;have b:∀v∈rest,∃g a,v=y_ a/\TK p m i.heap g a:=λu k=>d u (on _ k);dsimp only;split;·exact m_ ⟨rfl,rfl,b⟩
   ·refine e_ (W9 n ?_);simp only[Vn,M_,if_false];refine e_ (W9 o ?_);simp only[Vn,M_,if_false];refine e_ (xV n ?_);simp only[M_,if_false];refine e_ (xV o ?_);simp only[M_,if_false];exact m_ ⟨rfl,rfl,b⟩
 ·rintro⟨w,t⟩i⟨j,rfl,_⟩;simp only at j;subst j;exact m_ h
def Š(b:n_)(w:w_)(h:J_)(d:List (List Str))(f:List (Int×D)):Prop:=∀e∈f,∃k a,k∈d/\e.2=.ref a/\TK b w h k a
theorem oE(T:Tb χ d):χ.fits d=U:=by unfold Zf Zg;rw[T.size,T.dm];simp[T.room]
theorem xW{o:Obj}{w:Array (Int×D)}{ks:List (List Str)}{Q:SetFound->g_->Prop}(hu:E.units<cLine)(ho:f.heap.get? e=Z o)(hd:o.data=.set w d χ)(T:Tb χ w.size)(hm:χ.mask%2=1)(hE:Š p m f.heap ks w.toList)(hx:TK p m f.heap z v)(hk:z∉ks):∀(N t:Nat)(st:Option Probe),(∀g,st=Z g->Vp χ g)->N<t->χ.slot (advN χ N (st.getD (χ.probeStart k))).j=.empty->(∀b,b<N->χ.slot (advN χ b (st.getD (χ.probeStart k))).j≠.empty)->N<10*X0 χ.mask->(∀j,Q (.free j L) f)->uk (x_ p m) E (Wg e (.ref v) k A t st) Q ο f:=by intro N;induction N using Nat.strongRecOn with|_ N ih=>intro t st hv hf he hn hN hQ;cases t with|zero=>exact absurd hf (UA _)|succ t=>
 have I:=oE T;have h:Vp χ (st.getD (χ.probeStart k)):=by cases st with|none=>exact xS k|some g=>exact hv g rfl
 unfold Wg;refine e_ (Rl ho hd I ?_);dsimp only;have f':χ.gaveWay=L:=by unfold SetTable.gaveWay;rw[hm];rfl
 rw[f'];simp only[M_,if_false];unfold SetTable.probe;rcases Du T _ k N _ (st.getD (χ.probeStart k)) h hN he hn with q|⟨b,i,m',q1,q2,q3,q5⟩;·rw[q];dsimp only;exact m_ (hQ _)
 · rw[q5];dsimp only;have hi:i<w.size:=by have:=(RO.mp q2).1;rw[T.size]at this;exact this
   obtain⟨k',a,e',ea,ta⟩:=hE w[i] (Th.mpr (Array.getElem_mem hi));have hg:w[i]?=Z (w[i].1,.ref a):=by rw[Array.getElem?_eq_getElem hi,<-ea]
   have rest:uk (x_ p m) E (do
    let Z (_,y):=w[i]?|Xh "internal:set-entry"
    let u<-Um [y] (eqBool y (.ref v))let(j',_,t')<-setState e if(A&&u)=U then return SetFound.there Y
    let Z same:=t'.sameMemory χ.moves χ.mask|Xh "set.changed-during-lookup:is-the-new-block-at-the-old-address"
    let P<-match(if same then t'.slot (advN χ b (st.getD (χ.probeStart k))).j else .empty)with
     |.live i'=>match j'[i']? with|some (_,y')=>do pure (if<-isSame y' y then Z i' else Y)|none=>pure Y
     |_=>pure Y
    match P with|none=>rule "set.search.anew";Wg e (.ref v) k A t Y|some i'=>if u then return .there (Z i')else Wg e (.ref v) k A t (Z (advN χ (b+1) (st.getD (χ.probeStart k))))) Q ο f:=by
    rw[hg];dsimp only;refine e_ (Rv (wpAny_eqBool_tuple hu ta hx ?_));have d':A_ (k'=z)=L:=decide_eq_false λr=>hk (r▸e');rw[d'];refine e_ (Rl ho hd I ?_);dsimp only;rw[Bool.and_false];simp only[M_,if_false];have c':χ.sameMemory χ.moves χ.mask=Z U:=by unfold SetTable.sameMemory;simp
    rw[c'];dsimp only;rw[if_pos rfl,q1];dsimp only;rw[hg];dsimp only;have a':isSame (y_ a) (y_ a)=pure U:=by unfold isSame;dsimp only;rw[if_pos (by simp)]
    rw[a'];refine e_ (e_ (m_ (m_ ?_)));rw[if_pos rfl];refine ih (N-(b+1)) (by omega) t (Z (advN χ (b+1) (st.getD (χ.probeStart k)))) (λg hp=>by cases hp;exact Vp.advN (b+1) h) (by omega) ?_ ?_ (by omega) hQ;·show χ.slot (advN χ (N-(b+1)) (advN χ (b+1) (st.getD (χ.probeStart k)))).j=.empty;rw[<-j5,show b+1+(N-(b+1))=N by omega];exact he
    ·intro x l';show χ.slot (advN χ x (advN χ (b+1) (st.getD (χ.probeStart k)))).j≠.empty;rw[<-j5];exact hn _ (by omega)
   by_cases H:χ.led=U;·rw[H];simp only[Vn,M_,if_false];exact rest
   · have b':χ.led=L:=by simpa using H
     rw[b'];simp only[V6,if_true];refine e_ (Kb hx (λh hv=>?_) ?_)
     · obtain⟨n,h',rfl⟩:=QW.mp hv;have g':n∈w.toList:=by have:=Th.mp h';rw[Array.mem_filter]at this;exact Th.mpr this.1
       obtain⟨k2,a2,_,e2,t2⟩:=hE n g';exact⟨k2,a2,e2,t2⟩
     ·simp only[M_,if_false];exact rest
abbrev ú(w:w_):Bool:=w.params.followText "set-order"
def č(a:n_)(w:w_)(h:J_)(S:B)(d:List (List Str))(e:List D)(n:Nat):Prop:=∃o b f t,h.get? S=Z o/\o.ExactSet/\o.data=.set b f t/\b.size=n/\Tb t n/\((t.mask=7/\n<=4)\/(t.mask=31/\n<=18))/\Š a w h d b.toList/\(b.toList.map (·.2)).Perm e/\t.led=(!ú w)/\((∀k∈d,k≠[])->n≠0->t.plain=L)
theorem se{Q:Bool->g_->Prop}(q:TK p m f.heap z e)(h:∀b,(z≠[]->b=L)->Q b f):uk (x_ p m) E (hashByValue 8 (.ref e)) Q ο f:=by
 have hT:=q.typeIs;obtain⟨o,items,n,u,_,w,k⟩:=q;have A:items.toList=[]->z=[]:=λd=>by rw[d]at k;cases k;rfl
 unfold hashByValue;refine e_ (wpAny_specialOf hT F.slot_tuple_hash.lookup ?_);dsimp only;refine e_ (RX u w ?_);refine e_ ?_;show uk _ _ (forIn items _ _) _ _ f;rw[<-UF];refine Wl _ (λrest r i=>r.1=Y/\i=f/\(∀v∈rest,∃x t,v=RK x t)/\(rest=[]->z=[])) _ ?_ ?_ _ _ ⟨rfl,rfl,qf k,A⟩;·rintro v rest r i⟨j,rfl,g,_⟩;obtain⟨x,t,rfl⟩:=g v q_;refine e_ (m_ ?_);simp only[V6,if_true];refine m_ ?_;exact m_ (h _ λ_=>rfl)
 ·rintro⟨I,H⟩i⟨j,rfl,_,y⟩;simp only at j;subst j;exact m_ (h _ λa=>absurd (y rfl) a)
theorem TK.keeps{o:Obj}{q r t}(x:TK p m I z e)(h:I.get? v=Z o)(j:o.data=.set q r t)(g:SK v I É):TK p m É z e:=by
 obtain⟨f,items,n,b,k,a,i⟩:=x;have d:e≠v:=by rintro rfl;obtain rfl:f=o:=Q4 (b.symm.trans h);rw[j]at a;exact nomatch a
 exact⟨f,items,n,(g.2 e d).trans b,k,a,i⟩
theorem Š.keeps{d:List (List Str)}{l:List (Int×D)}{o:Obj}{r u t}(x:Š p m I d l)(g:I.get? e=Z o)(i:o.data=.set r u t)(f:SK e I É):Š p m É d l:=λb h=>by obtain⟨k,a,q,n,j⟩:=x b h;exact⟨k,a,q,n,j.keeps g i f⟩
theorem qg{o:Obj}{h a:Array (Int×D)}{b:SetTable}(g:I.get? e=Z o)(f:o.data=.set h d χ):(I.update e (Tk a b)).get? e=Z {o with data:=.set a (d+1) b}:=by have:=RV (Tk a b) g (by rw[Wo a b f];rfl);rw[Wo a b f]at this;exact this
theorem Š.insert{h:List (List Str)}{g:Array (Int×D)}(o:Š p m I h g.toList)(n:TK p m I z e):Š p m I (z::h) (QO g d (k,.ref e)).toList:=λb j=>by
 have f:=(WM g d (k,y_ e)).mem_iff.mp j;rw[U5]at f;rcases QS.mp f with q|q;·obtain⟨i,a,u,t,r⟩:=o b q;exact⟨i,a,on _ u,t,r⟩
 ·rw[QK]at q;subst q;exact⟨z,e,q_,rfl,n⟩
theorem xX(T:Tb χ d):χ.fill=d:=by unfold Zg;rw[T.size,T.dm];simp
theorem nq(h:d<=18):d<=sizeLine:=by rw[UH];omega
theorem Bn(a:Array υ):(rl a.size).filterMap (λi=>a[i]?)=a.toList:=by
 apply Yp;intro i;have:(rl a.size).filterMap (λi=>a[i]?)=(rl a.size).pmap (λi h=>a[i]) (λi h=>Rt.mp h):=by
  rw[List.pmap_eq_map_attach,<-List.filterMap_eq_map];conv=>lhs;rw[<-List.attach_map_subtype_val (rl a.size)]
  rw[V5];congr 1;funext⟨i,b⟩;simp[Rt.mp b]
 rw[this];simp[List.getElem?_pmap,VF];by_cases b:i<a.size;·simp[b]
 ·simp[b]
theorem Fk{b:Array Int}{a:Array Nat}(e:laid d r Β A Χ b=Z (χ,a)):χ.led=A/\χ.plain=Χ:=by unfold laid at e;cases f:Zb d b with|none=>rw[f]at e;cases e|some o=>rw[f]at e;cases e;exact⟨rfl,rfl⟩
theorem Kc{ks:List (List Str)}{Q:Bool->g_->Prop}(hu:E.units<cLine)(hS:č p m f.heap e ks ξ d)(hx:TK p m f.heap z v)(hk:z∉ks)(hn:d+1<=18)(h:∀h',SK e f.heap h'->č p m h' e (z::ks) (.ref v::ξ) (d+1)->Q U {f with heap:=h'}):uk (x_ p m) E (WG e (.ref v) (Ğ p m z)) Q ο f:=by
 obtain⟨o,u,ep,t,ho,hex,hd,y,T,hm,hE,m',c',r'⟩:=hS;have k':=oE T;have H:t.fits u.size=U:=by rw[y];exact k'
 have j':t.mask%2=1:=by rcases hm with⟨a,_⟩|⟨a,_⟩<;>rw[a]
 have g':d+1<=t.mask:=by rcases hm with⟨a,q⟩|⟨a,q⟩<;>omega
 unfold WG Xi;refine Rv (e_ (Rl ho hd H ?_));dsimp only;have p':byScan (y_ v) u=L:=by unfold byScan;rfl
 rw[p'];simp only[M_,if_false];unfold setSearch;obtain⟨N,h1,h2,h3⟩:=J9 T (xS (χ:=t) (Ğ p m z));have s':t.mask<=31:=by rcases hm with⟨a,_⟩|⟨a,_⟩<;>omega
 refine e_ (xW (ks:=ks) hu ho hd (by rw[y];exact T) j' hE hx hk N 100000 Y (λg hp=>by cases hp) (by unfold X0 at h1;omega) h2 h3 h1 λj=>?_);dsimp only;refine e_ (Rl ho hd H ?_);dsimp only;obtain⟨P1,P2,P3,P4,P5⟩:=Ka T g' j;have b':((QO u (t.put j).2 (Ğ p m z,y_ v)).toList.map (·.2)).Perm (.ref v::ξ):=by refine((WM u (t.put j).2 (Ğ p m z,y_ v)).map (·.2)).trans ?_;rw[U5,S8];exact(m'.append_right _).trans (Uj _ _)
 have go:∀P:Bool,((∀x∈z::ks,x≠[])->(if P then(t.put j).1 else{(t.put j).1 with plain:=L}).plain=L)->uk (x_ p m) E (do
  YZ e (QO u (t.put j).2 (Ğ p m z,.ref v)) (if P then(t.put j).1 else{(t.put j).1 with plain:=L})if(!L&&(if P then(t.put j).1 else{(t.put j).1 with plain:=L}).tooFull)=U then setRelay e (Sj (u.size+1))
  return U) Q ο f:=by
  intro P f';have T2:∃k,(if P then(t.put j).1 else{(t.put j).1 with plain:=L})=k/\Tb k (d+1)/\k.mask=t.mask/\k.led=t.led:=by cases P with|true=>exact⟨_,rfl,P1,P3,rfl⟩|false=>exact⟨_,rfl,⟨P1.size,P1.dm,P1.cyc,P1.room⟩,P3,rfl⟩
  obtain⟨k,e2,T2,M2,L2⟩:=T2;rw[e2]at f'⊢;have n:(QO u (t.put j).2 (Ğ p m z,y_ v)).size=d+1:=by rw[j6 _ _ _ (by rw[y];exact P2),y]
  refine e_ (UP ho hd ?_ (by rw[n];exact nq hn));have d':=SH f.heap e (Tk (QO u (t.put j).2 (Ğ p m z,y_ v)) k);have hg:=qg (a:=QO u (t.put j).2 (Ğ p m z,y_ v)) (b:=k) ho hd;have i':Š p m (f.heap.update e (Tk (QO u (t.put j).2 (Ğ p m z,y_ v)) k)) (z::ks) (QO u (t.put j).2 (Ğ p m z,y_ v)).toList:=(hE.insert hx).keeps ho hd d';by_cases hf:k.tooFull=U
  · rw[hf];simp only[V6,Bool.and_self,if_true];have I:k.fill*5>=k.mask*3:=by unfold Yx at hf;simpa using hf
    rw[xX T2,M2]at I;have h5:d+1=5/\t.mask=7:=by rcases hm with⟨a,q⟩|⟨a,q⟩<;>rw[a]at I<;>omega
    have o':d=4:=by omega
    unfold setRelay;refine e_ (e_ (Rl hg rfl (by rw[n];exact oE T2) ?_));dsimp only;rw[y,o'];rw[if_neg (by rw[UH];decide)];have l':k.relaid ((QO u (t.put j).2 (Ğ p m z,y_ v)).map (·.1)) (Sj (4+1))=laid 31 k.finger (k.movedTo 31) k.led k.plain ((QO u (t.put j).2 (Ğ p m z,y_ v)).map (·.1)):=by unfold SetTable.relaid;rw[show sizeAbove (Sj (4+1))-1=31 by decide]
    obtain⟨t3,r,r1,r2,r3,r4,r5,r6,r7⟩:=Fj (r:=k.finger) (Β:=k.movedTo 31) (A:=k.led) (Χ:=k.plain) NK ((QO u (t.put j).2 (Ğ p m z,y_ v)).map (·.1)) (by rw[U7,n];omega);have r8:t3.led=k.led/\t3.plain=k.plain:=Fk r1;rw[l',r1];rw[U7,n]at r6 r7;have w:(r.filterMap (λi=>(QO u (t.put j).2 (Ğ p m z,y_ v))[i]?)).toList.Perm (QO u (t.put j).2 (Ğ p m z,y_ v)).toList:=by rw[Array.toList_filterMap];refine(r7.filterMap _).trans ?_;rw[<-n,Bn]
    have A:(r.filterMap (λi=>(QO u (t.put j).2 (Ğ p m z,y_ v))[i]?)).size=d+1:=by rw[<-Rb,w.length_eq,Rb,n]
    show uk (x_ p m) E ((if((r.filterMap (λi=>(QO u (t.put j).2 (Ğ p m z,y_ v))[i]?)).size !=(QO u (t.put j).2 (Ğ p m z,y_ v)).size)=U then(Xh "internal:set-table-lost-an-element":Sem _)else pure (r.filterMap (λi=>(QO u (t.put j).2 (Ğ p m z,y_ v))[i]?),t3))>>=λx=>YZ e x.1 x.2) _ _ _;rw[if_neg (by rw[A,n];simp)];refine e_ (m_ ?_);refine UP hg rfl ?_ (by rw[A];exact nq hn);have a':=SH (f.heap.update e (Tk (QO u (t.put j).2 (Ğ p m z,y_ v)) k)) e (Tk (r.filterMap (λi=>(QO u (t.put j).2 (Ğ p m z,y_ v))[i]?)) t3);refine m_ (h _ (d'.trans a') ⟨_,_,_,t3,qg hg rfl,hex,rfl,A,r6,.inr ⟨r2,hn⟩,?_,(w.map (·.2)).trans b',r8.1.trans (L2.trans c'),λb _=>r8.2.trans (f' b)⟩);have q':=i'.keeps hg rfl a';exactλa he=>q' a (w.mem_iff.mp he)
  · have e':k.tooFull=L:=by simpa using hf
    rw[e'];simp only[V6,Bool.and_false,M_,if_false];have I:¬(k.fill*5>=k.mask*3):=by unfold Yx at e';simpa using e'
    rw[xX T2,M2]at I;refine m_ (h _ d' ⟨_,_,_,k,hg,hex,rfl,n,T2,?_,i',b',L2.trans c',λb _=>f' b⟩);rw[M2];rcases hm with⟨a,q⟩|⟨a,q⟩;·exact .inl ⟨a,by omega⟩
    ·exact .inr ⟨a,hn⟩
 cases n':(t.put j).1.plain with|true=>simp only[if_true];refine e_ (se hx λP hb=>?_);refine go P λb=>?_;rw[hb (b z q_)];rfl|false=>simp only[M_,if_false];refine e_ (m_ ?_);exact go U λ_=>n'
theorem TK.moved(x:TK p m I z e)(f:∀o,I.get? e=Z o->É.get? e=Z o):TK p m É z e:=by obtain⟨d,items,n,a,h,b,g⟩:=x;exact⟨d,items,n,f _ a,h,b,g⟩
theorem č.moved{f:List (List Str)}(x:č p m I e f ξ d)(v:∀o,I.get? e=Z o->É.get? e=Z o)(q:∀k∈f,∀a,TK p m I k a->TK p m É k a):č p m É e f ξ d:=by obtain⟨o,A,E,t,n,hex,u,g,T,h,w,j⟩:=x;exact⟨o,A,E,t,v _ n,hex,u,g,T,h,λb r=>let⟨k,a,i,z,y⟩:=w b r;⟨k,a,i,z,q k i a y⟩,j⟩
theorem NM{R:WN->g_->Prop}{A:List B}{G:Array Xq->Array Xq->Prop}{P:Nat->D->Prop}{St:Nat->g_->Prop}(W:WalksS p m E.in1 e Ã A G d P St)(S:B)(e':S∉Ã)(hu:E.in1.units<cLine)(p':A=[e])(hI:∀i s,St i s->∃o vs,s.heap.get? e=Z o/\o.data=.fields vs)(n:Nat->B)(g:Nat->List Str)(g':∀i v,P i v->v=.ref (n i))(hn:d<=18)(a':∀i j,i<d->j<d->g i=g j->i=j):∀(k i:Nat)(s:g_),d-i=k->i<=d->St i s->(∀j,j<d->TK p m s.heap (g j) (n j))->č p m s.heap S (((rl i).map g).reverse) (((rl i).map λj=>y_ (n j)).reverse) i->(∀t,Moved (S::A) G s t->č p m t.heap S (((rl d).map g).reverse) (((rl d).map λj=>y_ (n j)).reverse) d->R (.ok (.ret .none)) t)->Ta (x_ p m) E (.builtin "set.update.loop" ⟨[.ref S,.ref e],[]⟩) R s:=by
 have d':S∉A:=λh=>e' (W.sub _ h);have z:∀b∈A,b∈S::A:=λb hb=>on _ hb;have y:∀{i:Nat}{s:g_}{k:List Str}{a:B},St i s->TK p m s.heap k a->a∉A:=λ{i s k a}q x r=>by rw[p',QK]at r;subst r;obtain⟨o',items,d,b',hc,c',hi⟩:=x;obtain⟨o,vs,u,hd⟩:=hI _ _ q;rw[u]at b';cases b';rw[hd]at c';cases c'
 intro k;induction k with|zero=>
 intro i s hk hi q hT hS hR;have r':i=d:=by omega
 subst r';refine RE Tw ?_;rw[Sd Se _];show uk _ E.in1 (TX (.ref e)>>=_) _ _ s;refine e_ (W.done s _ _ q λt r=>?_);show uk _ E.in1 (ret H_) _ _ t;exact m_ (hR t (r.mono z) (hS.moved (λo u=>r.heap S _ d' u) λk' _ a x=>x.moved λo u=>r.heap a _ (y q x) u))|succ k ih=>
 intro i s hk hi q hT hS hR;have w:i<d:=by omega
 refine RE Tw ?_;rw[Sd Se _];show uk _ E.in1 (TX (.ref e)>>=_) _ _ s;refine e_ (W.item i s _ _ w q λv t hP i' r=>?_);have hv:=g' i v hP;subst hv;have I:∀j,j<d->TK p m t.heap (g j) (n j):=λj hj=>(hT j hj).moved λo u=>r.heap _ _ (y q (hT j hj)) u;have f':č p m t.heap S (((rl i).map g).reverse) (((rl i).map λj=>y_ (n j)).reverse) i:=hS.moved (λo u=>r.heap S _ d' u) λk' _ a x=>x.moved λo u=>r.heap a _ (y q x) u;show uk _ E.in1 (Um [y_ (n i)] (setAdd S (.ref (n i)))>>=_) _ _ t;refine e_ (Rv ?_);unfold setAdd;refine Rv ?_;refine e_ (wpAny_pyHash_tuple hu (I i w) ?_);have j':g i∉((rl i).map g).reverse:=λr=>by rw[List.mem_reverse]at r;obtain⟨j,hj,f⟩:=QW.mp r;have w':=Rt.mp hj;have:=a' j i (by omega) w f;omega
 refine Kc (f:={t with toks:=t.toks+((g i).length+1)}) hu f' (I i w) j' (by omega) λh' H v'=>?_;obtain⟨oS,x',y',tS,q',_,t',_⟩:=f';have u':č p m h' S (((rl (i+1)).map g).reverse) (((rl (i+1)).map λj=>y_ (n j)).reverse) (i+1):=by rw[W4,S8,XR,S8,XR];exact v'
 refine m_ ⟨Vi Se _,ih (i+1) _ (by omega) w (W.frame _ t _ _ i' (by simp) λb hb o f=>?_) (λj hj=>(I j hj).keeps q' t' H) u' λn' l' m'=>?_⟩;·rw[H.2 b (λh:b=S=>e' (by rw[<-h];exact hb))];exact f
 ·refine hR n' (Moved.trans W.gtrans ((r.mono z).then_heap (by simp) λb o hb f=>?_) l') m';rw[H.2 b (λh:b=S=>hb (by rw[h];exact q_))];exact f
abbrev iz(a:Bool):Obj:={cls:=.type "set",dict:=Y,data:=.set #[] 0 (.fresh 0 0 a)}
theorem Fm(a:I.get? e=Z (iz (!ú m))):č p m I e [] [] 0:=⟨_,#[],0,_,a,⟨rfl,rfl,rfl⟩,rfl,rfl,⟨rfl,rfl,P8,QZ _⟩,.inl ⟨rfl,by omega⟩,(λa b=>by simp at b),.refl _,rfl,λ_ z=>absurd rfl z⟩
theorem sf(a:D){b:D->g_->Prop}(h:b (.ref f.heap.objs.size) {f with heap:=f.heap.push (iz (!ú m))}):Ta (x_ p m) E (.call (.builtin "set.__new__") ⟨[.type "set",a],[]⟩) (wants b ο) f:=by refine Vy ?_;show uk _ E.in1 (do checkBuiltinCall "set.__new__" ⟨[.type "set",a],[]⟩;Y8 (.builtin "set.__new__" ⟨[.type "set",a],[]⟩)) _ _ f;refine e_ (S_ (F.newCall_set_1 a) (m_ ⟨Vi F.plain_set_new _,RE F.entry_set_new ?_⟩));rw[Sd F.plain_set_new _];unfold Sh.«set.__new__»Zc;have e:=sub_set_self;obtain⟨j,g,d,i,os⟩:=f;dsimp only;wp_walk;refine Tr (m_ ?_);dsimp only;simp only[newObj];exact e_ (wpAny_alloc (m_ (m_ h)))
theorem Kd{g:Nat->List Str}{h:Nat->B}{R:WN->g_->Prop}(hh:E.handled=Y)(hu:E.units+8<cLine)(hl:f.heap.IsList e Δ)(hk:∀i,i<Δ.size->Δ[i]?=Z (.ref (h i))/\TK p m f.heap (g i) (h i))(hn:Δ.size<=18)(r:∀i j,i<Δ.size->j<Δ.size->g i=g j->i=j)(hR:∀(t:J_)(tk:Nat),č p m t f.heap.objs.size (((rl Δ.size).map g).reverse) (((rl Δ.size).map λj=>y_ (h j)).reverse) Δ.size->(∀b o,b<f.heap.objs.size->f.heap.get? b=Z o->t.get? b=Z o)->R (.ok (.ret .none)) {f with heap:=t,toks:=tk}):Ta (x_ p m) E (.call (.builtin "set.__init__") ⟨[.ref f.heap.objs.size,.ref e],[]⟩) R {f with heap:=f.heap.push (iz (!ú m))}:=by
 have hS:(f.heap.push (iz (!ú m))).get? f.heap.objs.size=Z (iz (!ú m)):=pi _ rfl;have hT:Tj {f with heap:=f.heap.push (iz (!ú m))} (.ref f.heap.objs.size) "set":=⟨_,hS,rfl⟩;refine Vo Q7.init.plain Wy (Wr hT ?_);obtain⟨ol,u,A,nl,z⟩:=hl;obtain⟨l',q,k',n⟩:=ol;simp only at A z;subst A;subst z;have H:(f.heap.push (iz (!ú m))).get? e=Z {cls:=.type "list",dict:=q,data:=.seq Δ nl,slots:=n}:=j_ _ u;have s1:=F.sub_list_set;have s2:=Xr;have s3:(r_ "list"==r_ "dict")=L:=by decide
 have y:(f.heap.push (iz (!ú m))).IsList e Δ:=⟨_,H,rfl,nl,rfl⟩;unfold Sh.«set.__init__»noKeywords TU;generalize j':X3=PI;wp_walk;subst j';refine SD y (e_ (UQ ?_));have w:e<f.heap.objs.size:=v_ u;have I:e≠(f.heap.push (iz (!ú m))).objs.size:=by rw[N_];exact F_ (Rm w)
 have f':f.heap.objs.size∉[(f.heap.push (iz (!ú m))).objs.size,e]:=by rw[N_];simp only[t_,K_,or_false,not_or];exact⟨F_ (RI _),Td w⟩
 have up:∀{k:List Str}{a:B},TK p m f.heap k a->TK p m ((f.heap.push (iz (!ú m))).push {cls:=.type "list_iterator",data:=.fields #[.ref e,.int 0 0]}) k a:=λx=>x.moved λo d=>j_ _ (j_ _ d);refine NM ((X4 (by simp[hh]) _ e I Δ).toS) f.heap.objs.size f' (by show E.units+1+1<cLine;omega) rfl (λi s' st=>by obtain⟨⟨o,ho,_,hd⟩,_⟩:=st;exact⟨o,_,ho,hd⟩) h g (λi v hv=>?_) hn r (Δ.size-0) 0 _ (by omega) (QZ _) ⟨⟨_,pi _ rfl,rfl,rfl⟩,(y.push _)⟩ (λj hj=>up (hk j hj).2) ?_ ?_;·have hi:i<Δ.size:=(RO.mp hv).1;have:=(hk i hi).1;rw[this]at hv;exact(Q4 hv).symm
 ·exact Fm (j_ _ hS)
 · intro s' P i';obtain⟨t,g',d',a',b'⟩:=s';have eg:g'=f.gens:=P.gens;have ed:d'=f.drawn:=P.drawn;have eo:b'=f.os:=P.os;subst eg;subst ed;subst eo;show uk _ _ _ _ _ _;refine m_ ?_;show uk _ _ (ret H_) _ _ _;refine m_ (hR t a' i' λb o hb d=>?_);have e':b≠f.heap.objs.size:=F_ hb;have c':b≠(f.heap.push (iz (!ú m))).objs.size:=by rw[N_];exact F_ (Rm hb)
   exact P.heap b o (by simp only[t_,K_,or_false,not_or];exact⟨e',c'⟩) (j_ _ (j_ _ d))
theorem call_set_T{g:Nat->List Str}{n:Nat->B}(hh:E.handled=Y)(hu:E.units+16<cLine)(hl:f.heap.IsList e Δ)(hk:∀i,i<Δ.size->Δ[i]?=Z (.ref (n i))/\TK p m f.heap (g i) (n i))(hn:Δ.size<=18)(u:∀i j,i<Δ.size->j<Δ.size->g i=g j->i=j)(h:∀(k:J_)(w:Nat),č p m k f.heap.objs.size (((rl Δ.size).map g).reverse) (((rl Δ.size).map λj=>y_ (n j)).reverse) Δ.size->(∀b o,b<f.heap.objs.size->f.heap.get? b=Z o->k.get? b=Z o)->Å (.ref f.heap.objs.size) {f with heap:=k,toks:=w}):uk (x_ p m) E (call (.type "set") [.ref e]) Å ο f:=by
 obtain⟨c,tl,b'⟩:=Q7.mro;have P:=Q7.made;have a':=Q7.sub;refine Ue (Vy ?_);show uk _ _ (callAny (.type "set") _) _ _ _;refine m_ ⟨UD _ (by decide+kernel),RE Wb ?_⟩;rw[V0 (U9 "set" [.ref e] []) rfl];have h1:=Q7.notType;have h2:=Q7.canCreate;have d':=Wu (.ref e);repeat(any_goals(first|assumption|wp_step))
 refine RT (sf (.ref e) (ο:=ο) (b:=λy t=>y=.ref f.heap.objs.size/\t={f with heap:=f.heap.push (iz (!ú m))}) ⟨rfl,rfl⟩) λr t A=>?_;cases r with|error a=>exact A|ok fl=>cases fl with
 |ret y=>
  obtain⟨rfl,rfl⟩:=A;have hT:Tj {f with heap:=f.heap.push (iz (!ú m))} (.ref f.heap.objs.size) "set":=⟨_,pi _ rfl,rfl⟩;have c':=Q7.init.lookup;have e':=Q7.init.bind (.ref f.heap.objs.size);repeat(any_goals(first|assumption|wp_step))
  refine RT (Kd (R:=wants (λr q=>r=.none/\∃k w,q={f with heap:=k,toks:=w}/\č p m k f.heap.objs.size (((rl Δ.size).map g).reverse) (((rl Δ.size).map λj=>y_ (n j)).reverse) Δ.size/\(∀b o,b<f.heap.objs.size->f.heap.get? b=Z o->k.get? b=Z o)) ο) (by simp[hh]) (by show E.units+1+8<cLine;omega) hl hk hn u λk w q1 q2=>⟨rfl,k,w,rfl,q1,q2⟩) λz q d=>?_;cases z with|error a=>exact d|ok v=>cases v with
  |ret r=>
  obtain⟨rfl,k,w,rfl,I,H⟩:=d;repeat(any_goals(first|assumption|wp_step))
  exact h _ _ I H|_=>exact d.elim
 |_=>exact A.elim
theorem len_T{g:List (List Str)}(k:č p m f.heap e g ξ d)(r:d<=18)(h:∀t b,Å (.int d t) {f with toks:=b}):uk (x_ p m) E (call (.builtin "len") [.ref e]) Å ο f:=by obtain⟨o,n,w,t,i,hex,j,a,T,u,v,q⟩:=k;subst a;exact call_len_set i hex j (oE T) (Int.lt_of_le_of_lt (show((n.size:Nat):Int)<=18 by omega) (by decide)) (h _ _)
end ST
variable{χ:SetTable}{Β:Nat}
namespace FD
open L2
noncomputable def gJ:List N->Option (List Str)|[]=>Z []|.str x::r=>(gJ r).map (x::·)|_=>Y
def keysOf:List N->Option (List (List Str))
 |[]=>Z []|.tup b::r=>match gJ b,keysOf r with|some k,Z a=>Z (k::a)|_,_=>Y
 |_=>Y
def lT:Ï
 |[.lst b]=>match keysOf b with|some a=>if a.Nodup/\a.length<=18 then Z (.ok (.int a.length))else Y|none=>Y
 |_=>Y
theorem nu{X:C}{H:Hp}{e:n_}{w:w_}:∀{d:List N}{k:List Str}{b:List V}{a:List D},gJ d=Z k->O X.K H d b->Ð b a->PySem.ItemsAre (Rw e w) k a
 |[],k,b,a,h,r,v=>by cases h;cases(show b=[]from r);cases v;exact .nil|.str x::d,k,b,a,h,r,v=>by obtain⟨y,f,rfl,m,j⟩:∃v f,b=v::f/\Ó X.K H (.str x) v/\O X.K H d f:=r;cases(show y=.str x from m);obtain⟨o,n,rfl⟩:=TJ.mp (show(gJ d).map (x::·)=Z k from h);cases v with|cons i g=>obtain⟨t,rfl⟩:=i;exact .cons (by show Vj x (.str x t)=U;simp[Vj]) (nu n j g)
 |.non::d,k,b,a,h,r,v=>by cases h|.bl _::d,k,b,a,h,r,v=>by cases h|.int _::d,k,b,a,h,r,v=>by cases h|.tup _::d,k,b,a,h,r,v=>by cases h|.lst _::d,k,b,a,h,r,v=>by cases h|.scr _::d,k,b,a,h,r,v=>by cases h|.exn _::d,k,b,a,h,r,v=>by cases h|.obj _ _::d,k,b,a,h,r,v=>by cases h
theorem NN(I:Ì a ζ Λ h f){j:List N}{k:List Str}{v:V}{u:D}(g:gJ j=Z k)(r:Ó a.K h (.tup j) v)(q:Ü v u):∃b,u=.ref b/\ST.TK a.prog a.w f.heap k b:=by obtain⟨b,w,rfl,t,p⟩:=r.tupE;cases(show u=y_ b from q);obtain⟨i,m,⟨o,e,c,n,d⟩,y⟩:=I.tuple (ü.of t);exact⟨b,rfl,o,i.toArray,_,e,c,d,by simpa using nu g p m⟩
theorem xY{X:C}{z:List (B×Obj)}{m:L2.St}{H:Hp}{s:g_}(I:Ì X z m H s):∀{f:List N}{e:List (List Str)}{d:List V}{b:List D},keysOf f=Z e->O X.K H f d->Ð d b->e.length=b.length/\∀i,i<b.length->∃a,b[i]?=Z (.ref a)/\ST.TK X.prog X.w s.heap (e.getD i []) a
 |[],e,d,b,h,r,v=>by cases h;cases(show d=[]from r);cases v;exact⟨rfl,λi j=>absurd j (UA _)⟩|.tup P::f,e,d,b,h,r,v=>by
  obtain⟨y,g,rfl,t,q⟩:∃v g,d=v::g/\Ó X.K H (.tup P) v/\O X.K H f g:=r;unfold keysOf at h;split at h;·rename_i k b' E A;cases h;cases v with|cons o n=>obtain⟨a,rfl,p⟩:=NN I E t o;obtain⟨w,u⟩:=xY I A q n;refine⟨by simp[w],λi j=>?_⟩;cases i with|zero=>exact⟨a,rfl,p⟩|succ i=>obtain⟨a',e1,e2⟩:=u i (by simpa using j);exact⟨a',by simpa using e1,by simpa using e2⟩
  ·cases h|.non::f,e,d,b,h,r,v=>by cases h|.bl _::f,e,d,b,h,r,v=>by cases h|.int _::f,e,d,b,h,r,v=>by cases h|.str _::f,e,d,b,h,r,v=>by cases h|.lst _::f,e,d,b,h,r,v=>by cases h|.scr _::f,e,d,b,h,r,v=>by cases h|.exn _::f,e,d,b,h,r,v=>by cases h|.obj _ _::f,e,d,b,h,r,v=>by cases h
theorem vw{a:List υ}{d:υ}(h:a.Nodup){i j:Nat}(f:i<a.length)(b:j<a.length)(e:a.getD i d=a.getD j d):i=j:=by rw[Uk,Uk,C_ f,C_ b]at e;exact(YG h).mp (by simpa using e)
variable{Ψ:Pos}
theorem xZ(hu:a.A.units+64<cLine)(hc:a.calm=U)(hg:Gl a "len")(hm:a.mg "len"=Y)(f':Gl a "set")(c':a.mg "set"=Y)(ha:FA a [g] ε)(he:k_ [.Call (.Name "set" w) [g] [] Ψ] a.env=(L,eval (.Call (.Name "set" w) [g] [] Ψ) a.env)::k_ [] a.env:=by lk)(b':(O_ ω (k_ [] a.env)).any (·.1)=L:=by lk)(g':k_ [g] a.env=(L,eval g a.env)::k_ [] a.env:=by lk)(A:(O_ Ψ (k_ [] a.env)).any (·.1)=L:=by lk):FE a (.Call (.Name "len" o) [.Call (.Name "set" w) [g] [] Ψ] [] ω) (ß lT ε):=⟨λj' s σ H Q I⟨ρ,E,e⟩=>by
 refine RD (gD I hg hm Y5 ?_ (by decide) (by decide));refine Tv ?_ he b';rw[he];show uk _ _ (spliced ((L,eval (.Call (.Name "set" w) [g] [] Ψ) a.env)::O_ ω (k_ [] a.env))) _ _ s;refine VW ?_;refine RD (gD I f' c' (Ε:=.type "set") (by decide+kernel) ?_ (by decide) (by decide));refine Rz (â (ha.h Ψ j' s σ H _ I ⟨ρ,E,ä.bind e λy vs p e1 rs h=>(show∃y,O a.K p y vs/\ê a p (lT y) Q from⟨y,rs,h⟩)⟩) λus s1⟨vs,p,P,r1,y,rs,h⟩=>?_) g' A;unfold lT at h;split at h
 · rename_i es;obtain⟨v,rfl,r⟩:=dq rs;obtain⟨l,xs,rfl,hl,rx⟩:=r.lstE;obtain⟨u,rfl,ru⟩:=eQ r1;cases(show u=y_ l from ru);split at h
   · rename_i ks d';split at h
     · rename_i m;obtain⟨z,k,n,rv,hz,eh⟩:=P.lstM hl;obtain⟨q1,q2⟩:=xY P d' rx rv;have f:k.toArray.size=ks.length:=by simp[q1]
       refine ST.call_set_T (Δ:=k.toArray) (g:=λi=>ks.getD i []) (n:=λi=>match k[i]? with|some (.ref d)=>d|_=>0) (P.ok.hd hc) (by omega) ⟨_,eh,rfl,n,rfl⟩ (λi hi=>?_) (by rw[f];exact m.2) (λi j hi hj i'=>?_) λh' tk hS e'=>?_;·obtain⟨d,e1,e2⟩:=q2 i (by simpa using hi);simp only[List.getElem?_toArray,e1];exact⟨trivial,e2⟩
       ·exact vw m.1 (by rw[<-f];exact hi) (by rw[<-f];exact hj) i'
       ·refine UW ?_;refine ST.len_T hS (by rw[f];exact m.2) λt a'=>⟨.int (ks.length:Nat),p,?_,⟨t,by rw[f]⟩,h _ p (.refl p) rfl⟩;exact P.kept (t':=a') λb u q=>e' b u (v_ q) q
     ·exact h.elim
   ·exact h.elim
 ·exact h.elim⟩
def frs{b:Type}(P:b->Bool):Sem b->Bool|.pure a=>P a|.fresh _=>U|.at _ k=>frs P (k ())|.rule _ k=>frs P (k ())|.point _ k=>frs P (k ())|_=>L
structure FE1(X:C)(e:u_)(f:Ò):Prop where h:∀(j':List (B×Obj))(s:g_)(σ:L2.St)(H:Hp)(Q:VK),1<=s.toks->Ì X j' σ H s->tF X f σ H Q->uk (x_ X.prog X.w) X.A (eval e X.env) (EP X j' σ Q) X.xe s
structure FTg(X:C)(e:u_)(f:ã):Prop where h:∀(j':List (B×Obj))(s:g_)(σ:L2.St)(H:Hp)(Q:Bool->Hp->Prop),Ì X j' σ H s->tT X f σ H Q->uk (x_ X.prog X.w) X.A (isTrue e X.env (eval e X.env)) (λb s'=>(b=U\/1<=s'.toks)/\TP X j' σ Q b s') X.xe s
structure FWg(X:C)(e:u_)(f:ã):Prop where h:∀(whole:Sem D)(j':List (B×Obj))(s:g_)(σ:L2.St)(H:Hp)(Q:Bool->Hp->Prop),Ì X j' σ H s->tT X f σ H Q->uk (x_ X.prog X.w) X.A (isTrue e X.env whole) (λb s'=>(b=U\/1<=s'.toks)/\TP X j' σ Q b s') X.xe s
noncomputable def Pd:Flow->Bool|.next=>U|_=>L
theorem FE.to1(h:FE a g y):FE1 a g y:=⟨λd s b H Q _ I q=>h.h d s b H Q I q⟩
theorem FWg.ft(h:FWg a g Μ):FTg a g Μ:=⟨h.h _⟩
theorem nv(i:f.heap.IsTupleIter e v d)(r:f.heap.IsTuple v Δ)(o:Δ[d]?=Z Ε)(q:∀h,h.IsTupleIter e v (d+1)->SK e f.heap h->Å Ε {f with heap:=h}):uk (x_ p m) E (RC (.ref e)) Å ο f:=by obtain⟨u,g,n,b⟩:=id i;obtain⟨t,k,_,a,j⟩:=r;unfold RC;refine e_ (Rf (name:=b_ "__next__") i.typeIs SW (Ro SW i.typeIs VJ ?_ (VB _)));show uk _ _ (Y3 (.ref e) 0>>=_) _ _ f;refine e_ (RL g b (x:=.ref v) rfl ?_);show uk _ _ (if(y_ v==H_)=U then _ else _) _ _ f;rw[if_neg (show¬((y_ v==H_)=U)from B_)];show uk _ _ (Y3 (.ref e) 1>>=_) _ _ f;refine e_ (RL g b (x:=.int d 0) rfl ?_);show uk _ _ (seqItems? (.ref v)>>=_) _ _ f;refine e_ (RX k j ?_);simp only[Ub,o];refine e_ (wpAny_setField g b (by simp) (m_ ⟨Ε,rfl,m_ (q _ ⟨_,RV _ g (Obj.isFreed_of_fields (X8 b _)),(Obj.cls_mapFields ..).trans n,by rw[X8 b];simp[RY]⟩ (SH ..))⟩))
theorem x3(k:E.handled=Y)(j:f.heap.IsTupleIter e v d)(u:f.heap.IsTuple v Δ)(t:Δ[d]?=Y)(q:∀i a,YN e f.heap i->(∃o,i.get? a=Z o/\o.cls=.type "StopIteration")->ο (.ref a) {f with heap:=i}):uk (x_ p m) E (RC (.ref e)) Å ο f:=by
 obtain⟨y,h,z,g⟩:=id j;obtain⟨w,r,_,b,n⟩:=u;unfold RC;refine e_ (Rf (name:=b_ "__next__") j.typeIs SW (Ro SW j.typeIs VJ ?_ (VB _)));show uk _ _ (Y3 (.ref e) 0>>=_) _ _ f;refine e_ (RL h g (x:=.ref v) rfl ?_);show uk _ _ (if(y_ v==H_)=U then _ else _) _ _ f;rw[if_neg (show¬((y_ v==H_)=U)from B_)];show uk _ _ (Y3 (.ref e) 1>>=_) _ _ f;refine e_ (RL h g (x:=.int d 0) rfl ?_);show uk _ _ (seqItems? (.ref v)>>=_) _ _ f;refine e_ (RX r n ?_);simp only[Ub,t];refine e_ (TC (e_ (wpAny_setField h g (by simp) ?_)));show uk _ _ (newExc (.type "StopIteration") []>>=_) _ _ _;refine e_ ?_;simp only[newExc,Y1];refine e_ (Ra ?_ (by size_fits));refine e_ (m:=Uf _ _) (S_ (a:=H_) (by first|rfl|(simp only[Uf];rfl)) ?_);refine Ra ?_ (by size_fits);simp only[raiseNew];refine e_ (XU ?_);first|rw[show E.in1.handled=Y from k]|rw[k]
 exact e_ (m_ (YH (q _ _ (((SH ..).extBut.push _).push _) ⟨_,pi _ rfl,rfl⟩)))
theorem ya{k j P I:B}{ys:Array D}{y a b:D}{Q:Option D->g_->Prop}(h:Y9 e v Ι k j P I)(z:Xp f.heap e v Ι .none)(g':UU f.heap v (.ref k) (.ref j))(f':UU f.heap Ι a b)(j1:f.heap.IsTupleIter k P d)(j2:f.heap.IsTupleIter j I d)(m1:f.heap.IsTuple P Δ)(m2:f.heap.IsTuple I ys)(hx:Δ[d]?=Z Ε)(hy:ys[d]?=Z y)(q:∀n,Xp n e v Ι (RY f.heap.objs.size)->UU n Ι Ε y->n.IsTupleIter k P (d+1)->n.IsTupleIter j I (d+1)->UU n f.heap.objs.size Ε y->n.objs.size=f.heap.objs.size+1->(∀c o,c≠e->c≠Ι->c≠k->c≠j->f.heap.get? c=Z o->n.get? c=Z o)->Q (Z (.ref f.heap.objs.size)) {f with heap:=n}):uk (x_ p m) E (TX (.ref e)) Q ο f:=by
 have ty:f.TypeIs (.ref e) "zip":=⟨_,z,rfl⟩;unfold TX;refine e_ (Ti (Rf (name:=b_ "__next__") ty VA (Ro VA ty F.entry_zip_next ?_ (F.args_zip_next_1 _))));show uk _ _ (Y3 (.ref e) 2>>=_) _ _ f;refine e_ (RL z rfl (x:=.bool L) rfl ?_);show uk _ _ (Y3 (.ref e) 3>>=_) _ _ f;refine e_ (RL z rfl (x:=.ref v) rfl ?_);refine e_ (RX g' rfl ?_);show uk _ _ (R9 (.ref e)>>=_) _ _ f;refine e_ ?_;unfold R9;refine e_ (RL z rfl (x:=.none) rfl (m_ ?_));simp only[if_true];refine e_ (TC ?_);refine e_ (RL z rfl (x:=.ref Ι) rfl ?_);refine e_ (Ru z (by simp) λhA zA r=>?_);have d':Xp hA e v Ι .ellipsis:=zA;refine e_ ?_;simp only[YF,YT,W5,V4];refine e_ (e_ (XT ?_));show uk _ _ (RC (.ref k)>>=_) _ _ _;refine e_ (nv (j1.extBut r.extBut h.i1z) (m1.extBut r.extBut h.l1z) hx λhB jB w=>m_ ?_);have tB:UU hB Ι a b:=w.extBut _ _ h.TOi1 (r.extBut _ _ h.TOz f');refine e_ (RX tB rfl ?_);refine e_ (Xf tB λhC tC u=>?_);have e':UU hC Ι Ε b:=tC;refine e_ (YI (m_ ?_));refine e_ (e_ (XT ?_));show uk _ _ (RC (.ref j)>>=_) _ _ _;refine e_ (nv (((j2.extBut r.extBut h.i2z).extBut w.extBut h.i12.symm).extBut u.extBut h.TOi2.symm) (((m2.extBut r.extBut h.l2z).extBut w.extBut h.l2i1).extBut u.extBut h.l2TO) hy λhD jD H=>m_ ?_);have tD:UU hD Ι Ε b:=H.extBut _ _ h.TOi2 e';refine e_ (RX tD rfl ?_);refine e_ (Xf tD λi tF A=>?_);have b':UU i Ι Ε y:=tF;refine e_ (YI (m_ (m_ ?_)));refine e_ (RX b' rfl ?_);refine e_ (wpAny_newTuple ?_);have n5:i.objs.size=f.heap.objs.size:=by rw[A.1,H.1,u.1,w.1,r.1]
 have z5:Xp i e v Ι .ellipsis:=A.extBut _ _ h.TOz.symm (H.extBut _ _ h.i2z.symm (u.extBut _ _ h.TOz.symm (w.extBut _ _ h.i1z.symm d')));have k5:∀c o,c≠e->c≠Ι->c≠k->c≠j->f.heap.get? c=Z o->i.get? c=Z o:=λc o t c2 c3 c4 g=>A.extBut _ _ c2 (H.extBut _ _ c4 (u.extBut _ _ c2 (w.extBut _ _ c3 (r.extBut _ _ t g))));have p1:i.IsTupleIter k P (d+1):=((jB.extBut u.extBut h.TOi1.symm).extBut H.extBut h.i12).extBut A.extBut h.TOi1.symm;have p2:i.IsTupleIter j I (d+1):=jD.extBut A.extBut h.TOi2.symm;have nz:e<i.objs.size:=v_ z5;show uk _ _ (Us (.ref e) (.ref i.objs.size)>>=_) _ _ _;refine e_ ?_;unfold Us;have z6:Xp (i.push {cls:=.type "tuple",data:=.seq #[Ε,y]}) e v Ι .ellipsis:=j_ _ z5;refine e_ (Ru z6 (by simp) λhG zG sG=>?_);have c':Xp hG e v Ι (RY i.objs.size):=zG;refine Ru c' (by simp) λhH zH sH=>?_;have a':Xp hH e v Ι (RY i.objs.size):=zH;have up:∀c o,c≠e->i.get? c=Z o->hH.get? c=Z o:=λc o t g=>sH.extBut _ _ t (sG.extBut _ _ t (j_ _ g));have pr:UU hH i.objs.size Ε y:=sH.extBut _ _ (Td nz) (sG.extBut _ _ (Td nz) (pi _ rfl));have n8:hH.objs.size=i.objs.size+1:=by rw[sH.1,sG.1,N_]
 rw[n5]at a' pr n8;refine m_ ⟨_,rfl,m_ ?_⟩;show Q (Z (.ref i.objs.size)) _;rw[n5];exact q hH a' (up _ _ h.TOz b') (p1.at λo g=>up _ o h.i1z g) (p2.at λo g=>up _ o h.i2z g) pr n8 λc o t c2 c3 c4 g=>up c o t (k5 c o t c2 c3 c4 g)
theorem Bo{j r n l2:B}{b:D}{Q:Option D->g_->Prop}(hh:E.handled=Y)(a:Y9 e v Ι j r n l2)(i:Xp f.heap e v Ι .none)(w:UU f.heap v (.ref j) (.ref r))(a':UU f.heap Ι Ε b)(j1:f.heap.IsTupleIter j n d)(m1:f.heap.IsTuple n Δ)(hx:Δ[d]?=Y)(q:∀I,(∀c o,c≠e->c≠Ι->c≠j->c≠r->f.heap.get? c=Z o->I.get? c=Z o)->Q Y {f with heap:=I}):uk (x_ p m) E (TX (.ref e)) Q ο f:=by
 have z:f.TypeIs (.ref e) "zip":=⟨_,i,rfl⟩;unfold TX;refine e_ (Ti (Rf (name:=b_ "__next__") z VA (Ro VA z F.entry_zip_next ?_ (F.args_zip_next_1 _))));show uk _ _ (Y3 (.ref e) 2>>=_) _ _ f;refine e_ (RL i rfl (x:=.bool L) rfl ?_);show uk _ _ (Y3 (.ref e) 3>>=_) _ _ f;refine e_ (RL i rfl (x:=.ref v) rfl ?_);refine e_ (RX w rfl ?_);show uk _ _ (R9 (.ref e)>>=_) _ _ f;refine e_ ?_;unfold R9;refine e_ (RL i rfl (x:=.none) rfl (m_ ?_));simp only[if_true];refine e_ (TC ?_);refine e_ (RL i rfl (x:=.ref Ι) rfl ?_);refine e_ (Ru i (by simp) λhA zA k=>?_);have u:Xp hA e v Ι .ellipsis:=zA;refine e_ ?_;simp only[YF,YT,W5,V4];refine e_ (e_ (XT ?_));show uk _ _ (RC (.ref j)>>=_) _ _ _;refine e_ (x3 hh (j1.extBut k.extBut a.i1z) (m1.extBut k.extBut a.l1z) hx λhB h H he=>?_);obtain⟨oe,t,P⟩:=he;have y:Xp hB e v Ι .ellipsis:=H _ _ a.i1z.symm u;have ne:h≠e:=λg=>by subst g;rw[y]at t;cases t;simp at P
 refine Ru y (by simp) λhC _ A=>?_;refine e_ (Vc (T:="StopIteration") (b:=U) ⟨oe,A.extBut _ _ ne t,P⟩ Xl (m_ (q hC λc o c1 _ c3 _ g=>A.extBut _ _ c1 (H _ _ c3 (k.extBut _ _ c1 g)))))
abbrev ZV(h:J_)(a:B):J_:=h.push {cls:=.type "tuple_iterator",data:=.fields #[.ref a,.int 0 0]}
abbrev ZS(h:J_)(b a:B):J_:=(ZV h b).push {cls:=.type "tuple_iterator",data:=.fields #[.ref a,.int 0 0]}
abbrev ZM(h:J_)(a b:B):J_:=(ZS h a b).push {cls:=.type "tuple",data:=.seq #[.ref h.objs.size,.ref (ZV h a).objs.size]}
abbrev ZN(h:J_)(b a:B):J_:=(ZM h b a).push {cls:=.type "tuple",data:=.seq #[.none,.none]}
abbrev rw(h:J_)(b a:B):J_:=(ZN h b a).push {cls:=.type "zip",data:=.fields #[.none,.bool L,.bool L,.ref (ZS h b a).objs.size,.ref (ZM h b a).objs.size]}
theorem Bp(a b:B)(f e:Array D):Meets (Sh.«zip.__new__» ⟨[.type "zip",.ref a,.ref b],[]⟩) (λ_ R s=>s.heap.IsTuple a f/\s.heap.IsTuple b e/\R (.ok (.ret (.ref (ZN s.heap a b).objs.size))) {s with heap:=rw s.heap a b}):=.of_wp λk w A R s h=>by obtain⟨j,g,d,i,os⟩:=s;obtain⟨q,p,h⟩:=h;have m:=sub_zip;have o:Heap.IsTuple (Shared.heap ⟨j,g,d,i,os⟩) a f:=q;have n:Heap.IsTuple (Shared.heap ⟨j.push {cls:=.type "tuple_iterator",data:=.fields #[.ref a,.int 0 0]},g,d,i,os⟩) b e:=Heap.IsTuple.push p _;wp_walk using UC o,UC n;exact⟨_,rfl,h⟩
theorem yb{n:Array D}(z:f.heap.IsTuple e Δ)(y:f.heap.IsTuple v n)(q:∀a,Xp a (f.heap.objs.size+4) (f.heap.objs.size+2) (f.heap.objs.size+3) .none->UU a (f.heap.objs.size+2) (.ref f.heap.objs.size) (.ref (f.heap.objs.size+1))->UU a (f.heap.objs.size+3) .none .none->a.IsTupleIter f.heap.objs.size e 0->a.IsTupleIter (f.heap.objs.size+1) v 0->a.objs.size=f.heap.objs.size+5->(∀c o,f.heap.get? c=Z o->a.get? c=Z o)->Å (.ref (f.heap.objs.size+4)) {f with heap:=a}):uk (x_ p m) E (call (.type "zip") [.ref e,.ref v]) Å ο f:=by
 refine callType_new F.called_zip (by decide) (F.typeCall_zip_2 _ _) (F.newCall_zip_2 _ _) (λk=>F.args_object_init_3 k _ _) F.entry_zip_new (Bp e v Δ n) ⟨z,y,?_⟩;have i:(ZV f.heap e).objs.size=f.heap.objs.size+1:=N_ ..;have h:(ZS f.heap e v).objs.size=f.heap.objs.size+2:=by rw[N_,i]
 have d:(ZM f.heap e v).objs.size=f.heap.objs.size+3:=by rw[N_,h]
 have b:(ZN f.heap e v).objs.size=f.heap.objs.size+4:=by rw[N_,d]
 have w:(rw f.heap e v).objs.size=f.heap.objs.size+5:=by rw[N_,b]
 have P:=@j_;have j:(rw f.heap e v).get? (ZN f.heap e v).objs.size=Z _:=pi _ rfl;have r:(rw f.heap e v).get? (ZM f.heap e v).objs.size=Z _:=j_ _ (pi _ rfl);have t:(rw f.heap e v).get? (ZS f.heap e v).objs.size=Z _:=j_ _ (j_ _ (pi _ rfl));have u:(rw f.heap e v).get? (ZV f.heap e).objs.size=Z _:=j_ _ (j_ _ (j_ _ (pi _ rfl)));have A:(rw f.heap e v).get? f.heap.objs.size=Z _:=j_ _ (j_ _ (j_ _ (j_ _ (pi _ rfl))));show _/\_;rw[h,d,b]at j;rw[i,h]at t;rw[d]at r;rw[i]at u;rw[b];exact⟨⟨_,j,rfl⟩,q _ j t r ⟨_,A,rfl,rfl⟩ ⟨_,u,rfl,rfl⟩ w λc o g=>j_ _ (j_ _ (j_ _ (j_ _ (j_ _ g))))⟩
def Itz(a b:B):It:=⟨λi H=>∃d e x y,H a=Z (.tup d)/\H b=Z (.tup e)/\d[i]?=Z x/\e[i]?=Z y,λi H v f=>∃p x y,v=.ref p/\H p=Y/\f=Ý H p (.tup [x,y])/\(∀d,H a=Z (.tup d)->d[i]?=Z x)/\(∀e,H b=Z (.tup e)->e[i]?=Z y),λi H=>∃d e,H a=Z (.tup d)/\H b=Z (.tup e)/\d.length<=i⟩
structure ZSt(z TI TO i1 i2 a b:B)(i:Nat)(h:J_):Prop where
 z:Xp h z TI TO .none
 ti:UU h TI (.ref i1) (.ref i2)to:∃p q,UU h TO p q
 j1:h.IsTupleIter i1 a i
 j2:h.IsTupleIter i2 b i
structure ZNe(z TI TO i1 i2:B):Prop where
 n1:TI≠z
 n2:TO≠z
 n3:i1≠z
 n4:i2≠z
 n5:TI≠TO
 n6:TI≠i1
 n7:TI≠i2
 n8:TO≠i1
 n9:TO≠i2
 n10:i1≠i2
theorem NO{b a c:B}(h:c∈[e,v,Ι,b,a]):c=e\/c=v\/c=Ι\/c=b\/c=a:=by simpa using h
theorem Bq(a b z TI TO i1 P:B)(N:ZNe z TI TO i1 P):Aa p m u (.Tuple t d o) (Itz a b) [z,TI,TO,i1,P] z (λi h=>ZSt z TI TO i1 P a b i h)where
 mem:=by simp
 obj:=λi h st c hc=>by
  obtain⟨k,q,g3⟩:=st.to;rcases NO hc with rfl|rfl|rfl|rfl|rfl;·exact⟨_,st.z,λv g=>by cases g⟩
  ·exact⟨_,st.ti,λv g=>by cases g⟩
  ·exact⟨_,g3,λv g=>by cases g⟩
  ·obtain⟨f,e,_,A⟩:=st.j1;exact⟨f,e,λv g=>by rw[A]at g;cases g⟩
  ·obtain⟨f,e,_,A⟩:=st.j2;exact⟨f,e,λv g=>by rw[A]at g;cases g⟩
 keep:=λi h h' st kk=>by obtain⟨k,q,g3⟩:=st.to;exact⟨kk z (by simp) _ st.z,kk TI (by simp) _ st.ti,⟨k,q,kk TO (by simp) _ g3⟩,st.j1.at λf e=>kk i1 (by simp) f e,st.j2.at λf e=>kk P (by simp) f e⟩
 item:=by
  intro X hP hw hK hc i j' s σ H E I hf st hg;subst hP hw hK;obtain⟨xs,ys,x,y,ha,hb,hx,hy⟩:=hg;obtain⟨g',rv,k,_⟩:=I.tuple (ü.of ha);obtain⟨q',sv,p',_⟩:=I.tuple (ü.of hb);obtain⟨w,hu,ru⟩:=rv.get hx;obtain⟨v,hv,o'⟩:=sv.get hy;obtain⟨q1,q2,f'⟩:=st.to;have F:∀c∈[z,TI,TO,i1,P],rL X j' H c:=hf;have fr:∀c∈[z,TI,TO,i1,P],H c=Y:=λc j=>(hf c j).1;have an:∀c∈[z,TI,TO,i1,P],a≠c:=λc j g=>by rw[g,fr c j]at ha;cases ha
  have bn:∀c∈[z,TI,TO,i1,P],b≠c:=λc j g=>by rw[g,fr c j]at hb;cases hb
  have D:Y9 z TI TO i1 P a b:=⟨N.n1,N.n2,N.n3,N.n4,N.n5,N.n6,N.n7,N.n8,N.n9,N.n10,an z (by simp),an TO (by simp),an i1 (by simp),an P (by simp),bn z (by simp),bn TO (by simp),bn i1 (by simp),bn P (by simp)⟩;refine ya D st.z st.ti f' st.j1 st.j2 (show s.heap.IsTuple a g'.toArray from k) (show s.heap.IsTuple b q'.toArray from p') (Ε:=w) (y:=v) (by simpa using hu) (by simpa using hv) λh' a1 a2 a3 a4 a5 a6 kk=>?_;refine⟨_,rfl,wpAny_letOwnedTupleGo_zip a1 λh2 z2 d'=>?_⟩;have hp:H s.heap.objs.size=Y:=I.hok.fresh (s_ _);have k':z<s.heap.objs.size:=v_ st.z;have k2:∀c f,c∉[z,TO,i1,P]->s.heap.get? c=Z f->h2.get? c=Z f:=λc f b' q=>d'.extBut c f (λg=>b' (by simp[g])) (kk c f (λg=>b' (by simp[g])) (λg=>b' (by simp[g])) (λg=>b' (by simp[g])) (λg=>b' (by simp[g])) q);have n':h2.get? s.heap.objs.size=Z {cls:=.type "tuple",data:=.seq #[w,v]}:=d'.extBut _ _ (Td k') a5;have sub:∀c,c∈[z,TO,i1,P]->c∈[z,TI,TO,i1,P]:=λc j=>by
   have m':c=z\/c=TO\/c=i1\/c=P:=by simpa using j
   rcases m' with rfl|rfl|rfl|rfl<;>simp
  have I1:Ì X j' σ (Ý H s.heap.objs.size (.tup [x,y])) {s with heap:=h2}:=by
   have nt:∀c f,H c=Z f->c∉[z,TO,i1,P]:=λc f q j=>by rw[fr c (sub c j)]at q;cases q
   refine I.step (g':=s.gens) (d':=s.drawn) (t':=s.toks) (ch:=[z,TO,i1,P]) (λc j=>?_) (λc f _ _ a' q _=>k2 c f a' q) (λc f _ _ a' q _=>⟨f.slots,k2 c f a' q⟩) (λc f a' q n=>?_) (λc f a' q=>⟨f,k2 c f a' q⟩) (λc zs q=>by rw[ay (au q hp)];exact q) (λc f zs q=>by rw[ay (au q hp)];exact q) (λc ps q=>⟨#[],by rw[ay (au q hp),q];simp⟩) (λj hm=>?_) (λc o2 q=>?_) I.bare;·obtain⟨f0,f1,Q,f3,f4,f5⟩:=hf c (sub c j);exact⟨f3,f1,f4,f5⟩
   ·rw[ay (F_ (v_ q))];exact n
   ·obtain⟨f,i',ep,ho,r⟩:=hm;exact⟨f,i',ep,k2 _ f (λj=>(hf _ (sub _ j)).2.1 rfl) ho,r⟩
   · by_cases l':c=s.heap.objs.size;·subst l';rw[aw]at q;cases q;exact⟨by show 2<=sizeLine;decide,[w,v],.cons ru (.cons o' .nil),⟨_,n',rfl,_,rfl⟩⟩
     · rw[ay l']at q;refine(I.hok c o2 q).stay (λe v' c' qq=>k2 e v' ?_ qq) (λe qq=>by rw[ay (au qq hp)];exact qq) λe zs qq=>by rw[ay (au qq hp)];exact qq
       rcases c' with rfl|c';·exact nt _ _ q
       ·exact nt _ _ c'
  refine⟨.ref s.heap.objs.size,_,I1,rfl,⟨_,x,y,rfl,hp,rfl,λzs e'=>?_,λzs e'=>?_⟩,⟨z2,?_,⟨_,_,d'.extBut _ _ N.n2 a2⟩,a3.at λf q=>d'.extBut _ _ N.n3 q,a4.at λf q=>d'.extBut _ _ N.n4 q⟩,λc j=>?_⟩;·rw[ha]at e';cases e';exact hx
  ·rw[hb]at e';cases e';exact hy
  ·exact d'.extBut _ _ N.n1 (kk _ _ N.n1 N.n5 N.n6 N.n7 st.ti)
  · have lt:c<s.heap.objs.size:=by
     rcases NO j with rfl|rfl|rfl|rfl|rfl;·exact k'
     ·exact v_ st.ti
     ·exact v_ f'
     ·obtain⟨_,e,_⟩:=st.j1;exact v_ e
     ·obtain⟨_,e,_⟩:=st.j2;exact v_ e
    rw[ay (F_ lt)];exact fr c j
 done:=by
  intro X hP hw hK hc i j' s σ H E I hf st hg;subst hP hw hK;obtain⟨xs,ys,ha,hb,hl⟩:=hg;obtain⟨g',rv,k,_⟩:=I.tuple (ü.of ha);obtain⟨q1,q2,f'⟩:=st.to;have fr:∀c∈[z,TI,TO,i1,P],H c=Y:=λc j=>(hf c j).1;have an:∀c∈[z,TI,TO,i1,P],a≠c:=λc j g=>by rw[g,fr c j]at ha;cases ha
  have bn:∀c∈[z,TI,TO,i1,P],b≠c:=λc j g=>by rw[g,fr c j]at hb;cases hb
  have D:Y9 z TI TO i1 P a b:=⟨N.n1,N.n2,N.n3,N.n4,N.n5,N.n6,N.n7,N.n8,N.n9,N.n10,an z (by simp),an TO (by simp),an i1 (by simp),an P (by simp),bn z (by simp),bn TO (by simp),bn i1 (by simp),bn P (by simp)⟩;have r':=rv.length;refine Bo (I.ok.hd hc) D st.z st.ti f' st.j1 (show s.heap.IsTuple a g'.toArray from k) (by simp;omega) λh' kk=>⟨rfl,?_⟩;have k2:∀c f,c∉[z,TO,i1,P]->s.heap.get? c=Z f->h'.get? c=Z f:=λc f b' q=>kk c f (λg=>b' (by simp[g])) (λg=>b' (by simp[g])) (λg=>b' (by simp[g])) (λg=>b' (by simp[g])) q;have sub:∀c,c∈[z,TO,i1,P]->c∈[z,TI,TO,i1,P]:=λc j=>by
   have m':c=z\/c=TO\/c=i1\/c=P:=by simpa using j
   rcases m' with rfl|rfl|rfl|rfl<;>simp
  have nt:∀c f,H c=Z f->c∉[z,TO,i1,P]:=λc f q j=>by rw[fr c (sub c j)]at q;cases q
  refine I.step (g':=s.gens) (d':=s.drawn) (t':=s.toks) (ch:=[z,TO,i1,P]) (λc j=>?_) (λc f _ _ a' q _=>k2 c f a' q) (λc f _ _ a' q _=>⟨f.slots,k2 c f a' q⟩) (λc f a' q n=>n) (λc f a' q=>⟨f,k2 c f a' q⟩) (λc zs q=>q) (λc f zs q=>q) (λc ps q=>⟨#[],by rw[q];simp⟩) (λj hm=>?_) (λc o2 q=>?_) I.bare;·obtain⟨f0,f1,Q,f3,f4,f5⟩:=hf c (sub c j);exact⟨f3,f1,f4,f5⟩
  ·obtain⟨f,i',ep,ho,r⟩:=hm;exact⟨f,i',ep,k2 _ f (λj=>(hf _ (sub _ j)).2.1 rfl) ho,r⟩
  · refine(I.hok c o2 q).stay (λe v' c' qq=>k2 e v' ?_ qq) (λe qq=>qq) λe zs qq=>qq;rcases c' with rfl|c';·exact nt _ _ q
    ·exact nt _ _ c'
 self:=λ_ _ _ _ _ st h=>wpAny_pyIter_zip st.z h
noncomputable def Hy:List N->List N->List N|x::b,y::a=>.tup [x,y]::Hy b a|_,_=>[]
theorem jG:∀(a b:List N),a.length=b.length->(Hy a b).length=a.length|[],[],_=>rfl|x::a,y::b,h=>by show(Hy a b).length+1=a.length+1;rw[jG a b (by simpa using h)]|[],_::_,h=>by simp at h|_::_,[],h=>by simp at h
theorem ut:∀(d b:List N)(i:Nat)(x y:N),d[i]?=Z x->b[i]?=Z y->(Hy d b)[i]?=Z (.tup [x,y])|x::d,y::b,0,f,e,h,a=>by simp at h a;subst h a;rfl|x::d,y::b,i+1,f,e,h,a=>ut d b i f e (by simpa using h) (by simpa using a)|[],_,_,_,_,h,_=>by simp at h|_::_,[],_,_,_,_,a=>by simp at a
theorem Ke{f:List V}{g:List N}(o:h e=Z (.tup μ))(n:h v=Z (.tup f))(r:O u h q μ)(E:O u h g f)(m:q.length=g.length):ų u (Itz e v) (Hy q g) h where
 go:=λi H a j=>by
  rw[jG q g m]at j;have w:i<μ.length:=by rw[r.length];exact j
  have t:i<f.length:=by rw[E.length,<-m];exact j
  exact⟨μ,f,μ[i],f[i],a _ _ o,a _ _ n,by simp[w],by simp[t]⟩
 stop:=λH a=>⟨μ,f,a _ _ o,a _ _ n,by rw[r.length,jG q g m];exact s_ _⟩;yld:=λi H b H2 a j y=>by obtain⟨p,x,y,rfl,k,rfl,P,I⟩:=y;obtain⟨d,w,t⟩:=O.get (O.mono a _ _ r) (P μ (a _ _ o));obtain⟨d',A,z⟩:=O.get (O.mono a _ _ E) (I f (a _ _ n));exact⟨aD k _,_,ut q g i d d' w A,⟨p,_,rfl,aw,⟨x,[y],rfl,Ó.mono (aD k _) _ _ t,y,[],rfl,Ó.mono (aD k _) _ _ z,rfl⟩⟩⟩
def Hz:List N->Option (Rs (List N))|[.tup b,.tup a]=>if b.length=a.length then Z (.ok (Hy b a))else Y|_=>Y
theorem Fp(hg:Gl a "zip")(hm:a.mg "zip"=Y)(ha:FA a [g,P] ε)(hs:k_ [g,P] a.env=[(L,eval g a.env),(L,eval P a.env)]:=by lk)(z:k_ [P] a.env=[(L,eval P a.env)]:=by lk):Ő a (.Tuple t d o) (.Call (.Name "zip" w) [g,P] [] ω) (λr=>Ù (ε r) Hz):=by
 constructor;intro j' s σ H R I h;obtain⟨r,E,f⟩:=h;have key:ä a H (ε r) λvs H'=>∃y,O a.K H' y vs/\Ī a H' (Hz y) R:=by match hf:ε r,f with|some (.exc c),f=>exact f|some (.ok y),f=>exactλvs H' e rs=>⟨y,rs,Ī.mono e f⟩
 refine Call_ (gD I hg hm (show R_ "zip"=Z (.type "zip")by decide+kernel) (Rz (â (ha.h ω j' s σ H _ I ⟨r,E,key⟩) λus j⟨vs,H1,k,r1,y,rs,p⟩=>?_) (by rw[hs,z]) (by rw[z];rfl)));unfold Hz at p;split at p
 · rename_i xs ys;split at p
   · rename_i hl;obtain⟨v,v',rfl,rv,a'⟩:=AI rs;obtain⟨i,ws,rfl,h1,h2⟩:=rv.tupE;obtain⟨b,i',rfl,A,g'⟩:=a'.tupE;obtain⟨u,u',rfl,ru,b'⟩:=Ð.two r1;cases ru;cases b';obtain⟨e',rt,pl,hz⟩:=k.tuple (ü.of h1);obtain⟨d',k',c',l'⟩:=k.tuple (ü.of A);refine yb (show j.heap.IsTuple i e'.toArray from pl) (show j.heap.IsTuple b d'.toArray from c') λh' g1 g2 g3 g4 g5 g6 kk=>?_;refine wpAny_pyIter_zip g1 ?_;have I2:Ì a j' σ H1 {j with heap:=h'}:=k.kept (t':=j.toks) kk;have q:∀m n:Nat,m≠n->j.heap.objs.size+m≠j.heap.objs.size+n:=λm n f' e=>f' (XQ e);have g0:∀m:Nat,0≠m->j.heap.objs.size≠j.heap.objs.size+m:=λm hm e=>hm (XQ (n:=j.heap.objs.size) e);refine⟨j.heap.objs.size+4,[j.heap.objs.size+4,j.heap.objs.size+2,j.heap.objs.size+3,j.heap.objs.size,j.heap.objs.size+1],_,Itz i b,H1,rfl,I2,Bq i b _ _ _ _ _ ⟨q 2 4 (by decide),q 3 4 (by decide),g0 4 (by decide),q 1 4 (by decide),q 2 3 (by decide),(g0 2 (by decide)).symm,q 2 1 (by decide),(g0 3 (by decide)).symm,q 3 1 (by decide),g0 1 (by decide)⟩,⟨g1,g2,⟨_,_,g3⟩,g4,g5⟩,λc hc=>?_,p _ H1 (.refl H1) (Ke h1 A h2 g' hl)⟩;rcases NO hc with rfl|rfl|rfl|rfl|rfl;·exact k.fpOk (Ss _ _) (k.hok.fresh (Ss _ _))
     ·exact k.fpOk (Ss _ _) (k.hok.fresh (Ss _ _))
     ·exact k.fpOk (Ss _ _) (k.hok.fresh (Ss _ _))
     ·exact k.fpOk (s_ _) (k.hok.fresh (s_ _))
     ·exact k.fpOk (Ss _ _) (k.hok.fresh (Ss _ _))
   ·exact p.elim
 ·exact p.elim
def jv(b:N->Ev->Option Ev)(f:List Nat)(a:Ö):List N->Ev->Option Fl|[],e=>Z (.nx (fgt f e))|d::i,e=>match b d (fgt f e)with|none=>Y|some g=>match a g with|some (.nx h)=>jv b f a i h|o=>o
def vx(b:N->Ev->Option Ev)(f:List Nat)(d:Û)(a:Ö):Ö:=λe=>cu (d e) λg=>jv b f a g e
noncomputable def tgG(X:C)(b:N->Ev->Option Ev):TG:=λv h H Q=>∃d g e,Ó X.K H d v/\Ú X.K H h g/\b d g=Z e/\∀a f,Í H f->Ú X.K f a e->Q a f
theorem FG.pg{b:N->Ev->Option Ev}(h:FG a g b):PG a g (tgG a b):=λn s k H v u Q I r⟨d,m,i,rd,E,e,q⟩=>â (h.h n s k H v u d m i I r rd E e) λ_ w⟨f,j,p,o,t⟩=>⟨f,j,p,q f j o t⟩
theorem Fq{b:N->Ev->Option Ev}(t:List Nat)(hp:UI (x_ a.prog a.w) a.A a.env a.xe)(hc:a.calm=U)(hi:Ő a g P ε)(hg:FG a g b)(hb:ć a Ξ Ο)(hs:∀x,QT P a.env x=pure x:=by intro _;lk):FS a (.For g P Ξ [] o) (vx b t ε Ο):=by refine rP (tY hp hc hi.h hg.pg hb.h hs) λD σ H ρ E e=>⟨ρ,E,?_⟩;unfold vx at e;match hf:ε ρ,e with
 |none,e=>exact e|some (.exc c),e=>exact e|some (.ok j),e=>
 intro J H1 e1 wk;have o1:ï a H1 (jv b t Ο j ρ) D:=ï.mono e1 e;refine⟨λn m u k=>m=j.length-n/\n<=j.length/\Í H1 k/\∃i,Ú a.K k u i/\ï a k (jv b t Ο (j.drop n) i) D,⟨j.length,by simp,QZ _,.refl H1,ρ,E.mono e1,by simpa using o1⟩,?_⟩;rintro n m u k⟨rfl,hn,e2,i,E',q⟩;by_cases w:n<j.length;·refine .inr ⟨wk.go n k e2 w,λI A=>Í H1 A/\∃f,Ú a.K A I f/\ï a A (jv b t Ο (j.drop (n+1)) f) D,λI A⟨e3,f,E2,h⟩=>⟨j.length-(n+1),by omega,rfl,w,e3,f,E2,h⟩,λx A y=>?_⟩;obtain⟨e4,d,hd,rd⟩:=wk.yld n k x A e2 w y;rw[jV hd]at q;unfold jv at q;match z:b d (fgt t i)with
   |none=>rw[z]at q;exact q.elim|some v=>rw[z]at q;refine⟨d,fgt t i,v,rd,(Ú.fgt t E').mono e4,z,λc' H3 e5 E3=>?_⟩;show tS a Ο _ _ _;refine⟨v,E3,?_⟩;have h:=ï.mono (e4.trans e5) q;dsimp only at h;match p:Ο v with|none=>rw[p]at h;exact h|some (.exc c)=>rw[p]at h;exact h|some (.rt r)=>rw[p]at h;exact h|some (.nx f)=>rw[p]at h;exactλb' H4 e6 E4=>⟨((e2.trans e4).trans e5).trans e6,f,E4,ï.mono e6 h⟩
 · have a':n=j.length:=by omega
   subst a';rw[Vg]at q;exact .inl ⟨wk.stop k e2,q u k (.refl k) (Ú.fgt t E')⟩
def HB:Ï|[.str x]=>Z (.ok (.str x))|a=>NG a
theorem yc:ó a (.type "str") (λb H Q=>(∃i,b=[.int i]/\i.natAbs.log2<1920/\Q (.str (toString i)) H)\/∃x,b=[.str x]/\Q (.str x) H):=by
 intro g s e H b f Q I r h;rcases h with⟨i,rfl,d,q⟩|⟨x,rfl,q⟩;·obtain⟨u,rfl,t,rfl⟩:=eQ r;exact PySem.P.str_of_int d ⟨.str _,H,I.tok _,⟨_,rfl⟩,q⟩
 ·obtain⟨u,rfl,t,rfl⟩:=eQ r;exact PySem.P.str_of_str ⟨.str _,H,I,⟨_,rfl⟩,q⟩
theorem Ft(n:Gl a "str")(m:a.mg "str"=Y)(q:FA a (g::t) ε)(p:k_ (g::t) a.env=(L,eval g a.env)::k_ t a.env:=by lk)(f:(O_ w (k_ t a.env)).any (·.1)=L:=by lk):FE a (.Call (.Name "str" o) (g::t) [] w) (ß HB ε):=dg (jS yc n m (by decide+kernel) q.h (by decide) (by decide) p f) λu H Q j E b=>⟨j,E,ä.bind b λA y e z h d=>by
 unfold HB at d;split at d;·rename_i x;obtain⟨v,rfl,r⟩:=dq h;cases(show v=.str x from r);exact .inr ⟨x,rfl,d _ e (.refl e) rfl⟩
 · unfold NG at d;split at d
   · rename_i i _;split at d;·rename_i k;obtain⟨v,rfl,r⟩:=dq h;cases(show v=.int i from r);exact .inl ⟨i,rfl,k,d _ e (.refl e) rfl⟩
     ·exact d.elim
   ·exact d.elim⟩
noncomputable def uu(e f:Ò):j4:=λa b=>vv (f a) λd=>vv (e a) λk=>match k with|.int k=>if 0<=k/\k<b.length then Z (.nx a (b.set k.toNat d))else Y|_=>Y
theorem O.set{K:d_}{H:Hp}{d:N}{v:V}(k:Ó K H d v):∀{f:List N}{b:List V}(j:Nat),O K H f b->O K H (f.set j d) (b.set j v)|[],b,j,r=>by cases(show b=[]from r);exact r|h::f,b,0,r=>by obtain⟨i,e,rfl,m,g⟩:∃v a,b=v::a/\Ó K H h v/\O K H f a:=r;exact⟨v,e,rfl,k,g⟩|h::f,b,j+1,r=>by obtain⟨i,e,rfl,m,g⟩:∃v a,b=v::a/\Ó K H h v/\O K H f a:=r;exact⟨i,e.set j v,rfl,m,O.set k j g⟩
theorem Br(t:a.ex=[]){x:Str}{i:Pos}(hx:PE a (.Name x i) (mJ d))(hi:FE a P È)(he:FE a g y)(hs:XV [.Subscript (.Name x i) P w] g o.line a.env=pure L:=by lk)(hw:XX [.Subscript (.Name x i) P w] g a.env=pure Y:=by lk)(h1:(QY [.Subscript (.Name x i) P w] a.env).map (·.2)=[S4 (.Subscript (.Name x i) P w) a.env]:=by lk)(ha:∀v,S4 (.Subscript (.Name x i) P w) a.env v=(do let u<-Um [v] (eval (.Name x i) a.env);let iv<-Um [v,u] (eval P a.env);XD w;Um [v,u,iv] (setItem u iv v);release [v,u,iv] []):=by intro _;lk):Ŏ a d (.Assign [.Subscript (.Name x i) P w] g o) (uu È y):=⟨λj' s σ Hf D I⟨H,e,p,n,ds,e1,c',q,E,r,b⟩=>by refine CW (rY t he.h) (Ie hx (rY t hi.h) AB ha) hs hw h1 j' s σ Hf D I ⟨H,e,p,e1,c',n,E,?_⟩;unfold uu at b;match m:y n with
 |none=>rw[m]at b;exact b.elim|some (.exc _)=>rw[m]at b;exact b.elim|some (.ok h)=>rw[m]at b;match j:È n with
 |none=>dsimp only[vv]at b;rw[j]at b;exact b.elim|some (.exc _)=>dsimp only[vv]at b;rw[j]at b;exact b.elim|some (.ok k)=>
 dsimp only[vv]at b;rw[j]at b;dsimp only at b;intro v H' A rd b';refine⟨.ref e,q,H',e,p,rfl,b',n,E.mono A,?_⟩;show ê a H' (È n) _;rw[j];intro f H2 z rk a';cases k<;>try exact(show False from b).elim
 rename_i k;dsimp only at b;split at b
 · rename_i hk;cases(show f=.int k from rk);have hl:=r.length;have hj:Ź p.length k=Z k.toNat:=by unfold Ź;rw[if_pos hk.1,if_pos (by omega)]
   refine⟨e,p,k,k.toNat,rfl,rfl,aw,hj,?_⟩;rw[wg];exact b σ H2 (p.set k.toNat v) (A.trans z) a' q (E.mono (A.trans z)) (O.set (Ó.mono z _ _ rd) k.toNat (O.mono (A.trans z) _ _ r))
 ·exact b.elim⟩
noncomputable def Mt:Ï|[.str x]=>if x.length<=640 then(match Y2 x with|some n=>Z (.ok (.int n))|none=>Y)else Y|_=>Y
theorem ye:ó a (.type "int") (λb H Q=>∃x i,b=[.str x]/\x.length<=640/\Y2 x=Z i/\Q (.int i) H):=by intro j s f H b g Q I r h;obtain⟨x,i,rfl,e,d,q⟩:=h;obtain⟨u,rfl,t,rfl⟩:=eQ r;exact PySem.W.KIN.call_text d e ⟨.int _,H,I.tok _,⟨_,rfl⟩,q⟩
theorem Bs(p:Gl a "int")(k:a.mg "int"=Y)(u:FA a (g::t) ε)(q:k_ (g::t) a.env=(L,eval g a.env)::k_ t a.env:=by lk)(e:(O_ w (k_ t a.env)).any (·.1)=L:=by lk):FE a (.Call (.Name "int" o) (g::t) [] w) (ß Mt ε):=dg (jS ye p k (by decide+kernel) u.h (by decide) (by decide) q e) λy H Q h E b=>⟨h,E,ä.bind b λI z f A i d=>by
 unfold Mt at d;split at d
 · rename_i x;split at d
   · rename_i m;split at d;·rename_i n j;obtain⟨v,rfl,r⟩:=dq i;cases(show v=.str x from r);exact⟨x,n,rfl,m,j,d _ f (.refl f) rfl⟩
     ·exact d.elim
   ·exact d.elim
 ·exact d.elim⟩
end FD
variable{Ψ:Pos}
namespace ST
open PySem.SetTable
abbrev Ŝ(a:Array Nat):Prop:=a.toList.Pairwise (·<·)
theorem Ŝ.lt{a:Array Nat}(R:Ŝ a){i k:Nat}(d:i<a.size)(b:k<a.size)(h:i<k):a[i]<a[k]:=by have:=V8.mp R i k (by simpa using d) (by simpa using b) h;simpa using this
theorem Ŝ.le{a:Array Nat}(R:Ŝ a){i k:Nat}(e:i<a.size)(d:k<a.size)(h:i<=k):a[i]<=a[k]:=by
 rcases Nat.lt_or_ge i k with b|b;·exact SN (R.lt e d b)
 · have:i=k:=by omega
   subst this;exact s_ _
noncomputable def tm(m:Nat):SetTable:={mask:=m,place:=#[],dummies:=#[],finger:=0,led:=U,moves:=0,plain:=U}
def pos(m:Nat)(h:Int)(n:Nat):Nat:=(advN (tm m) n ((tm m).probeStart h)).j
def ZP(m:Nat)(l:List Nat)(h:Int)(j:Nat):Prop:=∃N,N<10*X0 m/\pos m h N=j/\∀x,x<N->pos m h x∈l
theorem ZP.mono{l a:List Nat}(p:ZP d l k r)(e:∀x∈l,x∈a):ZP d a k r:=by obtain⟨N,h,g,f⟩:=p;exact⟨N,h,g,λx b=>e _ (f x b)⟩
noncomputable def asc(t:SetTable)(a:Array (Int×D)):List (Nat×(Int×D)):=t.place.toList.zip a.toList
def Pa(t:SetTable)(b:Array (Int×D)):Prop:=∀a∈asc t b,ZP t.mask t.place.toList a.2.1 a.1
def K'(b:n_)(w:w_)(h:J_)(S:B)(e:List (List Str))(n:Nat):Prop:=∃o d f t,h.get? S=Z o/\o.ExactSet/\o.data=.set d f t/\d.size=n/\Tb t n/\((t.mask=7/\n<=4)\/(t.mask=31/\n<=18)\/(t.mask=127/\n<=20))/\Š b w h e d.toList/\Ŝ t.place/\Pa t d/\∀k∈e,∃a,(Ğ b w k,y_ a)∈d.toList/\TK b w h k a
def addK[DecidableEq υ](a:List υ)(k:υ):List υ:=if k∈a then a else k::a
def ddk[DecidableEq υ](a:List υ):List υ:=a.foldl addK []
theorem Bt[DecidableEq υ](a:List υ)(k:υ):(addK a k).length<=a.length+1:=by unfold addK;split<;>simp
theorem j7{d:Type}[DecidableEq d]:∀(b a:List d),(b.foldl addK a).length<=a.length+b.length|[],a=>s_ _|k::b,a=>by have f:=j7 b (addK a k);have e:=Bt a k;rw[W6,Q1];omega
theorem ddk_le[DecidableEq υ](a:List υ):(ddk a).length<=a.length:=by have:=j7 a [];unfold ddk;simpa using this
theorem K'.moved{h:List (List Str)}(x:K' p m I e h d)(w:∀o,I.get? e=Z o->É.get? e=Z o)(i:∀k a,TK p m I k a->TK p m É k a):K' p m É e h d:=by obtain⟨o,P,ep,t,q,hex,v,f,T,g,z,R,y,hA⟩:=x;exact⟨o,P,ep,t,w _ q,hex,v,f,T,g,λb u=>let⟨k,a,H,E,A⟩:=z b u;⟨k,a,H,E,i k a A⟩,R,y,λk r=>let⟨a,n,j⟩:=hA k r;⟨a,n,i k a j⟩⟩
end ST
namespace FD
open L2
theorem range_getD(a:List υ)(d:υ)(n:Nat)(h:n=a.length):(rl n).map (λi=>a.getD i d)=a:=by
 subst h;apply Yp;intro i;by_cases b:i<a.length;·simp[b]
 ·simp[b]
def tC(X:C)(i:Nat)(h:Ò):TS:=λD b H=>∃e,Ú X.K H b e/\match h e with|none=>False|some (.exc c)=>XW X c H|some (.ok d)=>∃f,d=.lst f/\∀a p g,Í H a->a p=Y->O X.K a f g->D.nx (b.set i (Z (.ref p))) (Ý a p (.lst g))
theorem yf{m:List (Str×Nat)}{b:N->Ev->Option Ev}{f:Option ã}(i:Ev)(a:N)(h:cq d m ε b f y i=Z (.ok a)):∃e,a=.lst e:=by
 rcases Nt h with⟨c,k,g⟩|⟨p,e,k,g,o,n,j⟩;·cases g
 ·cases j;exact⟨e,rfl⟩
def vy{a:Type}(b:a->a->Bool)(x:a):List a->List a|[]=>[x]|y::l=>if b x y then x::y::l else y::vy b x l
def isortB{a:Type}(b:a->a->Bool):List a->List a|[]=>[]|x::l=>vy b x (isortB b l)
theorem j8{a:Type}(b:a->a->Bool)(x:a):∀l:List a,(vy b x l).Perm (x::l)
 |[]=>.refl _|y::l=>by
  unfold vy;split;·exact .refl _
  ·exact((j8 b x l).cons y).trans (Xy ..)
theorem isortB_perm{a:Type}(b:a->a->Bool):∀l:List a,(isortB b l).Perm l|[]=>.refl _|x::l=>(j8 b x _).trans ((isortB_perm b l).cons x)
structure Mu{α:Type}(le:α->α->Bool):Prop where
 t:∀a b,le a b=L->le b a=U
 tr:∀a b c,le a b=U->le b c=U->le a c=U
 an:∀a b,le a b=U->le b a=U->a=b
theorem lU{f:Type}{e:f->f->Bool}(o:Mu e)(x:f):∀l:List f,l.Pairwise (λa b=>e a b=U)->(vy e x l).Pairwise (λa b=>e a b=U)
 |[],_=>by simp[vy]|y::l,h=>by
  unfold vy;rw[Rh]at h;split
  · rename_i g;rw[Rh,Rh];refine⟨λz d=>?_,h⟩;rcases t_.mp d with rfl|d;·exact g
    ·exact o.tr _ _ _ g (h.1 z d)
  · rename_i g;rw[Rh];refine⟨λz d=>?_,lU o x l h.2⟩;rcases t_.mp ((j8 e x l).mem_iff.mp d)with rfl|d;·exact o.t _ _ (by simpa using g)
    ·exact h.1 z d
theorem isortB_sorted{d:Type}{e:d->d->Bool}(o:Mu e):∀l:List d,(isortB e l).Pairwise (λa b=>e a b=U)|[]=>U4|x::l=>lU o x _ (isortB_sorted o l)
theorem sorted_uniq{f:Type}{g:f->f->Bool}(o:Mu g):∀{l m:List f},l.Perm m->l.Pairwise (λa b=>g a b=U)->m.Pairwise (λa b=>g a b=U)->l=m
 |[],m,d,_,_=>(List.Perm.nil_eq d)|x::l,[],d,_,_=>by simpa using d.length_eq|x::l,y::m,d,k,j=>by
  rw[Rh]at k j;have e:x=y:=by
   have i:x∈y::m:=d.mem_iff.mp q_;have h:y∈x::l:=d.mem_iff.mpr q_;rcases t_.mp i with e|i;·exact e
   · rcases t_.mp h with e|h;·exact e.symm
     ·exact o.an _ _ (k.1 y h) (j.1 x i)
  subst e;rw[sorted_uniq o (d.cons_inv) k.2 j.2]
noncomputable def leS(a b:Str):Bool:=!A_ (b.cps.toList<a.cps.toList)
theorem ordS:Mu leS where
 t:=λa b h=>by simp only[leS,Bool.not_eq_false',decide_eq_true_eq]at h;simp only[leS,Sn,decide_eq_false_iff_not];exactλd=>List.lt_irrefl _ (List.lt_trans h d)
 tr:=λa b c h d=>by simp only[leS,Sn,decide_eq_false_iff_not,List.not_lt]at*;exact List.le_trans h d
 an:=λa b h d=>by simp only[leS,Sn,decide_eq_false_iff_not,List.not_lt]at*;have e:a.cps.toList=b.cps.toList:=List.le_antisymm h d;obtain⟨⟨a⟩⟩:=a;obtain⟨⟨b⟩⟩:=b;simp at e;rw[e]
noncomputable def jz:List N->Option (List Int)|[]=>Z []|.int i::r=>(jz r).map (i::·)|_=>Y
theorem oF{H:Hp}{K:d_}:∀{a:List N}{e:List Int}{d:List V}{b:List D},jz a=Z e->O K H a d->Ð d b->WV b e
 |[],e,d,b,h,r,v=>by cases h;cases(show d=[]from r);cases v;exact .nil|.int i::a,e,d,b,h,r,v=>by obtain⟨y,f,rfl,m,k⟩:∃v f,d=v::f/\Ó K H (.int i) v/\O K H a f:=r;cases(show y=.int i from m);obtain⟨o,n,rfl⟩:=TJ.mp (show(jz a).map (i::·)=Z e from h);cases v with|cons j g=>obtain⟨t,rfl⟩:=j;exact .cons i t (oF n k g)
 |.non::a,_,_,_,h,_,_=>by cases h|.bl _::a,_,_,_,h,_,_=>by cases h|.str _::a,_,_,_,h,_,_=>by cases h|.tup _::a,_,_,_,h,_,_=>by cases h|.lst _::a,_,_,_,h,_,_=>by cases h|.scr _::a,_,_,_,h,_,_=>by cases h|.exn _::a,_,_,_,h,_,_=>by cases h|.obj _ _::a,_,_,_,h,_,_=>by cases h
theorem oG{H:Hp}{K:d_}:∀{a:List N}{e:List Str}{d:List V}{b:List D},gJ a=Z e->O K H a d->Ð d b->YY b e
 |[],e,d,b,h,r,v=>by cases h;cases(show d=[]from r);cases v;exact .nil|.str i::a,e,d,b,h,r,v=>by obtain⟨y,f,rfl,m,k⟩:∃v f,d=v::f/\Ó K H (.str i) v/\O K H a f:=r;cases(show y=.str i from m);obtain⟨o,n,rfl⟩:=TJ.mp (show(gJ a).map (i::·)=Z e from h);cases v with|cons j g=>obtain⟨t,rfl⟩:=j;exact .cons i t (oG n k g)
 |.non::a,_,_,_,h,_,_=>by cases h|.bl _::a,_,_,_,h,_,_=>by cases h|.int _::a,_,_,_,h,_,_=>by cases h|.tup _::a,_,_,_,h,_,_=>by cases h|.lst _::a,_,_,_,h,_,_=>by cases h|.scr _::a,_,_,_,h,_,_=>by cases h|.exn _::a,_,_,_,h,_,_=>by cases h|.obj _ _::a,_,_,_,h,_,_=>by cases h
theorem jT:∀{a:List D}{b:List Int},WV a b->Ð (b.map V.int) a|_,_,.nil=>.nil|_,_,.cons n t h=>.cons ⟨t,rfl⟩ (jT h)
theorem ny:∀{a:List D}{b:List Str},YY a b->Ð (b.map V.str) a|_,_,.nil=>.nil|_,_,.cons n t h=>.cons ⟨t,rfl⟩ (ny h)
theorem nB{K:d_}(H:Hp):∀a:List Str,O K H (a.map N.str) (a.map V.str)|[]=>rfl|n::a=>⟨_,_,rfl,rfl,nB H a⟩
theorem qi:∀(p:Str)(l:List Str),risingS p l=U->(p::l).Pairwise (λa b=>leS a b=U)
 |p,[],_=>by simp|p,x::r,h=>by
  have g:(!ltCps x.cps.toList p.cps.toList)=U/\risingS x r=U:=by simpa[risingS]using h
  have d:=qi x r g.2;have f:leS p x=U:=by unfold leS;rw[<-ltCps_eq];exact g.1
  rw[Rh];refine⟨λz e=>?_,d⟩;rw[Rh]at d;rcases t_.mp e with rfl|e;·exact f
  ·exact ordS.tr _ _ _ f (d.1 z e)
theorem sortedS_pw(l:List Str)(h:sortedS l=U):l.Pairwise (λa b=>leS a b=U):=by cases l with|nil=>exact .nil|cons x r=>exact qi x r h
theorem line64(h:d<64):d<=sizeLine:=by
 have:sizeLine=16777216:=by decide
 omega
noncomputable def Į:Int->List Int->Int|m,[]=>m|m,n::l=>Į (if n>m then n else m) l
theorem yg:∀(l:List Int)(m:Int),m<=Į m l/\(∀a∈l,a<=Į m l)/\(Į m l=m\/Į m l∈l)
 |[],m=>⟨Int.le_refl _,by simp,.inl rfl⟩|n::l,m=>by
  obtain⟨f,h,b⟩:=yg l (if n>m then n else m);have e:Į m (n::l)=Į (if n>m then n else m) l:=rfl;rw[e];generalize i:Į (if n>m then n else m) l=M at*;by_cases g:n>m
  · rw[if_pos g]at f b;refine⟨by omega,λa d=>?_,?_⟩
    · rcases t_.mp d with rfl|d;·exact f
      ·exact h a d
    · rcases b with b|b;·exact .inr (by rw[b];exact q_)
      ·exact .inr (on _ b)
  · rw[if_neg g]at f b;refine⟨f,λa d=>?_,?_⟩
    · rcases t_.mp d with rfl|d;·omega
      ·exact h a d
    · rcases b with b|b;·exact .inl b
      ·exact .inr (on _ b)
theorem Fu{l:List Int}(d:π∈k::l)(e:∀a∈k::l,a<=π):π=Į k l:=by
 obtain⟨g,f,b⟩:=yg l k;have h:Į k l<=π:=by
  rcases b with b|b;·rw[b];exact e k q_
  ·exact e _ (on _ b)
 have le:π<=Į k l:=by
  rcases t_.mp d with rfl|d;·exact g
  ·exact f π d
 omega
def HC:Ï
 |[.lst b]=>match jz b with|some (n::a)=>Z (.ok (.int (Į n a)))|_=>Y
 |_=>Y
theorem yh:ó a (.builtin "max") (λw H Q=>∃d m o n k,w=[.ref d]/\H d=Z (.lst m)/\O a.K H o m/\jz o=Z (n::k)/\a.calm=U/\Q (.int (Į n k)) H):=by
 intro j' s σ H w us Q I r h;obtain⟨d,m,o,n,k,rfl,h1,h2,hi,hc,q⟩:=h;obtain⟨u,rfl,ru⟩:=eQ r;cases ru;obtain⟨z,a',ep,rv,hl,e⟩:=I.lstM h1;have A:=oF hi h2 rv;obtain⟨f,E⟩:=A.allInts.items;have g:n::k=f.toList.map (·.1):=by rw[<-A.numsOf,<-nums_intItems,<-E]
 have p:0<f.size:=by have:=congrArg Vu g;simp at this;omega
 have hL:s.heap.IsList d (intItems f):=by rw[<-E];exact⟨_,e,rfl,ep,rfl⟩
 refine max_intList (I.ok.hd hc) hL p λv h' P hv hk=>?_;obtain⟨t,rfl⟩:=intItems_at hv;obtain⟨g1,g2⟩:=argBest_gt (numAt f) (f.size-1);have hM:numAt f (argBest (λi j=>A_ (numAt f i>numAt f j)) (f.size-1))=Į n k:=by
  refine Fu ?_ λb y=>?_;·rw[g,numAt_eq];exact getD_mem (by rw[QL,Rb];omega)
  ·rw[g]at y;obtain⟨j,hj,rfl⟩:=mem_getD y;rw[QL,Rb]at hj;rw[<-numAt_eq];exact g2 j (by omega)
 refine⟨.int (Į n k),H,I.kept (t':=P) hk,⟨t,by rw[hM]⟩,q⟩
theorem Fv(z:a.calm=U)(u:Gl a "max")(q:a.mg "max"=Y)(I:FA a (g::t) ε)(y:k_ (g::t) a.env=(L,eval g a.env)::k_ t a.env:=by lk)(f:(O_ w (k_ t a.env)).any (·.1)=L:=by lk):FE a (.Call (.Name "max" o) (g::t) [] w) (ß HC ε):=dg (gY yh u q Xd I.h (by decide) (by decide) y f) λσ H Q i E b=>⟨i,E,ä.bind b λds vs h e1 m e=>by
 unfold HC at e;split at e
 · rename_i j;obtain⟨v,rfl,r⟩:=dq m;obtain⟨d,k,rfl,h1,P⟩:=r.lstE;split at e;·rename_i n p A;exact⟨d,k,j,n,p,rfl,h1,P,A,z,e _ h (.refl h) rfl⟩
   ·exact e.elim
 ·exact e.elim⟩
def Fw:Ï|[.lst a]=>(match jr a with|some bs=>Z (.ok (.bl (bs.any id)))|none=>Y)|_=>Y
theorem yi:ó a (.builtin "any") (λy H Q=>∃d p bs t,y=[.ref d]/\H d=Z (.lst p)/\O a.K H t p/\jr t=Z bs/\a.calm=U/\Q (.bl (bs.any id)) H):=by
 intro j' s σ H y us Q I r h;obtain⟨d,p,bs,t,rfl,h1,h2,h3,hc,q⟩:=h;obtain⟨u,rfl,ru⟩:=eQ r;cases ru;obtain⟨z,a',n,rv,hl,e⟩:=I.lstM h1;have eb:=ou h2 rv h3;subst eb;have A:s.heap.IsList d (bs.map QQ).toArray:=⟨_,e,rfl,_,rfl⟩;have w:d<s.heap.objs.size:=v_ e;refine call_any_walk (SD A ?_);refine⟨s.heap.objs.size,[s.heap.objs.size,d],[s.heap.objs.size],(bs.map QQ).toArray.size,_,_,λi=>(bs[i]?).getD U,rfl,X4 (A:=a.A.in1) (I.ok.hd hc) _ d (F_ w) (bs.map QQ).toArray,⟨⟨_,pi _ rfl,rfl,rfl⟩,A.push _⟩,λi v P Q' E' hP hQ=>?_,λh' E hk=>?_⟩
 · have f:(bs.map QQ)[i]?=Z v:=by simpa using hP
   rw[Rg]at f;cases j:bs[i]? with|none=>rw[j]at f;cases f|some b=>rw[j]at f;cases f;have k:Q' ((bs[i]?).getD U) P:=hQ;rw[j]at k;exact SA k
 · have e2:((rl (bs.map QQ).toArray.size).any λi=>(bs[i]?).getD U)=bs.any id:=by
    rw[E_,QL];rw[RH];simp only[Tz,Rt,id];constructor;·rintro⟨i,g,m⟩;simp only[C_ g,YC]at m;exact⟨_,Vf g,m⟩
    ·rintro⟨b,j,m⟩;obtain⟨i,g,rfl⟩:=Xw.mp j;exact⟨i,g,by simpa[g]using m⟩
   rw[e2];exact⟨.bl (bs.any id),H,I.kept (t':=E) λb o q=>hk b o (by simp;exact F_ (v_ q)) (j_ _ q),rfl,q⟩
theorem Kf(u:a.calm=U)(p:Gl a "any")(n:a.mg "any"=Y)(z:FA a (g::t) ε)(q:k_ (g::t) a.env=(L,eval g a.env)::k_ t a.env:=by lk)(f:(O_ w (k_ t a.env)).any (·.1)=L:=by lk):FE a (.Call (.Name "any" o) (g::t) [] w) (ß Fw ε):=dg (gY yi p n (by decide+kernel) z.h (by decide) (by decide) q f) λP H Q i E b=>⟨i,E,ä.bind b λds vs h e1 m e=>by
 unfold Fw at e;split at e
 · rename_i j;split at e;·rename_i bs y;obtain⟨v,rfl,r⟩:=dq m;obtain⟨d,k,rfl,I,A⟩:=r.lstE;exact⟨d,k,bs,j,rfl,I,A,y,u,e _ h (.refl h) rfl⟩
   ·exact e.elim
 ·exact e.elim⟩
theorem Dx{a:Option ã}{b:Ò}{e:Ev}:∀f:List N,xb a b e f=jY (gN 0) a b e f|[]=>rfl|d::f=>by unfold xb jY;rw[Dx f];rfl
theorem Fx(f:List (Str×Nat))(a:Û)(b:Option ã)(e:Ò):bU f a b e=cq 1 f a (gN 0) b e:=by funext d;show Ù (a d) _=Ù (a d) _;congr 1;funext g;rw[Dx];rfl
theorem Fy(h:PS a τ (tC a d y))(r:∀e b,y e=Z (.ok b)->∃g,b=.lst g):FS a τ (bI d y):=⟨λq s k H D I⟨e,E,o⟩=>by refine h q s k H D I ⟨e,E,?_⟩;unfold bI at o;match f:y e with|none=>rw[f]at o;exact o.elim|some (.exc c)=>rw[f]at o;exact o|some (.ok b)=>rw[f]at o;obtain⟨g,rfl⟩:=r e b f;exact⟨g,rfl,λt p m j i n=>o _ _ (j.trans (aD i _)) ((E.mono (j.trans (aD i _))).set ⟨p,m,rfl,aw,O.mono (aD i _) _ _ n⟩)⟩⟩
end FD
namespace ST
open PySem.SetTable
def SetS(b:n_)(w:w_)(h:J_)(S:B)(d:List Str):Prop:=∃o a f t,h.get? S=Z o/\o.ExactSet/\o.data=.set a f t/\t.fits a.size=U/\d.length<=60/\t.led=(!ú w)/\(a.size≠0->t.plain=L)/\ElemsOf (Rw b w) a.toList/\(∀e∈a.toList,∃x t,e.2=.str x t)/\(a.toList.map λe=>YO e.2).Perm d
theorem Kg(t:SetTable)(n:Nat):(t.orStandIn n).led=t.led/\((t.orStandIn n).plain=t.plain\/(t.orStandIn n).plain=L):=by
 unfold SetTable.orStandIn;split;·exact⟨rfl,.inl rfl⟩
 ·exact⟨rfl,.inr rfl⟩
theorem Fz(t:SetTable)(a:Array (Int×D))(h:Int)(x:D):(layNew t a h x).2.1.led=t.led:=by
 unfold layNew;split;·exact(Kg _ _).1
 ·rfl
theorem Bu{b:Array Int}{a:Array Nat}(e:laid d r Β A Χ b=Z (χ,a)):χ.led=A/\χ.plain=Χ:=by unfold laid at e;cases f:Zb d b with|none=>rw[f]at e;cases e|some o=>rw[f]at e;cases e;exact⟨rfl,rfl⟩
theorem yj(t:SetTable)(b:Array (Int×D))(n:Nat)(d:t.plain=L):(Wn t b n).2.1.led=t.led/\(Wn t b n).2.1.plain=L:=by
 unfold Wn;split
 · rename_i h a e;obtain⟨g,f⟩:=Bu e;dsimp only;split;·exact⟨g,f.trans d⟩
   ·exact⟨rfl,rfl⟩
 ·exact⟨rfl,rfl⟩
theorem yk{o:Obj}{y:Array (Int×D)}(r:I.get? e=Z o)(h:o.ExactSet)(k:o.data=.set y d χ){b:Array (Int×D)}{f:SetTable}{g:List Str}(w:f.fits b.size=U)(v:g.length<=60)(u:f.led=(!ú m))(q:f.plain=L)(i:ElemsOf (Rw p m) b.toList)(n:∀a∈b.toList,∃x χ,a.2=.str x χ)(t:(b.toList.map λa=>YO a.2).Perm g):SetS p m (I.update e (Tk b f)) e g:=by have j:=RV (Tk b f) r (by rw[Wo b f k];rfl);rw[Wo b f k]at j;exact⟨_,b,d+1,f,j,h,rfl,w,v,u,λ_=>q,i,n,t⟩
theorem qj{l a:List (Int×D)}(p:a.Perm l)(d:∀e∈l,∃x t,e.2=RK x t){b:List Str}(f:(l.map λe=>YO e.2).Perm b):(∀e∈a,∃x t,e.2=RK x t)/\(a.map λe=>YO e.2).Perm b:=⟨λe g=>d e (p.mem_iff.mp g),(p.map _).trans f⟩
theorem Dy{g:Array (Int×D)}(h:∀e∈g.toList,∃x t,e.2=.str x t)(i:(g.toList.map λe=>YO e.2).Perm z):(∃e∈g.toList,(Rw p m).is b e.2=U)↔b∈z:=by
 rw[<-i.mem_iff,QW];constructor
 · rintro⟨e,d,a⟩;obtain⟨x,t,f⟩:=h e d;refine⟨e,d,?_⟩;rw[f]at a⊢;have:(x==b)=U:=by simpa[Rw,Vj]using a
   show x=b;simpa using this
 ·rintro⟨e,d,a⟩;obtain⟨x,t,f⟩:=h e d;refine⟨e,d,?_⟩;rw[f]at a⊢;have:x=b:=a;rw[this];simp[Rw,Vj]
theorem P9{H:Tok}{k:Bool->g_->Prop}(hS:SetS p m f.heap e z)(hn:z.length<60)(h:∀g h',SK e f.heap h'->SetS p m h' e (addK z b)->k g {f with heap:=h'}):uk (x_ p m) E (WG e (.str b H) ((Rw p m).hash b)) k ο f:=by
 obtain⟨o,I,ep,t,ho,hex,hd,hf,q',hl,hp,f',hs,hm⟩:=id hS;have b':(Rw p m).is b (.str b H)=U:=strKind_is p m b H;have c':(RK b H).scannable=U:=rfl;have n':I.size=z.length:=by have:=hm.length_eq;simpa using this
 have hb:I.size<scanBound:=by rw[n'];unfold scanBound;omega
 unfold WG Xi;refine Rv (e_ (Rl ho hd hf ?_));dsimp only;rw[byScan_of c' hb f',if_pos rfl];unfold setAddByScan;refine e_ (e_ (TC (e_ (wpAny_setScan_of b' ho hd hf f' ?_))));have gv:∀(g:Bool){a':g_}{Q':Unit->g_->Prop},Q' () a'->uk (x_ p m) E (match g with|true=>rule "set.scan.the-table-gave-way"|false=>pure ()) Q' ο a':=λg _ _ i=>by
  cases g;·exact m_ i
  ·exact TC i
 cases hr:List.findIdx? (λd=>(Rw p m).is b d.2) I.toList with|some j=>
  obtain⟨hj,pj,_⟩:=List.findIdx?_eq_some_iff_getElem.mp hr;have o':b∈z:=(Dy (p:=p) (m:=m) hs hm).mp ⟨I.toList[j],Vf hj,pj⟩;dsimp only;refine m_ (m_ ?_);have d:f={f with heap:=f.heap}:=by cases f;rfl
  rw[d];refine h _ f.heap (Heap.SameBut.refl e f.heap) ?_;unfold addK;rw[if_pos o'];exact hS|none=>
  have m':b∉z:=λi=>by obtain⟨d,he,q⟩:=(Dy (p:=p) (m:=m) hs hm).mpr i;have:=List.findIdx?_eq_none_iff.mp hr d he;rw[q]at this;cases this
  dsimp only;have u:=layNew_perm t I ((Rw p m).hash b) (.str b H);have v:=layNew_fits t I ((Rw p m).hash b) (.str b H);have y:=Fz t I ((Rw p m).hash b) (.str b H);generalize layNew t I ((Rw p m).hash b) (.str b H)=n at u v y⊢;obtain⟨r,t1,wd,r'⟩:=n;dsimp only at u v y⊢;rw[U5]at u;have l':ElemsOf (Rw p m) r.toList:=(f'.push b' c').perm u;have eK:addK z b=b::z:=by unfold addK;rw[if_neg m']
  obtain⟨s1,m1⟩:=qj u (b:=b::z) (λd he=>by
   rcases QS.mp he with he|he;·exact hs d he
   ·rw[QK.mp he];exact⟨b,H,rfl⟩) (by rw[S8];exact(hm.append_right _).trans (Uj b z));have z1:r.size=z.length+1:=by have:=m1.length_eq;simpa using this
  have k':r.size<scanBound:=by rw[z1];unfold scanBound;omega
  refine e_ (gv _ ?_);have P:∀w:SetTable,w.fits r.size=U->w.led=(!ú m)->w.plain=L->uk (x_ p m) E (do
   YZ e r w if(!wd&&w.tooFull)=U then do(match(Wn w r (Sj r.size)).2.2 with|true=>rule "set.scan.the-table-gave-way"|false=>pure ())YZ e (Wn w r (Sj r.size)).1 (Wn w r (Sj r.size)).2.1pure (Z U)else pure (Z U)) (λa s'=>uk (x_ p m) E (match a with|some g'=>pure g'|none=>Xi e (.str b H) ((Rw p m).hash b) 99999) k ο s') ο f:=by
   intro w Q l2 p2;refine e_ (UP ho hd ?_ (fits_of_scanBound k'));have S1:SetS p m (f.heap.update e (Tk r w)) e (addK z b):=by rw[eK];exact yk ho hex hd Q (by simp;omega) l2 p2 l' s1 m1
   have i':=SH f.heap e (Tk r w);split
   · have A:=relayAll_perm w r (Sj r.size);have e':=relayAll_fits w r (Sj r.size);obtain⟨q1,q2⟩:=yj w r (Sj r.size) p2;generalize Wn w r (Sj r.size)=L2 at A e' q1 q2⊢;obtain⟨p',t3,g2⟩:=L2;dsimp only at A e' q1 q2⊢;obtain⟨s2,m2⟩:=qj A s1 m1;have z2:p'.size=r.size:=by rw[<-Rb,A.length_eq,Rb]
     have d':=RV (Tk r w) ho (by rw[Wo r w hd];rfl);rw[Wo r w hd]at d';refine e_ (gv _ (e_ (UP d' rfl ?_ (fits_of_scanBound (by rw[z2];exact k')))));refine m_ (m_ (h _ _ (i'.trans (SH _ e _)) ?_));rw[eK];exact yk d' hex rfl e' (by simp;omega) (q1.trans l2) q2 (l'.perm A) s2 m2
   ·exact m_ (m_ (h _ _ i' S1))
  split;·rename_i j';refine e_ ?_;rw[hashByValue_scannable 8 c'];refine m_ ?_;exact P _ (SetTable.fits_plain_off v) (y.trans hl) rfl
  ·rename_i j';refine e_ (m_ ?_);exact P _ v (y.trans hl) (by simpa using j')
theorem SetS.moved(x:SetS p m I e z)(b:∀o,I.get? e=Z o->É.get? e=Z o):SetS p m É e z:=by obtain⟨o,d,f,t,a,r⟩:=x;exact⟨o,d,f,t,b _ a,r⟩
theorem Kh{R:WN->g_->Prop}{r:List B}{G:Array Xq->Array Xq->Prop}{P:Nat->D->Prop}{St:Nat->g_->Prop}(W:WalksS p m E.in1 e Ã r G d P St)(S:B)(H:S∉Ã)(f:Nat->Str)(a':∀i v,P i v->∃t,v=.str (f i) t)(hn:d<=59):∀(k i:Nat)(s:g_),d-i=k->i<=d->St i s->SetS p m s.heap S (ddk ((rl i).map f))->(∀g,Moved (S::r) G s g->SetS p m g.heap S (ddk ((rl d).map f))->R (.ok (.ret .none)) g)->Ta (x_ p m) E (.builtin "set.update.loop" ⟨[.ref S,.ref e],[]⟩) R s:=by have A:S∉r:=λh=>H (W.sub _ h);have j:∀b∈r,b∈S::r:=λb w=>on _ w;intro k;induction k with
 |zero=>
 intro i s hk hi n hS hR;have f':i=d:=by omega
 subst f';refine RE Tw ?_;rw[Sd Se _];show uk _ E.in1 (TX (.ref e)>>=_) _ _ s;refine e_ (W.done s _ _ n λg u=>?_);show uk _ E.in1 (ret H_) _ _ g;exact m_ (hR g (u.mono j) (hS.moved λo ho=>u.heap S _ A ho))|succ k ih=>
 intro i s hk hi n hS hR;have z:i<d:=by omega
 refine RE Tw ?_;rw[Sd Se _];show uk _ E.in1 (TX (.ref e)>>=_) _ _ s;refine e_ (W.item i s _ _ z n λv g hP b' u=>?_);obtain⟨t,rfl⟩:=a' i v hP;have g':SetS p m g.heap S (ddk ((rl i).map f)):=hS.moved λo ho=>u.heap S _ A ho;show uk _ E.in1 (Um [RK (f i) t] (setAdd S (.str (f i) t))>>=_) _ _ g;refine e_ (Rv ?_);unfold setAdd;refine Rv ?_;refine e_ ((Rw p m).pyHash (strKind_is p m (f i) t) ?_);have q:ddk ((rl (i+1)).map f)=addK (ddk ((rl i).map f)) (f i):=by unfold ddk;rw[W4,S8,List.foldl_append];rfl
 have i':(ddk ((rl i).map f)).length<=i:=by have:=ddk_le ((rl i).map f);simpa using this
 refine P9 (f:={g with toks:=g.toks+1}) g' (by omega) λbb h' y I=>?_;rw[<-q]at I;refine m_ ⟨Vi Se _,ih (i+1) _ (by omega) z (W.frame _ g _ _ b' (by simp) λb w o a=>?_) I λe' c' d'=>?_⟩;·rw[y.2 b (λh:b=S=>H (by rw[<-h];exact w))];exact a
 ·refine hR e' (Moved.trans W.gtrans ((u.mono j).then_heap (by simp) λb o w a=>?_) c') d';rw[y.2 b (λh:b=S=>w (by rw[h];exact q_))];exact a
theorem uv(a:I.get? e=Z (iz (!ú m))):SetS p m I e []:=⟨_,#[],0,_,a,⟨rfl,rfl,rfl⟩,rfl,rfl,by simp,rfl,λz=>absurd rfl z,λa b=>by simp at b,λa b=>by simp at b,.refl _⟩
theorem FB{g:Nat->Str}{R:WN->g_->Prop}(hh:E.handled=Y)(hl:f.heap.IsList e Δ)(hk:∀(i:Nat)(v:D),Δ[i]?=Z v->∃z,v=RK (g i) z)(hn:Δ.size<=59)(hR:∀(j:J_)(z:Nat),SetS p m j f.heap.objs.size (ddk ((rl Δ.size).map g))->(∀b o,b<f.heap.objs.size->f.heap.get? b=Z o->j.get? b=Z o)->R (.ok (.ret .none)) {f with heap:=j,toks:=z}):Ta (x_ p m) E (.call (.builtin "set.__init__") ⟨[.ref f.heap.objs.size,.ref e],[]⟩) R {f with heap:=f.heap.push (iz (!ú m))}:=by
 have hS:(f.heap.push (iz (!ú m))).get? f.heap.objs.size=Z (iz (!ú m)):=pi _ rfl;have hT:Tj {f with heap:=f.heap.push (iz (!ú m))} (.ref f.heap.objs.size) "set":=⟨_,hS,rfl⟩;refine Vo Q7.init.plain Wy (Wr hT ?_);obtain⟨ol,k,t,nl,r⟩:=hl;obtain⟨f',h,e',d⟩:=ol;simp only at t r;subst t;subst r;have u:(f.heap.push (iz (!ú m))).get? e=Z {cls:=.type "list",dict:=h,data:=.seq Δ nl,slots:=d}:=j_ _ k;have s1:=F.sub_list_set;have s2:=Xr;have s3:(r_ "list"==r_ "dict")=L:=by decide
 have q:(f.heap.push (iz (!ú m))).IsList e Δ:=⟨_,u,rfl,nl,rfl⟩;unfold Sh.«set.__init__»noKeywords TU;generalize c':X3=PI;wp_walk;subst c';refine SD q (e_ (UQ ?_));have n:e<f.heap.objs.size:=v_ k;have w:e≠(f.heap.push (iz (!ú m))).objs.size:=by rw[N_];exact F_ (Rm n)
 have a':f.heap.objs.size∉[(f.heap.push (iz (!ú m))).objs.size,e]:=by rw[N_];simp only[t_,K_,or_false,not_or];exact⟨F_ (RI _),Td n⟩
 refine Kh ((X4 (by simp[hh]) _ e w Δ).toS) f.heap.objs.size a' g hk hn (Δ.size-0) 0 _ (by omega) (QZ _) ⟨⟨_,pi _ rfl,rfl,rfl⟩,(q.push _)⟩ ?_ ?_;·exact uv (j_ _ hS)
 · intro s' y b';obtain⟨j,g',d',A,H⟩:=s';have eg:g'=f.gens:=y.gens;have ed:d'=f.drawn:=y.drawn;have eo:H=f.os:=y.os;subst eg;subst ed;subst eo;show uk _ _ _ _ _ _;refine m_ ?_;show uk _ _ (ret H_) _ _ _;refine m_ (hR j A b' λb o hb a=>?_);have P:b≠f.heap.objs.size:=F_ hb;have I:b≠(f.heap.push (iz (!ú m))).objs.size:=by rw[N_];exact F_ (Rm hb)
   exact y.heap b o (by simp only[t_,K_,or_false,not_or];exact⟨P,I⟩) (j_ _ (j_ _ a))
theorem call_set_L2{q:Nat->Str}(hh:E.handled=Y)(hl:f.heap.IsList e Δ)(hk:∀(i:Nat)(v:D),Δ[i]?=Z v->∃j,v=RK (q i) j)(hn:Δ.size<=59)(h:∀(g:J_)(j:Nat),SetS p m g f.heap.objs.size (ddk ((rl Δ.size).map q))->(∀b o,b<f.heap.objs.size->f.heap.get? b=Z o->g.get? b=Z o)->Å (.ref f.heap.objs.size) {f with heap:=g,toks:=j}):uk (x_ p m) E (call (.type "set") [.ref e]) Å ο f:=by
 obtain⟨c,tl,P⟩:=Q7.mro;have H:=Q7.made;have I:=Q7.sub;refine Ue (Vy ?_);show uk _ _ (callAny (.type "set") _) _ _ _;refine m_ ⟨UD _ (by decide+kernel),RE Wb ?_⟩;rw[V0 (U9 "set" [.ref e] []) rfl];have h1:=Q7.notType;have h2:=Q7.canCreate;have b':=Wu (.ref e);repeat(any_goals(first|assumption|wp_step))
 refine RT (sf (.ref e) (ο:=ο) (b:=λu n=>u=.ref f.heap.objs.size/\n={f with heap:=f.heap.push (iz (!ú m))}) ⟨rfl,rfl⟩) λr n y=>?_;cases r with|error a=>exact y|ok fl=>cases fl with
 |ret u=>
  obtain⟨rfl,rfl⟩:=y;have hT:Tj {f with heap:=f.heap.push (iz (!ú m))} (.ref f.heap.objs.size) "set":=⟨_,pi _ rfl,rfl⟩;have a':=Q7.init.lookup;have c':=Q7.init.bind (.ref f.heap.objs.size);repeat(any_goals(first|assumption|wp_step))
  refine RT (FB (R:=wants (λr k=>r=.none/\∃g j,k={f with heap:=g,toks:=j}/\SetS p m g f.heap.objs.size (ddk ((rl Δ.size).map q))/\(∀b o,b<f.heap.objs.size->f.heap.get? b=Z o->g.get? b=Z o)) ο) (by simp[hh]) hl hk hn λg j q1 q2=>⟨rfl,g,j,rfl,q1,q2⟩) λw k d=>?_;cases w with|error a=>exact d|ok t=>cases t with
  |ret r=>
  obtain⟨rfl,g,j,rfl,A,z⟩:=d;repeat(any_goals(first|assumption|wp_step))
  exact h _ _ A z|_=>exact d.elim
 |_=>exact y.elim
theorem FF{g:Nat->Str}{R:WN->g_->Prop}(hh:E.handled=Y)(hl:f.heap.IsTuple e Δ)(hk:∀(i:Nat)(v:D),Δ[i]?=Z v->∃z,v=RK (g i) z)(hn:Δ.size<=59)(hR:∀(j:J_)(z:Nat),SetS p m j f.heap.objs.size (ddk ((rl Δ.size).map g))->(∀b o,b<f.heap.objs.size->f.heap.get? b=Z o->j.get? b=Z o)->R (.ok (.ret .none)) {f with heap:=j,toks:=z}):Ta (x_ p m) E (.call (.builtin "set.__init__") ⟨[.ref f.heap.objs.size,.ref e],[]⟩) R {f with heap:=f.heap.push (iz (!ú m))}:=by
 have hS:(f.heap.push (iz (!ú m))).get? f.heap.objs.size=Z (iz (!ú m)):=pi _ rfl;have hT:Tj {f with heap:=f.heap.push (iz (!ú m))} (.ref f.heap.objs.size) "set":=⟨_,hS,rfl⟩;refine Vo Q7.init.plain Wy (Wr hT ?_);obtain⟨ol,k,t,nl,r⟩:=hl;obtain⟨f',h,e',d⟩:=ol;simp only at t r;subst t;subst r;have u:(f.heap.push (iz (!ú m))).get? e=Z {cls:=.type "tuple",dict:=h,data:=.seq Δ nl,slots:=d}:=j_ _ k;have s1:=F.sub_tuple_set;have s2:=F.sub_tuple_frozenset;have s3:(r_ "tuple"==r_ "dict")=L:=by decide
 have q:(f.heap.push (iz (!ú m))).IsTuple e Δ:=⟨_,u,rfl,nl,rfl⟩;unfold Sh.«set.__init__»noKeywords TU;generalize c':X3=PI;wp_walk;subst c';refine UC q (e_ (UQ ?_));have n:e<f.heap.objs.size:=v_ k;have w:e≠(f.heap.push (iz (!ú m))).objs.size:=by rw[N_];exact F_ (Rm n)
 have a':f.heap.objs.size∉[(f.heap.push (iz (!ú m))).objs.size,e]:=by rw[N_];simp only[t_,K_,or_false,not_or];exact⟨F_ (RI _),Td n⟩
 refine Kh ((Walks.tuple (by simp[hh]) _ e w Δ).toS) f.heap.objs.size a' g hk hn (Δ.size-0) 0 _ (by omega) (QZ _) ⟨⟨_,pi _ rfl,rfl,rfl⟩,(q.push _)⟩ ?_ ?_;·exact uv (j_ _ hS)
 · intro s' y b';obtain⟨j,g',d',A,H⟩:=s';have eg:g'=f.gens:=y.gens;have ed:d'=f.drawn:=y.drawn;have eo:H=f.os:=y.os;subst eg;subst ed;subst eo;show uk _ _ _ _ _ _;refine m_ ?_;show uk _ _ (ret H_) _ _ _;refine m_ (hR j A b' λb o hb a=>?_);have P:b≠f.heap.objs.size:=F_ hb;have I:b≠(f.heap.push (iz (!ú m))).objs.size:=by rw[N_];exact F_ (Rm hb)
   exact y.heap b o (by simp only[t_,K_,or_false,not_or];exact⟨P,I⟩) (j_ _ (j_ _ a))
theorem call_set_T2{q:Nat->Str}(hh:E.handled=Y)(hl:f.heap.IsTuple e Δ)(hk:∀(i:Nat)(v:D),Δ[i]?=Z v->∃j,v=RK (q i) j)(hn:Δ.size<=59)(h:∀(g:J_)(j:Nat),SetS p m g f.heap.objs.size (ddk ((rl Δ.size).map q))->(∀b o,b<f.heap.objs.size->f.heap.get? b=Z o->g.get? b=Z o)->Å (.ref f.heap.objs.size) {f with heap:=g,toks:=j}):uk (x_ p m) E (call (.type "set") [.ref e]) Å ο f:=by
 obtain⟨c,tl,P⟩:=Q7.mro;have H:=Q7.made;have I:=Q7.sub;refine Ue (Vy ?_);show uk _ _ (callAny (.type "set") _) _ _ _;refine m_ ⟨UD _ (by decide+kernel),RE Wb ?_⟩;rw[V0 (U9 "set" [.ref e] []) rfl];have h1:=Q7.notType;have h2:=Q7.canCreate;have b':=Wu (.ref e);repeat(any_goals(first|assumption|wp_step))
 refine RT (sf (.ref e) (ο:=ο) (b:=λu n=>u=.ref f.heap.objs.size/\n={f with heap:=f.heap.push (iz (!ú m))}) ⟨rfl,rfl⟩) λr n y=>?_;cases r with|error a=>exact y|ok fl=>cases fl with
 |ret u=>
  obtain⟨rfl,rfl⟩:=y;have hT:Tj {f with heap:=f.heap.push (iz (!ú m))} (.ref f.heap.objs.size) "set":=⟨_,pi _ rfl,rfl⟩;have a':=Q7.init.lookup;have c':=Q7.init.bind (.ref f.heap.objs.size);repeat(any_goals(first|assumption|wp_step))
  refine RT (FF (R:=wants (λr k=>r=.none/\∃g j,k={f with heap:=g,toks:=j}/\SetS p m g f.heap.objs.size (ddk ((rl Δ.size).map q))/\(∀b o,b<f.heap.objs.size->f.heap.get? b=Z o->g.get? b=Z o)) ο) (by simp[hh]) hl hk hn λg j q1 q2=>⟨rfl,g,j,rfl,q1,q2⟩) λw k d=>?_;cases w with|error a=>exact d|ok t=>cases t with
  |ret r=>
  obtain⟨rfl,g,j,rfl,A,z⟩:=d;repeat(any_goals(first|assumption|wp_step))
  exact h _ _ A z|_=>exact d.elim
 |_=>exact y.elim
theorem ý:Slot "set_iterator" "__next__" "set_iterator.__next__":=.of (n:="__next__") (owner:="set_iterator") (by rw[typeLookup_type,Xb];lk) (by decide+kernel) (by decide+kernel) (by decide+kernel) (by first|exact .inl (by decide+kernel)|exact .inr (by decide+kernel)) (by rw[Xk];lk)
theorem uw:entryFor table "set_iterator.__next__"=Z Sh.«set_iterator.__next__»:=entryFor_of_tree (by lk)
theorem ux(a:D):argsOk "set_iterator.__next__" ⟨[a],[]⟩:=by unfold argsOk;lk
theorem NP:entryFor table "set.__iter__"=Z Sh.«frozenset.__iter__»:=entryFor_alias (id':="frozenset.__iter__") (by lk) rfl (by decide+kernel) (by lk)
theorem kB{a:Type}:∀(l:List a)(i:Nat)(h:i<l.length),(l[i]::l.eraseIdx i).Perm l|x::l,0,_=>.refl _|x::l,i+1,h=>by have b:=kB l i (by simpa using h);exact(Xy ..).trans (b.cons x)
theorem qk{e:Type}(a:Nat->Nat):∀(n k:Nat)(left:List e)(b:Array e),left.length=n->(X_ a n k left b).toList.Perm (b.toList++left)|0,k,left,b,h=>by have:left=[]:=Sf.mp h;subst this;unfold X_;simp|n+1,k,left,b,h=>by unfold X_;have d:a k%left.length<left.length:=UE _ (by omega);rw[C_ d];dsimp only;refine(qk a n (k+1) _ _ (by rw[V2 d];omega)).trans ?_;rw[U5,U1];exact List.Perm.append_left _ (kB _ _ d)
theorem ym{b:Source}{Q:Nat->g_->Prop}(e:d≠0)(h:∀i a,i<d->Q i {f with drawn:=a}):uk (x_ p m) E (choose b d) Q ο f:=λ_ _ _=>⟨e,h _ _ (UE _ (Nat.pos_of_ne_zero e))⟩
theorem yn{f:n_}{w:w_}{A:xy}{E:D->g_->Prop}{k:Type}:∀(n:Nat)(a:List k)(s:g_)(Q:List k->g_->Prop),a.length=n->(∀g d,g.Perm a->Q g {s with drawn:=d})->uk (x_ f w) A (drawOrder n a) Q E s
 |0,a,s,Q,b,h=>by
  have:a=[]:=Sf.mp b;subst this;unfold drawOrder;have e:s={s with drawn:=s.drawn}:=by cases s;rfl
  refine m_ ?_;rw[e];exact h [] s.drawn (.refl _)|n+1,[],s,Q,b,h=>by simp at b|n+1,x::a,s,Q,b,h=>by unfold drawOrder;refine e_ (ym (by simp) λi d j=>?_);rw[C_ j];dsimp only;refine e_ (yn n ((x::a).eraseIdx i) _ _ (by rw[V2 j];simp at b⊢;omega) λg o m=>?_);refine m_ (h _ o ?_);exact(m.cons _).trans (kB _ _ j)
structure Rd(w:w_)(h:J_)(S:B)(es:Array (Int×D))(ep:Nat)(t:SetTable):Prop where
 o:∃o,h.get? S=Z o/\o.ExactSet/\o.data=.set es ep t
 f:t.fits es.size=U
 l:t.led=(!ú w)p:es.size≠0->t.plain=L
theorem Rd.moved{a:Array (Int×D)}(r:Rd m I e a d χ)(k:∀o,I.get? e=Z o->É.get? e=Z o):Rd m É e a d χ:=by obtain⟨⟨o,f,b⟩,i,h,g⟩:=r;exact⟨⟨o,k _ f,b⟩,i,h,g⟩
abbrev ń(a:D)(i:Nat)(S:B)(n b:Nat):Obj:={cls:=.type "set_iterator",dict:=Y,data:=.fields #[a,RY i,.ref S,RY n,RY b],slots:=#[]}
theorem uy(f:D)(i:Nat)(S:B)(n a:Nat):ń f (i+1) S n a={cls:=.type "set_iterator",dict:=Y,data:=.fields #[f,.int ((i:Int)+1) 0,.ref S,.int n 0,.int a 0],slots:=#[]}:=by simp[RY]
theorem Bv{h:Array (Int×D)}{Q:Option D->g_->Prop}(a:Rd m f.heap v h d χ)(b:f.heap.get? e=Z (ń (RY Β) r v h.size d)){x:D}{j:Nat}(t:∀(R:Option (D×Nat)->g_->Prop)(A:D->g_->Prop),R (Z (x,j)) f->uk (x_ p m) E.in1 (WF v Β r d) R A f)(q:∀g,g.get? e=Z (ń (RY j) (r+1) v h.size d)->SK e f.heap g->Q (Z x) {f with heap:=g}):uk (x_ p m) E (TX (.ref e)) Q ο f:=by have i:f.TypeIs (.ref e) "set_iterator":=⟨_,b,rfl⟩;obtain⟨o,k,hex,n⟩:=a.o;unfold TX;refine e_ (Ti (Rf (name:=b_ "__next__") i ý (Ro ý i uw ?_ (ux _))));unfold Sh.«set_iterator.__next__»;refine e_ (m:=Y0 _ _ _) (S_ (a:=(y_ e,[])) (by rfl) ?_);refine e_ (VO b rfl ?_);dsimp only[RY,U6];refine e_ (To k n a.f ?_);rw[if_neg (by simp)];refine e_ (m:=pure _) (m_ ?_);dsimp only;refine e_ (t _ _ ?_);dsimp only;refine e_ (Ru b (by simp) λI w z=>?_);refine e_ (Ru w (by simp) λH u y=>?_);exact m_ ⟨x,rfl,m_ (q _ (by rw[uy];simpa[RY]using u) (z.trans y))⟩
theorem qm{i:Array (Int×D)}{Q:Option D->g_->Prop}(k:E.handled=Y)(a:Rd m f.heap v i d χ)(b:f.heap.get? e=Z (ń (RY Β) r v i.size d))(t:∀(R:Option (D×Nat)->g_->Prop)(w:D->g_->Prop),R Y f->uk (x_ p m) E.in1 (WF v Β r d) R w f)(q:∀h,YN e f.heap h->Q Y {f with heap:=h}):uk (x_ p m) E (TX (.ref e)) Q ο f:=by have g:f.TypeIs (.ref e) "set_iterator":=⟨_,b,rfl⟩;obtain⟨o,j,hex,n⟩:=a.o;unfold TX;refine e_ (Ti (Rf (name:=b_ "__next__") g ý (Ro ý g uw ?_ (ux _))));unfold Sh.«set_iterator.__next__»;refine e_ (m:=Y0 _ _ _) (S_ (a:=(y_ e,[])) (by rfl) ?_);refine e_ (VO b rfl ?_);dsimp only[RY,U6];refine e_ (To j n a.f ?_);rw[if_neg (by simp)];refine e_ (m:=pure _) (m_ ?_);dsimp only;refine e_ (t _ _ ?_);dsimp only;refine e_ (Ru b (by simp) λy z u=>?_);refine e_ ?_;simp only[newExc,Y1];refine e_ (Ra ?_ (by size_fits));refine e_ (m:=Uf _ _) (S_ (a:=H_) (by first|rfl|(simp only[Uf];rfl)) ?_);refine Ra ?_ (by size_fits);simp only[raiseNew];refine e_ (XU ?_);rw[show E.in1.handled=Y from k];refine e_ (m_ (YH ?_));refine e_ (Vc (T:="StopIteration") (b:=U) ⟨_,pi _ rfl,rfl⟩ Xl ?_);exact m_ (q _ ((u.extBut.push _).push _))
theorem Bw{b:Array (Int×D)}{Q:Option D->g_->Prop}(a:Rd m f.heap v b d χ)(g:f.heap.get? e=Z (ń (.ref Ι) r v b.size d))(y:f.heap.IsTuple Ι Δ){k:Nat}{A:Int}{x:D}(u:Δ[r]?=Z (RY k))(w:b[k]?=Z (A,x))(z:∀h,h.get? e=Z (ń (.ref Ι) (r+1) v b.size d)->SK e f.heap h->Q (Z x) {f with heap:=h}):uk (x_ p m) E (TX (.ref e)) Q ο f:=by have n:f.TypeIs (.ref e) "set_iterator":=⟨_,g,rfl⟩;obtain⟨o,q,hex,t⟩:=a.o;obtain⟨P,i,_,nT,j⟩:=y;unfold TX;refine e_ (Ti (Rf (name:=b_ "__next__") n ý (Ro ý n uw ?_ (ux _))));unfold Sh.«set_iterator.__next__»;refine e_ (m:=Y0 _ _ _) (S_ (a:=(y_ e,[])) (by rfl) ?_);refine e_ (VO g rfl ?_);dsimp only[RY,U6];refine e_ (To q t a.f ?_);rw[if_neg (by simp)];refine e_ (m:=pure _) (m_ ?_);dsimp only;refine e_ (RX i j ?_);dsimp only;rw[Ub,u];dsimp only[RY];refine e_ ?_;unfold setNextDrawn;refine e_ (Rl q t a.f ?_);dsimp only;rw[if_neg (by simp)];refine e_ (m:=pure _) (m_ ?_);rw[Ub,w];dsimp only;refine m_ ?_;refine e_ (Ru g (by simp) λh1 H I=>?_);exact m_ ⟨x,rfl,m_ (z _ (by rw[uy];simpa[RY]using H) I)⟩
theorem qo{k:Array (Int×D)}{Q:Option D->g_->Prop}(t:E.handled=Y)(a:Rd m f.heap v k d χ)(b:f.heap.get? e=Z (ń (.ref Ι) r v k.size d))(w:f.heap.IsTuple Ι Δ)(n:Δ[r]?=Y)(y:∀j,YN e f.heap j->Q Y {f with heap:=j}):uk (x_ p m) E (TX (.ref e)) Q ο f:=by have i:f.TypeIs (.ref e) "set_iterator":=⟨_,b,rfl⟩;obtain⟨o,q,hex,u⟩:=a.o;obtain⟨I,g,_,P,h⟩:=w;unfold TX;refine e_ (Ti (Rf (name:=b_ "__next__") i ý (Ro ý i uw ?_ (ux _))));unfold Sh.«set_iterator.__next__»;refine e_ (m:=Y0 _ _ _) (S_ (a:=(y_ e,[])) (by rfl) ?_);refine e_ (VO b rfl ?_);dsimp only[RY,U6];refine e_ (To q u a.f ?_);rw[if_neg (by simp)];refine e_ (m:=pure _) (m_ ?_);dsimp only;refine e_ (RX g h ?_);dsimp only;rw[Ub,n];dsimp only;refine e_ (Ru b (by simp) λh1 z H=>?_);refine e_ (Ru z (by simp) λh2 g2 A=>?_);refine e_ ?_;simp only[newExc,Y1];refine e_ (Ra ?_ (by size_fits));refine e_ (m:=Uf _ _) (S_ (a:=H_) (by first|rfl|(simp only[Uf];rfl)) ?_);refine Ra ?_ (by size_fits);simp only[raiseNew];refine e_ (XU ?_);rw[show E.in1.handled=Y from t];refine e_ (m_ (YH ?_));refine e_ (Vc (T:="StopIteration") (b:=U) ⟨_,pi _ rfl,rfl⟩ Xl ?_);exact m_ (y _ (((H.trans A).extBut.push _).push _))
theorem Dz{j:Array (Int×D)}{R:Option (D×Nat)->g_->Prop}(a:Rd m f.heap e j d χ)(i:ú m=U)(k:R (((VN (m.params.setOrder e d) j)[r]?).map λb=>(b.2,Β)) f):uk (x_ p m) E (WF e Β r d) R ο f:=by obtain⟨o,g,hex,h⟩:=a.o;unfold WF X2 setWalk X2;refine e_ (Rl g h a.f ?_);dsimp only;refine e_ (e_ (Tr (m_ ?_)));dsimp only;rw[if_pos (show(x_ p m).w.params.followText "set-order"=U from i),if_neg (by simp)];refine e_ (e_ (Rl g h a.f ?_));dsimp only;refine e_ (e_ (Tr (m_ ?_)));dsimp only;rw[if_pos (show(x_ p m).w.params.followText "set-order"=U from i)];refine e_ (Tr (m_ ?_));exact m_ k
theorem DA{b:Array (Int×D)}{R:Option (D×Nat)->g_->Prop}(a:Rd m f.heap e b d χ)(h:ú m=L)(u:b.size<=1)(t:R (match b[SetTable.below χ.place Β]?,χ.place[SetTable.below χ.place Β]? with|some (_,x),Z j=>Z (x,j+1)|_,_=>Y) f):uk (x_ p m) E (WF e Β r d) R ο f:=by
 obtain⟨o,i,hex,n⟩:=a.o;have k:χ.led=U:=by rw[a.l,h];rfl
 unfold WF X2;refine e_ (Rl i n a.f ?_);dsimp only;refine e_ (e_ (Tr (m_ ?_)));dsimp only;rw[if_neg (show¬((x_ p m).w.params.followText "set-order"=U)from by rw[show(x_ p m).w.params.followText "set-order"=L from h];simp)];split;·rename_i q;have g:(!χ.plain&&A_ (b.size>1))=U:=q;simp at g;omega
 ·refine e_ (S_ (a:=()) ?_ (m_ t));show(if(!χ.led&&!b.isEmpty)=U then _ else pure ())=pure ();rw[k];rfl
theorem DB:Slot "set_iterator" "__iter__" "set_iterator.__iter__":=.of (n:="__iter__") (owner:="set_iterator") (by rw[typeLookup_type,Xb];lk) (by decide+kernel) (by decide+kernel) (by decide+kernel) (by first|exact .inl (by decide+kernel)|exact .inr (by decide+kernel)) (by rw[Xk];lk)
theorem Ki:entryFor table "set_iterator.__iter__"=Z Sh.«dict_keyiterator.__iter__»:=entryFor_alias (id':="dict_keyiterator.__iter__") (by lk) (by first|rfl|decide+kernel|(unfold String.splitOn;simp+decide[String.splitOnAux])) (by decide+kernel) (by lk)
theorem Kj(a:D):argsOk "set_iterator.__iter__" ⟨[a],[]⟩:=by unfold argsOk;lk
theorem yo{b:Array υ}(h:b.size=1):∃a,b=#[a]:=by obtain⟨l⟩:=b;match l,h with|[a],_=>exact⟨a,rfl⟩
theorem qr(a:f.TypeIs (.ref e) "set_iterator")(h:Å (.ref e) f):uk (x_ p m) E (X3 (.ref e)) Å ο f:=by refine wpAny_pyIter_slot a DB (Ro DB a Ki ?_ (Kj _));show uk _ _ (ret (.ref e)) _ _ f;exact m_ ⟨_,rfl,"set_iterator",_,a,ý.lookup,h⟩
theorem qt(hh:E.handled=Y)(I S:B)(y:S≠I)(r:Array (Int×D))(k:Nat)(t:SetTable)(d:List D)(n:Nat->Nat)(hl:d.length=r.size)(hN:∀(i:Nat)(v:D)(s:g_)(R:Option (D×Nat)->g_->Prop)(f:D->g_->Prop),Rd m s.heap S r k t->d[i]?=Z v->R (Z (v,n (i+1))) s->uk (x_ p m) E.in1 (WF S (n i) i k) R f s)(hE:∀(s:g_)(R:Option (D×Nat)->g_->Prop)(f:D->g_->Prop),Rd m s.heap S r k t->R Y s->uk (x_ p m) E.in1 (WF S (n d.length) d.length k) R f s):Walks p m E I [I,S] [I] d.length (λi v=>d[i]?=Z v) (λi h=>h.get? I=Z (ń (RY (n i)) i S r.size k)/\Rd m h S r k t)where
 sub:=λb j=>by simp at j;simp[j]
 frame:=λ_ _ _ st H=>⟨H I (by simp) _ st.1,st.2.moved λo e=>H S (by simp) o e⟩;item:=λi s Q a P st q=>by
  have A:d[i]?=Z d[i]:=by simp[P]
  refine Bv st.2 st.1 (x:=d[i]) (j:=n (i+1)) (λR f u=>hN i _ s R f st.2 A u) λw g b=>?_;exact q _ w s.toks A ⟨g,st.2.moved λo e=>b.extBut S o y e⟩ λb' o j e=>b.extBut b' o (λh=>j (by simp[h])) e
 done:=λs Q a st q=>qm hh st.2 st.1 (λR f u=>hE s R f st.2 u) λw z=>q w s.toks λb o j e=>z b o (λh=>j (by simp[h])) e;self:=λ_ _ _ _ st q=>qr ⟨_,st.1,rfl⟩ q
theorem yp(hh:E.handled=Y)(I S T:B)(y:S≠I)(hT:T≠I)(w:Array (Int×D))(P:Nat)(t:SetTable)(d:List Nat)(f:List D)(hl:f.length=d.length)(n:∀(i:Nat)(k:Nat)(v:D),d[i]?=Z k->f[i]?=Z v->∃r,w[k]?=Z (r,v)):Walks p m E I [I,S,T] [I] f.length (λi v=>f[i]?=Z v) (λi h=>h.get? I=Z (ń (.ref T) i S w.size P)/\Rd m h S w P t/\h.IsTuple T (d.map λ(i:Nat)=>RY i).toArray)where
 sub:=λb j=>by simp at j;simp[j]
 frame:=λ_ _ _ st n=>⟨n I (by simp) _ st.1,st.2.1.moved λo e=>n S (by simp) o e,st.2.2.at λo e=>n T (by simp) o e⟩;item:=λi s Q a hi st q=>by
  have H:f[i]?=Z f[i]:=by simp[hi]
  have z:d[i]?=Z (d[i]'(by omega)):=by simp[show i<d.length by omega]
  obtain⟨r,e0⟩:=n i _ _ z H;refine Bw st.2.1 st.1 st.2.2 (x:=f[i]) (k:=d[i]'(by omega)) (A:=r) (by simp[show i<d.length by omega]) e0 λu g b=>?_;exact q _ u s.toks H ⟨g,st.2.1.moved λo e=>b.extBut S o y e,st.2.2.extBut b.extBut hT⟩ λb' o j e=>b.extBut b' o (λh=>j (by simp[h])) e
 done:=λs Q a st q=>qo hh st.2.1 st.1 st.2.2 (by simp[hl]) λu A=>q u s.toks λb o j e=>A b o (λh=>j (by simp[h])) e;self:=λ_ _ _ _ st q=>qr ⟨_,st.1,rfl⟩ q
structure Wk(prog:n_)(w:w_)(S I:B)(h:J_)(h':J_)(es:Array (Int×D))(vs:List D)(fp:List B)(St:Nat->J_->Prop):Prop where
 W:∀A:xy,A.handled=Y->Walks prog w A I fp [I] vs.length (λi v=>vs[i]?=Z v) St
 st:St 0 h'
 pm:vs.Perm (es.toList.map (·.2))up:∀b o,h.get? b=Z o->h'.get? b=Z o
 nw:h.objs.size<=I
 fp:∀b∈fp,(b=S\/h.objs.size<=b)/\b<h'.objs.size
theorem Bx{t:Array (Int×D)}(r:Rd m f.heap e t d χ)(j':t.size<=60)(hQ:∀(I:B)(H:J_)(n:Drawn)(P:List D)(fp:List B)(St:Nat->J_->Prop),Wk p m e I f.heap H t P fp St->Å (.ref I) {f with heap:=H,drawn:=n}):uk (x_ p m) E (X3 (.ref e)) Å ο f:=by
 obtain⟨o,ho,hex,hd⟩:=id r.o;have hT:f.TypeIs (.ref e) "set":=⟨o,ho,hex.1⟩;have hS:e<f.heap.objs.size:=v_ ho;have c':χ.place.size=t.size:=by have:=r.f;unfold Zf at this;simp at this;exact this.1
 refine wpAny_pyIter_slot hT F.slot_set_iter (Ro F.slot_set_iter hT NP ?_ (F.args_set_iter_1 _));unfold Sh.«frozenset.__iter__»;refine e_ (m:=Zm _ _) (S_ (a:=e) (by rfl) ?_);refine e_ ?_;unfold Zh;refine e_ (To ho hd r.f (m_ ?_));refine e_ ?_;unfold setDrawn X2;refine e_ (Rl ho hd r.f ?_);dsimp only;refine e_ (e_ (Tr (m_ (m_ ?_))));dsimp only;split
 · rename_i hc;have w:(!ú m&&(!χ.plain&&A_ (t.size>1)))=U:=hc;simp at w;refine e_ (yn _ _ _ _ (by simp) λks n hp=>?_);have z:ks.length<=sizeLine:=by
    have h1:=hp.length_eq;rw[Ua]at h1;have:sizeLine=16777216:=by decide
    omega
   unfold Y1;refine e_ (Ra ?_ (by simpa[sizeOk]using z));have g':(f.heap.push {cls:=.type "tuple",data:=.seq (ks.map λ(i:Nat)=>RY i).toArray}).get? e=Z o:=j_ _ ho;refine e_ ?_;unfold setEpoch;refine e_ (Rl g' hd r.f (m_ ?_));refine e_ (Ra (m_ ⟨_,rfl,"set_iterator",_,⟨_,pi _ rfl,rfl⟩,ý.lookup,?_⟩));have i':∀k∈ks,k<t.size:=λk hk=>by simpa using hp.mem_iff.mp hk
   refine hQ _ _ n (ks.map λk=>(t.toList.map (·.2)).getD k .none) [(f.heap.push {cls:=.type "tuple",data:=.seq (ks.map λ(i:Nat)=>RY i).toArray}).objs.size,e,f.heap.objs.size] _ ⟨λA' H=>yp H _ e f.heap.objs.size (by rw[N_];exact F_ (Rm hS)) (by rw[N_];exact F_ (RI _)) t d χ ks _ (by simp) (λi k v y e2=>?_),⟨pi _ rfl,r.moved (λo' g=>j_ _ (j_ _ g)),?_⟩,?_,λb o' g=>j_ _ (j_ _ g),by rw[N_];exact UK _,?_⟩;·have hk:=i' k (Q0 y);simp[y]at e2;refine⟨t[k].1,?_⟩;rw[<-e2];simp[hk]
   ·exact⟨_,j_ _ (pi _ rfl),rfl,0,rfl⟩
   ·have g:(rl t.size).map (λk=>(t.toList.map (·.2)).getD k .none)=t.toList.map (·.2):=FD.range_getD _ _ _ (by simp);exact(hp.map _).trans (by rw[g])
   · intro b u;rw[N_,N_];rw[N_]at u;simp only[t_,K_,or_false]at u;rcases u with u|u|u;·subst u;exact⟨.inr (UK _),RI _⟩
     ·subst u;exact⟨.inl rfl,Rm (Rm hS)⟩
     ·subst u;exact⟨.inr (s_ _),Rm (RI _)⟩
 · rename_i hc;have w:¬((!ú m&&(!χ.plain&&A_ (t.size>1)))=U):=hc;refine e_ (m_ ?_);refine e_ ?_;unfold setEpoch;refine e_ (Rl ho hd r.f (m_ ?_));refine e_ (Ra (m_ ⟨_,rfl,"set_iterator",_,⟨_,pi _ rfl,rfl⟩,ý.lookup,?_⟩));have e':∀(P:List D)(sl:Nat->Nat),sl 0=0->P.Perm (t.toList.map (·.2))->(∀E:xy,E.handled=Y->Walks p m E f.heap.objs.size [f.heap.objs.size,e] [f.heap.objs.size] P.length (λi v=>P[i]?=Z v) (λi h=>h.get? f.heap.objs.size=Z (ń (RY (sl i)) i e t.size d)/\Rd m h e t d χ))->Å (.ref f.heap.objs.size) {f with heap:=f.heap.push (ń (RY 0) 0 e t.size d)}:=by
    intro P sl h0 hp hW;have g:({f with heap:=f.heap.push (ń (RY 0) 0 e t.size d)}:g_)={f with heap:=f.heap.push (ń (RY 0) 0 e t.size d),drawn:=f.drawn}:=rfl;rw[g];refine hQ _ _ f.drawn P _ _ ⟨hW,⟨by rw[h0];exact pi _ rfl,r.moved (λo' g=>j_ _ g)⟩,hp,λb o' g=>j_ _ g,s_ _,λb u=>?_⟩;rw[N_];simp only[t_,K_,or_false]at u;rcases u with u|u;·subst u;exact⟨.inr (s_ _),RI _⟩
    ·subst u;exact⟨.inl rfl,Rm hS⟩
   by_cases u:ú m=U
   · have d':(VN (m.params.setOrder e d) t).toList.Perm t.toList:=by have:=qk (m.params.setOrder e d) t.size 0 t.toList #[] (by simp);simpa[VN]using this
     have f':(VN (m.params.setOrder e d) t).size=t.size:=by simpa using d'.length_eq
     refine e' ((VN (m.params.setOrder e d) t).toList.map (·.2)) (λ_=>0) rfl (d'.map _) λA' H=>qt H _ e (F_ hS) t d χ _ _ (by simp[f']) (λi v s1 R E' r1 y A=>Dz r1 u ?_) (λs1 R E' r1 A=>Dz r1 u ?_);·simp at y;obtain⟨a,y⟩:=y;rw[y];exact A
     ·rw[show(VN (m.params.setOrder e d) t)[(List.map (·.2) (VN (m.params.setOrder e d) t).toList).length]?=Y by simp];exact A
   · have b':ú m=L:=by simpa using u
     have a':t.size<=1:=by
      rw[b']at w;by_cases z:t.size=0;·omega
      ·rw[r.p z]at w;simp at w;exact w
     refine e' (t.toList.map (·.2)) (λi=>if i=0 then 0 else χ.place.getD 0 0+1) rfl (.refl _) λA' H=>qt H _ e (F_ hS) t d χ _ _ (by simp) (λi v s1 R E' r1 y A=>DA r1 b' a' ?_) (λs1 R E' r1 A=>DA r1 b' a' ?_)
     · have hi:i=0:=by have:=D_.mp y;obtain⟨q,_⟩:=this;simp at q;omega
       subst hi;obtain⟨a,ea⟩:∃a,t=#[a]:=by obtain⟨l⟩:=t;have:=(D_.mp y).1;match l,this,a' with|[a],_,_=>exact⟨a,rfl⟩|_::_::_,_,h=>simp at h
       subst ea;obtain⟨j,ej⟩:∃j,χ.place=#[j]:=yo c';simp at y;subst y;rw[ej]at A⊢;simpa[below,Yj]using A
     · by_cases z:t.size=0;·have e0:t=#[]:=Array.eq_empty_of_size_eq_zero z;subst e0;simpa using A
       ·obtain⟨a,ea⟩:=yo (b:=t) (by omega:t.size=1);subst ea;obtain⟨j,ej⟩:∃j,χ.place=#[j]:=yo c';rw[ej];simpa[below,Yj]using A
theorem sg{es:Array (Int×D)}{Q:List D->g_->Prop}(hh:E.handled=Y)(r:Rd m f.heap e es d χ)(i':es.size<=60)(hQ:∀(n:J_)(g:Drawn)(tk:Nat)(t:List D),t.Perm (es.toList.map (·.2))->f.heap.objs.size<n.objs.size->(∀b o,f.heap.get? b=Z o->n.get? b=Z o)->Q t {f with heap:=n,drawn:=g,toks:=tk}):uk (x_ p m) E (XF (.ref e)) Q ο f:=by
 obtain⟨o,ho,hex,hd⟩:=id r.o;have hS:e<f.heap.objs.size:=v_ ho;unfold XF;refine e_ (UQ (RE F.entry_proto_collect ?_));rw[Sd F.plain_proto_collect _];show uk _ E.in1 (Yb []>>=λl=>Y8 (.builtin "list.__iadd__" ⟨[l,.ref e],[]⟩)) _ _ f;refine e_ (Ra ?_);refine m_ ⟨Vi F.plain_list_iadd _,RE F.entry_list_iadd ?_⟩;rw[Sd F.plain_list_iadd _];show uk _ E.in1 (SL (.ref f.heap.objs.size) (.ref e) (.ref f.heap.objs.size)) _ _ _;unfold SL;generalize hH:f.heap.push {cls:=.type "list",data:=.seq ([]:List D).toArray}=H;have f':H.objs.size=f.heap.objs.size+1:=by rw[<-hH,N_]
 have q:∀b k,f.heap.get? b=Z k->H.get? b=Z k:=λb k a=>hH▸j_ _ a;have hL:H.get? f.heap.objs.size=Z {cls:=.type "list",data:=.seq ([]:List D).toArray}:=hH▸pi _ rfl;have ty:Tj {f with heap:=H} (.ref e) "set":=⟨o,q _ _ ho,hex.1⟩;refine e_ (Ul (T:="set") ty ?_);have h1:Wi (.ref f.heap.objs.size) (.ref e)=L:=by simp[Wi];exact(F_ hS).symm
 have h2:(r_ "set"==r_ "list")=L:=by decide
 have h3:(r_ "set"==r_ "tuple")=L:=by decide
 simp only[h1,h2,h3,Bool.or_false,M_,if_false];refine e_ (Bx (f:={f with heap:=H}) (r.moved λo a=>q _ _ a) i' λI n g t fp St K=>?_);have v:Tj {f with heap:=n,drawn:=g} (.ref e) "set":=⟨o,K.up _ _ (q _ _ ho),hex.1⟩;refine e_ (Rv ?_);unfold Builtin.List.listLengthHint;refine e_ (wpAny_specialOf v F.slot_set_len.lookup ?_);wp_delta;refine e_ (Vc (T:="set") (b:=U) v (by rw[Xk];lk) ?_);show uk _ E.in1 (typeOf (y_ e)>>=_) _ _ _;refine e_ (Ul (T:="set") v ?_);refine m_ ?_;show uk _ E.in1 (rule "list.extend.makes-room">>=λ_=>Builtin.List.listTouch (.ref f.heap.objs.size)>>=λ_=>Y8 (.builtin "list.extend.loop" ⟨[.ref f.heap.objs.size,.ref I,.ref f.heap.objs.size],[]⟩)) _ _ _;refine e_ (TC ?_);have b':n.get? f.heap.objs.size=Z {cls:=.type "list",data:=.seq ([]:List D).toArray}:=K.up _ _ hL;refine e_ ?_;show uk _ E.in1 (updateSeq f.heap.objs.size (·.push .none)>>=λ_=>updateSeq f.heap.objs.size (·.pop)) _ _ _;refine e_ (wpAny_updateSeq b' rfl ?_);have a':=RV (Q3 (·.push H_)) b' rfl;refine wpAny_updateSeq a' rfl ?_;have n':=RV (Q3 (·.pop)) a' rfl;have A:∀b k,b≠f.heap.objs.size->n.get? b=Z k->((n.update f.heap.objs.size (Q3 (·.push H_))).update f.heap.objs.size (Q3 (·.pop))).get? b=Z k:=λb k z a=>(SJ _ _ (SM z)).trans ((SJ _ _ (SM z)).trans a);have P:f.heap.objs.size∉fp:=λy=>by
  rcases(K.fp _ y).1 with a|a;·exact absurd a (F_ hS).symm
  ·rw[f']at a;exact absurd a (Nat.not_le.mpr (RI _))
 have W:=K.W E.in1 hh;have m':t.length<=sizeLine:=by
  have h1:=K.pm.length_eq;simp at h1;have:sizeLine=16777216:=by decide
  omega
 refine m_ ⟨Vi F.plain_extend_loop _,codeAny_extend_loopS W.toS m' _ P _ t.length 0 _ _ _ rfl (QZ _) (W.frame 0 n _ K.st λb z k a=>A b k (λh=>P (h▸z)) a) n' (ItemsOf.nil _) λs' j c' y e' u=>?_⟩;show uk _ E (load f.heap.objs.size>>=_) _ _ s';refine e_ (wpAny_load e' ?_);have j':j.toList=t:=by
  apply WE;·simpa using u.1
  ·intro i h1 h2;have:t[i]?=Z j[i]:=u.2 i j[i] (by simp);rw[C_ h2]at this;simpa using this.symm
 show uk _ E (pure j.toList) _ _ s';rw[j'];obtain⟨o',g',d',k',l'⟩:=s';have eg:g'=f.gens:=y.gens;have ed:d'=g:=y.drawn;have eo:l'=f.os:=y.os;subst eg;subst ed;subst eo;refine m_ (hQ o' d' k' t K.pm (v_ e') λb k a=>y.heap b k (λz=>?_) (A b k (F_ (v_ a)) (K.up _ _ (q _ _ a))));have w:=v_ a;rcases t_.mp z with h|h;·exact absurd w (h▸RQ _)
 ·rw[QK.mp h]at w;have:=K.nw;rw[f']at this;exact absurd (WW w this) (RQ _)
theorem SetS.rd(x:SetS p m I e z):∃b d t,Rd m I e b d t/\b.size<=60/\(∀a∈b.toList,∃x t,a.2=.str x t)/\(b.toList.map λa=>YO a.2).Perm z:=by obtain⟨o,b,d,t,i,hex,n,k,r,j,h,q,g,f⟩:=x;refine⟨b,d,t,⟨⟨o,i,hex,n⟩,k,j,h⟩,?_,g,f⟩;have:=f.length_eq;simp at this;omega
theorem yq:∀{a:List D},(∀v∈a,∃x t,v=.str x t)->YY a (a.map YO)|[],_=>.nil|v::a,h=>by obtain⟨x,t,rfl⟩:=h v q_;exact .cons x t (yq λv b=>h v (on _ b))
theorem sorted_set(hh:E.handled=Y)(x:SetS p m f.heap e z)(h:∀(l:B)(A:J_)(d:Drawn)(u:Nat)(n:List D)(a:Nat),YY n (FD.isortB FD.leS z)->A.get? l=Z (RG "list" n.toArray a)->f.heap.objs.size<=l->(∀b o,f.heap.get? b=Z o->A.get? b=Z o)->Å (.ref l) {f with heap:=A,drawn:=d,toks:=u}):uk (x_ p m) E (call (.builtin "sorted") [.ref e]) Å ο f:=by
 obtain⟨es,ep,t,r,e',hs,hm⟩:=x.rd;refine Calls.call_function_entry kind_sorted plain_sorted entry_sorted (args_sorted1 _) ?_;unfold Sh.«sorted»;refine e_ (m:=checkCount "sorted" 1 1 _) (m_ ?_);refine e_ (sg hh r e' λh1 d u k w d' up=>?_);have P:∀v∈k,∃x t,v=RK x t:=λv hv=>by obtain⟨a,y,rfl⟩:=QW.mp (w.mem_iff.mp hv);exact hs a y
 have hS:=yq P;have g:k.length<64:=by have:=w.length_eq;simp at this;omega
 have b':(k.map YO).Perm z:=by have:=w.map YO;rw[Tg]at this;exact this.trans hm
 refine e_ (Wf ?_ (FD.line64 g));have i:(h1.push (RG "list" k.toArray 0)).get? h1.objs.size=Z (RG "list" k.toArray 0):=pi _ rfl;refine e_ (Rv (Ro slot_list_sort ⟨_,i,rfl⟩ entry_list_sort (list_sort_treeK strKind_oneLt i hS.keysOf (λi' g' rest a=>keyKind_strs (by rw[<-a];exact hS)) g λH c' a'=>⟨_,rfl,?_⟩) (args_list_sort _)));obtain⟨I,a1,a2,a3⟩:=sorted_out_str hS c' a';have f':I=FD.isortB FD.leS z:=FD.sorted_uniq FD.ordS ((a2.trans b').trans (FD.isortB_perm FD.leS z).symm) (FD.sortedS_pw _ a3) (FD.isortB_sorted FD.ordS z);subst f';obtain⟨a,y⟩:=sortedHeap_at (out:=(Vs H).map (·.2)) i;refine m_ ⟨_,rfl,h _ _ d u _ a a1 (by rw[Array.toArray_toList];exact y) (SN d') λb ob q=>?_⟩;·have q1:=up _ _ q;have j:=v_ q1;rw[sortedHeap_old (F_ j) (by rw[N_];exact Rm j),Yk _ _ _ (F_ j)];exact q1
end ST
namespace FD
open L2
def iH:Ï
 |[.lst b]=>match gJ b with|some a=>if a.length<=59 then Z (.ok (.lst ((isortB leS (ST.ddk a)).map N.str)))else Y|none=>Y
 |[.tup b]=>match gJ b with|some a=>if a.length<=59 then Z (.ok (.lst ((isortB leS (ST.ddk a)).map N.str)))else Y|none=>Y
 |_=>Y
theorem yr(I:Ì a ζ Ä h f)(d:Drawn):Ì a ζ Ä h {f with drawn:=d}:=⟨I.ok,I.os,I.bare,I.base,I.loc,I.cell,I.free,I.freeC,I.pin,I.hok,I.len⟩
theorem oH:∀{a:List D}{d:List Str},YY a d->a.length=d.length/\∀(i:Nat)(v:D),a[i]?=Z v->∃b,v=RK (d.getD i "") b|_,_,.nil=>⟨rfl,λi v h=>by simp at h⟩|_,_,.cons x t h=>by obtain⟨g,f⟩:=oH h;refine⟨by simp[g],λi v e=>?_⟩;cases i with|zero=>simp at e;exact⟨t,by simp[<-e]⟩|succ i=>obtain⟨b,q⟩:=f i v (by simpa using e);exact⟨b,by simpa using q⟩
theorem vz(hc:a.calm=U)(hg:Gl a "sorted")(hm:a.mg "sorted"=Y)(i':Gl a "set")(g':a.mg "set"=Y)(ha:FA a [g] ε)(he:k_ [.Call (.Name "set" w) [g] [] Ψ] a.env=(L,eval (.Call (.Name "set" w) [g] [] Ψ) a.env)::k_ [] a.env:=by lk)(f':(O_ ω (k_ [] a.env)).any (·.1)=L:=by lk)(k':k_ [g] a.env=(L,eval g a.env)::k_ [] a.env:=by lk)(c':(O_ Ψ (k_ [] a.env)).any (·.1)=L:=by lk):FE a (.Call (.Name "sorted" o) [.Call (.Name "set" w) [g] [] Ψ] [] ω) (ß iH ε):=⟨λj' s σ H Q I⟨ρ,E,e⟩=>by
 refine RD (gD I hg hm (Ε:=.builtin "sorted") (by decide+kernel) ?_ (by decide) (by decide));refine Tv ?_ he f';rw[he];show uk _ _ (spliced ((L,eval (.Call (.Name "set" w) [g] [] Ψ) a.env)::O_ ω (k_ [] a.env))) _ _ s;refine VW ?_;refine RD (gD I i' g' (Ε:=.type "set") (by decide+kernel) ?_ (by decide) (by decide));refine Rz (â (ha.h Ψ j' s σ H _ I ⟨ρ,E,ä.bind e λds vs H1 e1 rs f=>(show∃ds,O a.K H1 ds vs/\ê a H1 (iH ds) Q from⟨ds,rs,f⟩)⟩) λus s1⟨vs,H1,y,r1,ds,rs,f⟩=>?_) k' c';have b':∀(h:List Str)(t:J_)(P:Nat),h.length<=59->ê a H1 (Z (.ok (.lst ((isortB leS (ST.ddk h)).map N.str)))) Q->ST.SetS a.prog a.w t s1.heap.objs.size (ST.ddk h)->(∀b e,b<s1.heap.objs.size->s1.heap.get? b=Z e->t.get? b=Z e)->uk (x_ a.prog a.w) a.A (call (.builtin "sorted") [.ref s1.heap.objs.size]) (EP a j' σ Q) a.xe {s1 with heap:=t,toks:=P}:=by
  intro h t P hk f hS p;refine ST.sorted_set (y.ok.hd hc) hS λl h2 d d' e' e0 a1 a2 a3 a4=>?_;have a':s1.heap.objs.size<=l:=by obtain⟨_,_,_,_,q,_⟩:=hS;exact SN (QJ (v_ q) a3)
  refine⟨.ref l,_,yr (y.laid (h':=h2) (t':=d') (o:=.lst ((isortB leS (ST.ddk h)).map V.str)) (λb ob q=>a4 _ _ (p b ob (v_ q) q)) a' ?_) d,rfl,f _ _ (aD (y.hok.fresh a') _) ⟨l,_,rfl,aw,nB _ _⟩⟩;exact⟨line64 (by rw[QL,(isortB_perm leS _).length_eq];have:=ST.ddk_le h;omega),e',e0,ny a1,by simpa[RG]using a2⟩
 unfold iH at f;split at f
 · rename_i es;obtain⟨v,rfl,r⟩:=dq rs;obtain⟨l,xs,rfl,hl,rx⟩:=r.lstE;obtain⟨u,rfl,ru⟩:=eQ r1;cases(show u=y_ l from ru);split at f
   · rename_i h A;split at f
     · rename_i m;obtain⟨z,j,n,rv,hz,eh⟩:=y.lstM hl;obtain⟨q1,q2⟩:=oH (oG A rx rv);have k:j.toArray.size=h.length:=by simp[q1]
       refine ST.call_set_L2 (Δ:=j.toArray) (q:=λi=>h.getD i "") (y.ok.hd hc) ⟨_,eh,rfl,n,rfl⟩ (λi v hi=>q2 i v (by simpa using hi)) (by rw[k];exact m) λt P hS p=>?_;refine UW ?_;rw[range_getD h "" _ k]at hS;exact b' h t P m f hS p
     ·exact f.elim
   ·exact f.elim
 · rename_i es;obtain⟨v,rfl,r⟩:=dq rs;obtain⟨l,xs,rfl,hl,rx⟩:=r.tupE;obtain⟨u,rfl,ru⟩:=eQ r1;cases(show u=y_ l from ru);split at f
   · rename_i h A;split at f
     · rename_i m;obtain⟨j,rv,pl,hz⟩:=y.tuple (ü.of hl);obtain⟨q1,q2⟩:=oH (oG A rx rv);have k:j.toArray.size=h.length:=by simp[q1]
       refine ST.call_set_T2 (Δ:=j.toArray) (q:=λi=>h.getD i "") (y.ok.hd hc) pl (λi v hi=>q2 i v (by simpa using hi)) (by rw[k];exact m) λt P hS p=>?_;refine UW ?_;rw[range_getD h "" _ k]at hS;exact b' h t P m f hS p
     ·exact f.elim
   ·exact f.elim
 ·exact f.elim⟩
end FD
namespace TS
def ě{a:Type}(M:T_)(A:xy)(E:D->g_->Prop)(J:g_->Prop)(m:StateT υ Sem a)(Q:a->υ->Prop)(b:υ):Prop:=∀s,J s->uk M A (m.run b) (λr d=>J d/\Q r.1 r.2) E s
variable{Ë:g_->Prop}
theorem cO{b:Type}{a:b}{Q:b->υ->Prop}{d:υ}(h:Q a d):ě Æ E ο Ë (pure a:StateT υ Sem b) Q d:=λs e=>by rw[YQ];exact m_ ⟨e,h⟩
theorem bK{g d:Type}{m:StateT υ Sem g}{f:g->StateT υ Sem d}{Q:d->υ->Prop}{i:υ}(h:ě Æ E ο Ë m (λa b=>ě Æ E ο Ë (f a) Q b) i):ě Æ E ο Ë (m>>=f) Q i:=λs n=>by rw[StateT.run_bind];exact e_ (QX (h s n) (λr k j=>j.2 k j.1) λ_ _ e=>e)
theorem qv{d:Type}{m:StateT υ Sem d}{Q i:d->υ->Prop}{f:υ}(h:ě Æ E ο Ë m Q f)(k:∀a b,Q a b->i a b):ě Æ E ο Ë m i f:=λs j=>QX (h s j) (λr _ g=>⟨g.1,k _ _ g.2⟩) λ_ _ e=>e
theorem vA{Q:υ->υ->Prop}{a:υ}(h:Q a a):ě Æ E ο Ë (get:StateT υ Sem υ) Q a:=λs b=>by rw[StateT.run_get];exact m_ ⟨b,h⟩
theorem ll{f:υ->υ}{Q:PUnit->υ->Prop}{a:υ}(h:Q ⟨⟩ (f a)):ě Æ E ο Ë (modify f:StateT υ Sem PUnit) Q a:=λs b=>by rw[StateT.run_modify];exact m_ ⟨b,h⟩
theorem yt{b:Type}{m:Sem b}{Q:b->υ->Prop}{d:υ}(h:∀s,Ë s->uk Æ E m (λa f=>Ë f/\Q a d) ο s):ě Æ E ο Ë (liftM m:StateT υ Sem b) Q d:=λs g=>by show uk Æ E ((StateT.lift m:StateT υ Sem b).run d) _ ο s;rw[StateT.run_lift];exact e_ (QX (h s g) (λa f i=>m_ i) λ_ _ e=>e)
theorem Kk{M:T_}{A:xy}{E:D->g_->Prop}{J:g_->Prop}{o k:Type}(f:Nat->k->StateT o Sem (ForInStep k))(I:Nat->k->o->Prop)(Q:k->o->Prop)(b:Nat)(g:∀i c st,i<b->I i c st->ě M A E J (f i c) (λr d=>match r with|.done j=>Q j d|.yield j=>I (i+1) j d) st)(m:∀c st,I b c st->Q c st):∀(n a:Nat)(c:k)(st:o),a+n=b->I a c st->ě M A E J (forIn (List.range' a n 1) c f) Q st
 |0,a,c,st,e,h=>by
  rw[List.range'_zero,V4];have:a=b:=by omega
  subst this;exact cO (m c st h)|n+1,a,c,st,e,h=>by rw[List.range'_succ,W5];refine bK (qv (g a c st (by omega) h) λr d p=>?_);cases r with|done j=>exact cO p|yield j=>exact Kk f I Q b g m n (a+1) j d (by omega) p
theorem kG{e:Type}{f:Nat->e->StateT υ Sem (ForInStep e)}(I:Nat->e->υ->Prop){Q:e->υ->Prop}(o:d<=r)(j:∀i c b,i<r->I i c b->ě Æ E ο Ë (f i c) (λa g=>match a with|.done k=>Q k g|.yield k=>I (i+1) k g) b)(n:∀c b,I r c b->Q c b){c:e}{b:υ}(h:I d c b):ě Æ E ο Ë (forIn [d:r] c f) Q b:=by
 rw[Std.Legacy.Range.forIn_eq_forIn_range'];have m:([d:r]:Yr).size=r-d:=by simp[Std.Legacy.Range.size]
 show ě Æ E ο Ë (forIn (List.range' d ([d:r]:Yr).size 1) c f) Q b;rw[m];exact Kk f I Q r j n (r-d) d c b (by omega) h
structure Od(blt:Nat->Nat->Bool):Prop where
 ir:∀a,blt a a=L
 tr:∀a b c,blt a b=U->blt b c=U->blt a c=U
 nt:∀a b c,blt a c=U->blt a b=U\/blt b c=U
def ĵ(d:Nat->Nat->Bool)(a b:Nat):Prop:=d a b=U\/(d b a=L/\a<b)
variable{Θ:Nat->Nat->Bool}
theorem Od.le(O:Od Θ){a b c:Nat}(e:Θ b a=L)(d:Θ c b=L):Θ c a=L:=by cases h:Θ c a with|false=>rfl|true=>
 rcases O.nt _ b _ h with q|q;·rw[q]at d;cases d
 ·rw[q]at e;cases e
theorem Od.lt_le(O:Od Θ){a b c:Nat}(e:Θ a b=U)(d:Θ c b=L):Θ a c=U:=by
 rcases O.nt _ c _ e with q|q;·exact q
 ·rw[q]at d;cases d
theorem Od.le_lt(O:Od Θ){a b c:Nat}(d:Θ b a=L)(e:Θ b c=U):Θ a c=U:=by
 rcases O.nt _ a _ e with q|q;·rw[q]at d;cases d
 ·exact q
theorem Od.as(O:Od Θ){a b:Nat}(h:Θ a b=U):Θ b a=L:=by cases d:Θ b a with|false=>rfl|true=>have:=O.tr _ _ _ h d;rw[O.ir]at this;cases this
theorem ĵ.tr(O:Od Θ){a b c:Nat}(e:ĵ Θ a b)(d:ĵ Θ b c):ĵ Θ a c:=by
 rcases e with e|⟨e,f⟩
 · rcases d with d|⟨d,i2⟩;·exact .inl (O.tr _ _ _ e d)
   ·exact .inl (O.lt_le e d)
 · rcases d with d|⟨d,i2⟩;·exact .inl (O.le_lt e d)
   ·exact .inr ⟨O.le e d,by omega⟩
theorem ĵ.of_le(h:Θ r d=L)(i:d<r):ĵ Θ d r:=.inr ⟨h,i⟩
structure SB(a₀:Array Vt)(kd:TV)(p:Nat->Nat)(st:SX):Prop where
 sz:(Vs st).size=a₀.size
 at':∀k,k<a₀.size->(Vs st)[k]?=a₀[p k]?lt:∀k,k<a₀.size->p k<a₀.size
 inj:∀a b,a<a₀.size->b<a₀.size->p a=p b->a=b
 kind:kindOf st=kd
 failed:Yn st=Y
 pend:Wz st=#[]
noncomputable def ę(p:Nat->Nat)(i j k:Nat):Nat:=if i<=k/\k<j then p (i+j-1-k)else p k
noncomputable def Ň(p:Nat->Nat)(a b k:Nat):Nat:=if k=b then p a else if b<k/\k<=a then p (k-1)else p k
variable{Τ:Nat->Nat}
theorem SB.mirror{d:Array Vt}{h:TV}{f:SX}(B:SB d h Τ f){i j:Nat}(o:j<=d.size):SB d h (ę Τ i j) (setArr f (mirror (Vs f) i j ((j-i)/2)))where
 sz:=(mirror_size _ _ _ _).trans B.sz;at':=λk g=>by
  show(PyProof.Rows.mirror (Vs f) i j ((j-i)/2))[k]?=_;rw[getElem?_mirror_all (by rw[B.sz];exact o)];unfold ę;split;·exact B.at' _ (by omega)
  ·exact B.at' _ g
 lt:=λk g=>by
  unfold ę;split;·exact B.lt _ (by omega)
  ·exact B.lt _ g
 inj:=λa b n m e=>by
  unfold ę at e;split at e<;>split at e;·have:=B.inj _ _ (by omega) (by omega) e;omega
  ·have:=B.inj _ _ (by omega) m e;omega
  ·have:=B.inj _ _ n (by omega) e;omega
  ·exact B.inj _ _ n m e
 kind:=B.kind;failed:=B.failed;pend:=B.pend
theorem SB.bubble{g:Array Vt}{m:TV}{h:SX}(B:SB g m Τ h){d f:Nat}(i:d<g.size)(n:f<=d):SB g m (Ň Τ d f) (setArr h (bubble (Vs h) d (d-f)))where
 sz:=(bubble_size _ _ _).trans B.sz;at':=λk j=>by
  show(PyProof.Rows.bubble (Vs h) d (d-f))[k]?=_;rw[getElem?_bubble (by rw[B.sz];exact i) _ (by omega),show d-(d-f)=f by omega];unfold Ň;split;·exact B.at' _ i
  · split;·exact B.at' _ (by omega)
    ·exact B.at' _ j
 lt:=λk j=>by
  unfold Ň;split;·exact B.lt _ i
  · split;·exact B.lt _ (by omega)
    ·exact B.lt _ j
 inj:=λa b p o e=>by
  unfold Ň at e;repeat' split at e
  all_goals first|omega|(have:=B.inj _ _ (by omega) (by omega) e;omega)
 kind:=B.kind;failed:=B.failed;pend:=B.pend
def Cm(M:T_)(A:xy)(J:g_->Prop)(a:Array Vt)(f:TV)(d:Nat->Nat->Bool):Prop:=∀(i j:Nat)(x y:Vt)(s:g_)(g:D->g_->Prop),a[i]?=Z x->a[j]?=Z y->J s->uk M A (keyLt' f x.1 y.1) (λb e=>J e/\b=d i j) g s
theorem Kl{a:Array Vt}{j:TV}{f:SX}{Q:Option Bool->SX->Prop}(C:Cm Æ E Ë a j Θ)(B:SB a j Τ f)(i:d<a.size)(g:r<a.size)(h:Q (Z (Θ (Τ d) (Τ r))) f):ě Æ E ο Ë (ltAt' d r) Q f:=by
 have p:(Vs f)[d]?=Z (a[Τ d]'(B.lt d i)):=by rw[B.at' d i];simp[B.lt d i]
 have o:(Vs f)[r]?=Z (a[Τ r]'(B.lt r g)):=by rw[B.at' r g];simp[B.lt r g]
 rw[ltAt'_eq];refine bK (vA ?_);show ě Æ E ο Ë (do let x<-elem' (Vs f) d;let y<-elem' (Vs f) r;lt' x y) Q f;rw[elem'_eq,elem'_eq,p,o];refine bK (cO (bK (cO ?_)));rw[lt'_eq];refine bK (vA ?_);rw[B.kind];refine bK (yt λs k=>Ti (QX (C (Τ d) (Τ r) _ _ s _ (by simp[B.lt d i]) (by simp[B.lt r g]) k) (λb q n=>?_) λ_ _ e=>e));obtain⟨m,rfl⟩:=n;exact⟨m,cO h⟩
theorem By{a:SX}{Q:Unit->SX->Prop}(h:Q () (setArr a (mirror (Vs a) d r ((r-d)/2)))):ě Æ E ο Ë (reverseSlice' d r) Q a:=by rw[reverseSlice'_eq];exact ll h
structure Up(blt:Nat->Nat->Bool)(p:Nat->Nat)(n N:Nat):Prop where
 so:∀a b,a<b->b<n->ĵ blt (p a) (p b)lo:∀a,a<n->p a<n
 re:∀a,n<=a->a<N->p a=a
theorem Up.next(O:Od Θ){n N:Nat}(d:Up Θ Τ n N)(q:1<=n)(m:n<N)(h:Θ (Τ n) (Τ (n-1))=L):Up Θ Τ (n+1) N where
 so:=λa b k p=>by
  by_cases g:b<n;·exact d.so a b k g
  · have i:b=n:=by omega
    subst i;have e:ĵ Θ (Τ (b-1)) (Τ b):=.of_le h (by rw[d.re b (s_ _) m];exact d.lo _ (by omega));by_cases f:a=b-1;·subst f;exact e
    ·exact(d.so a (b-1) (by omega) (by omega)).tr O e
 lo:=λa f=>by
  by_cases j:a<n;·have:=d.lo a j;omega
  · have:a=n:=by omega
    subst this;rw[d.re a (s_ _) m];omega
 re:=λa f o=>d.re a (by omega) o
theorem Km{b:Array Vt}{k:TV}{g:SX}{Q:AscSt->SX->Prop}(O:Od Θ)(C:Cm Æ E Ë b k Θ)(B:SB b k Τ g)(q:1<=d)(j:d<=r)(p:r<=b.size)(a:Up Θ Τ d b.size)(h:∀n,d<=n->n<=r->Up Θ Τ n b.size->(n=r\/Θ (Τ n) (Τ (n-1))=U)->Q (Y,n) g):ě Æ E ο Ë (ascLoop d r) Q g:=by
 unfold ascLoop;refine kG (I:=λx c e=>e=g/\c=(Y,x)/\d<=x/\Up Θ Τ x b.size) j ?_ ?_ ⟨rfl,rfl,s_ _,a⟩;·rintro x c e o⟨rfl,rfl,f,i⟩;dsimp only;refine bK (Kl C B (by omega) (by omega) ?_);cases m:Θ (Τ x) (Τ (x-1))with|true=>simp only[if_true];exact cO (h x f (by omega) i (.inr m))|false=>simp only[M_,if_false];exact cO ⟨rfl,rfl,by omega,i.next O (by omega) (by omega) m⟩
 ·rintro c e⟨rfl,rfl,f,i⟩;exact h r f (s_ _) i (.inl rfl)
structure Dn(blt:Nat->Nat->Bool)(p:Nat->Nat)(n N:Nat):Prop where
 so:∀a b,a<b->b<n->ĵ blt (p b) (p a)lo:∀a,a<n->p a<n
 re:∀a,n<=a->a<N->p a=a
structure Dq(blt:Nat->Nat->Bool)(p:Nat->Nat)(c n N:Nat):Prop where
 cn:c<n
 d1:∀a b,a<b->b<c->ĵ blt (p b) (p a)d2:∀a b,a<c->c<=b->b<n->blt (p b) (p a)=U
 d3:∀a b,c<=a->a<b->b<n->blt (p a) (p b)=L/\blt (p b) (p a)=L/\p a<p b
 lo:∀a,a<n->p a<n
 re:∀a,n<=a->a<N->p a=a
theorem Dq.turn(D:Dq Θ Τ d r Β):Dn Θ (ę Τ d r) r Β where
 so:=λa b h i=>by
  unfold ę;by_cases f:d<=b
  · rw[if_pos ⟨f,i⟩];by_cases g:d<=a;·rw[if_pos ⟨g,by omega⟩];have:=D.d3 (d+r-1-b) (d+r-1-a) (by omega) (by omega) (by omega);exact .inr ⟨this.2.1,this.2.2⟩
    ·rw[if_neg (by omega)];exact .inl (D.d2 a _ (by omega) (by omega) (by omega))
  ·rw[if_neg (by omega),if_neg (by omega)];exact D.d1 a b h (by omega)
 lo:=λa e=>by
  unfold ę;split;·exact D.lo _ (by omega)
  ·exact D.lo _ e
 re:=λa e j=>by unfold ę;rw[if_neg (by omega)];exact D.re a e j
theorem Dq.one(D:Dq Θ Τ (d-1) d r):Dn Θ Τ d r where
 so:=λa b f g=>by
  by_cases e:b<d-1;·exact D.d1 a b f e
  ·exact .inl (D.d2 a b (by omega) (by omega) g)
 lo:=D.lo;re:=D.re
theorem Dn.turn(D:Dn Θ Τ d r):Up Θ (ę Τ 0 d) d r where
 so:=λa b h f=>by unfold ę;rw[if_pos ⟨QZ _,by omega⟩,if_pos ⟨QZ _,f⟩];exact D.so _ _ (by omega) (by omega)
 lo:=λa e=>by unfold ę;rw[if_pos ⟨QZ _,e⟩];exact D.lo _ (by omega)
 re:=λa e g=>by unfold ę;rw[if_neg (by omega)];exact D.re a e g
theorem Dn.next(O:Od Θ){n N:Nat}(D:Dn Θ Τ n N)(o:1<=n)(g:n<N)(h:Θ (Τ n) (Τ (n-1))=U):Dq Θ Τ n (n+1) N where
 cn:=by omega
 d1:=D.so;d2:=λa b d i k=>by
  have:b=n:=by omega
  subst this;by_cases e:a=b-1;·subst e;exact h
  · rcases D.so a (b-1) (by omega) (by omega)with q|⟨q,_⟩;·exact O.tr _ _ _ h q
    ·exact O.lt_le h q
 d3:=λa b d m i=>by omega
 lo:=λa d=>by
  by_cases f:a<n;·have:=D.lo a f;omega
  · have:a=n:=by omega
    subst this;rw[D.re a (s_ _) g];omega
 re:=λa d j=>D.re a (by omega) j
theorem Dq.next(O:Od Θ){c n N:Nat}(D:Dq Θ Τ c n N)(k:n<N)(o:Θ (Τ n) (Τ (n-1))=L)(h:Θ (Τ (n-1)) (Τ n)=L):Dq Θ Τ c (n+1) N where
 cn:=by have:=D.cn;omega
 d1:=D.d1;d2:=λa b d m t=>by
  by_cases f:b<n;·exact D.d2 a b d m f
  · have:b=n:=by omega
    subst this;exact O.le_lt h (D.d2 a (b-1) d (by have:=D.cn;omega) (by omega))
 d3:=λa b d j m=>by
  by_cases f:b<n;·exact D.d3 a b d j f
  · have:b=n:=by omega
    subst this;have g:Τ a<Τ b:=by have:=D.lo a (by omega);rw[D.re b (s_ _) k];exact this
    by_cases e:a=b-1;·subst e;exact⟨h,o,g⟩
    ·obtain⟨q,p,_⟩:=D.d3 a (b-1) d (by omega) (by omega);exact⟨O.le h q,O.le p o,g⟩
 lo:=λa d=>by
  by_cases i:a<n;·have:=D.lo a i;omega
  · have:a=n:=by omega
    subst this;rw[D.re a (s_ _) k];omega
 re:=λa d r=>D.re a (by omega) r
theorem yu{e:Array Vt}{g:TV}{k:SX}{Q:Option Nat->SX->Prop}(O:Od Θ)(C:Cm Æ E Ë e g Θ)(B:SB e g Τ k)(q:1<=d)(i:d<=r)(p:r<=e.size)(b:Dn Θ Τ d e.size)(h:∀m n f,SB e g n f->1<=m->m<=r->Up Θ n m e.size->Q (Z m) f):ě Æ E ο Ë (tail3 d r) Q k:=by unfold tail3;refine bK (By ?_);have o:=B.mirror (i:=0) (j:=d) (by omega);exact bK (Km O C o q i p b.turn λm t j a _=>cO (h m _ _ o (by omega) j a))
theorem Kn{f:Array Vt}{p:TV}{v:SX}{Q:DescSt->SX->Prop}(O:Od Θ)(C:Cm Æ E Ë f p Θ)(B:SB f p Τ v)(h1:2<=d)(u:d<=r)(P:r<=f.size)(a:Dq Θ Τ (d-1) d f.size)(h:∀m b g i,SB f p g i->d<=m->m<=r->b+1<=m->Dq Θ g (m-(b+1)) m f.size->Q (Y,m,b) i):ě Æ E ο Ë (descLoop d r) Q v:=by
 unfold descLoop;refine kG (I:=λx c i=>∃b g,c=(Y,x,b)/\SB f p g i/\d<=x/\b+1<=x/\Dq Θ g (x-(b+1)) x f.size) u ?_ ?_ ⟨0,Τ,rfl,B,s_ _,by omega,a⟩;·rintro x c i I⟨b,g,rfl,k,o,t,j⟩;dsimp only;refine bK (Kl C k (by omega) (by omega) ?_);cases q:Θ (g x) (g (x-1))with
 |true=>
 simp only[if_true];by_cases n:b>0
 · rw[if_pos n];refine bK (By (cO ?_));have H:=k.mirror (i:=x-(b+1)) (j:=x) (by omega);refine⟨0,_,rfl,H,by omega,by omega,?_⟩;have A:=j.turn;have hc:=j.cn;refine A.next O (by omega) (by omega) ?_;have z:ę g (x-(b+1)) x x=g x:=by unfold ę;rw[if_neg (by omega)]
   have y:ę g (x-(b+1)) x (x-1)=g (x-(b+1)):=by unfold ę;rw[if_pos (by omega)];congr 1;omega
   rw[z,y];by_cases e:x-(b+1)=x-1;·rw[e];exact q
   ·exact O.lt_le q (j.d3 (x-(b+1)) (x-1) (s_ _) (by omega) (by omega)).1
 · rw[if_neg n];have e:b=0:=by omega
   subst e;exact cO ⟨0,g,rfl,k,by omega,by omega,j.one.next O (by omega) (by omega) q⟩|false=>simp only[M_,if_false];refine bK (Kl C k (by omega) (by omega) ?_);cases w:Θ (g (x-1)) (g x)with|true=>simp only[if_true];exact cO (h x b g i k o (by omega) t j)|false=>simp only[M_,if_false];refine cO ⟨b+1,g,rfl,k,by omega,by omega,?_⟩;have:=j.next O (by omega) q w;rwa[show x+1-(b+1+1)=x-(b+1)by omega]
 ·rintro c i⟨b,g,rfl,k,o,t,j⟩;exact h r b g i k o (s_ _) t j
theorem nF{b:Array Vt}{n:TV}{q:SX}{Q:Option Nat->SX->Prop}(O:Od Θ)(C:Cm Æ E Ë b n Θ)(B:SB b n Τ q)(z:1<=d)(p:d+1<=r)(o:r<=b.size)(a:Dq Θ Τ d (d+1) b.size)(h:∀m k g,SB b n k g->1<=m->m<=r->Up Θ k m b.size->Q (Z m) g):ě Æ E ο Ë (descPart d r) Q q:=by
 unfold descPart;refine bK (yt λs v=>TC ⟨v,?_⟩);refine bK (Kn O C B (by omega) p o a λm i k g u w j y t=>?_);dsimp only;by_cases f:i>0;·rw[if_pos f];exact bK (By (yu O C (u.mirror (by omega)) (by omega) j o t.turn h))
 · rw[if_neg f];have e:i=0:=by omega
   subst e;exact yu O C u (by omega) j o t.one h
theorem FH{i:Array Vt}{I:TV}{H:SX}{Q:Option Nat->SX->Prop}(O:Od Θ)(C:Cm Æ E Ë i I Θ)(B:SB i I Τ H)(h1:1<=d)(P:d<=i.size)(p:∀k,k<i.size->Τ k=k)(h:∀m p' t,SB i I p' t->1<=m->m<=d->Up Θ p' m i.size->Q (Z m) t):ě Æ E ο Ë (countRun' 0 d) Q H:=by
 rw[countRun0_eq];refine bK (Km O C B (s_ 1) h1 P ⟨λa b z r=>by omega,λa j=>by rw[p a (by omega)];exact j,λa _ hN=>p a hN⟩ λn v u f c'=>?_);dsimp only;by_cases o:n=d;·rw[if_pos (by simpa using o)];exact cO (h n Τ H B v u f)
 · rw[if_neg (by simpa using o)];have w:Θ (Τ n) (Τ (n-1))=U:=c'.resolve_left o;by_cases y:n>1;·rw[if_pos y];refine bK (Kl C B (by omega) (by omega) ?_);cases hr:Θ (Τ 0) (Τ (n-1))with|true=>simp only[if_true];exact cO (h n Τ H B v u f)|false=>
     simp only[M_,if_false];have B':=B.mirror (i:=0) (j:=n) (by omega);have b':∀a,a<n->Θ (Τ a) (Τ 0)=L:=λa j=>by
      by_cases e:a=0;·subst e;exact O.ir _
      · rcases f.so 0 a (by omega) j with q|q;·exact O.as q
        ·exact q.1
     have a':∀a,a<n->Θ (Τ (n-1)) (Τ a)=L:=λa j=>by
      by_cases e:a=n-1;·subst e;exact O.ir _
      · rcases f.so a (n-1) (by omega) (by omega)with q|q;·exact O.as q
        ·exact q.1
     have eq:∀a b,a<n->b<n->Θ (Τ a) (Τ b)=L:=λa b j r=>O.le (a' b r) (O.le hr (b' a j));have g:Dq Θ (ę Τ 0 n) n (n+1) i.size:=by
      have Dm:Dn Θ (ę Τ 0 n) n i.size:=⟨λa b z r=>by unfold ę;rw[if_pos ⟨QZ _,r⟩,if_pos ⟨QZ _,by omega⟩];refine .of_le (eq _ _ (by omega) (by omega)) ?_;rw[p _ (by omega),p _ (by omega)];omega,λa j=>by unfold ę;rw[if_pos ⟨QZ _,j⟩,p _ (by omega)];omega,λa j hN=>by unfold ę;rw[if_neg (by omega),p _ hN]⟩;refine Dm.next O (by omega) (by omega) ?_;have e1:ę Τ 0 n n=Τ n:=by unfold ę;rw[if_neg (by omega)]
      have e2:ę Τ 0 n (n-1)=Τ 0:=by unfold ę;rw[if_pos (by omega)];congr 1;omega
      rw[e1,e2];exact O.lt_le w (eq 0 (n-1) (by omega) (by omega))
     exact bK (By (nF O C B' (by omega) (by omega) P g h))
   · rw[if_neg y];have A:n=1:=by omega
     subst A;refine nF O C B (by omega) (by omega) P ?_ h;have Dm:Dn Θ Τ 1 i.size:=⟨λa b z r=>by omega,f.lo,f.re⟩;exact Dm.next O (by omega) (by omega) w
theorem NQ{j:Array Vt}{z:TV}{st:SX}{Q:Bool->SX->Prop}(O:Od Θ)(C:Cm Æ E Ë j z Θ)(B:SB j z Τ st)(i':1<=r)(a':r<=d)(hn:d<=j.size)(g:Up Θ Τ r j.size)(h:∀m o,SB j z m o->Up Θ m d j.size->Q U o):ě Æ E ο Ë (binarySort' 0 d r) Q st:=by
 rw[binarySort'_eq];simp only[Uq];rw[show max r 1=r by omega];refine bK (qv (kG (I:=λk c o=>∃m,c=(Y,())/\r<=k/\SB j z m o/\Up Θ m k j.size) (Q:=λc o=>∃m,c=(Y,())/\SB j z m o/\Up Θ m d j.size) a' ?_ ?_ ⟨Τ,rfl,s_ _,B,g⟩) ?_)
 · rintro k c o hk⟨m,rfl,h',y,t⟩;have A:m k=k:=t.re k (s_ _) (by omega);refine bK (qv (kG (I:=λx c p=>p=o/\∃l f,c=(Y,l,f)/\l<=f/\f<=k/\f-l<=k-x/\(∀i,i<l->Θ (m k) (m i)=L)/\(∀i,f<=i->i<k->Θ (m k) (m i)=U)) (Q:=λc p=>p=o/\∃l f,c=(Y,l,f)/\l<=k/\(∀i,i<l->Θ (m k) (m i)=L)/\(∀i,l<=i->i<k->Θ (m k) (m i)=U)) (QZ k) ?_ ?_ ⟨rfl,0,k,rfl,by omega,by omega,by omega,λi hi=>by omega,λi h1 h2=>by omega⟩) ?_)
   · rintro x c p hx⟨rfl,l,f,rfl,b',w,hm,u,v⟩;dsimp only;by_cases H:l>=f
     · rw[if_pos H];have:l=f:=by omega
       subst this;exact cO ⟨rfl,l,l,rfl,w,u,v⟩
     ·rw[if_neg H];refine bK (Kl C y (by omega) (by omega) ?_);cases n:Θ (m k) (m ((l+f)/2))with
       |true=>
        simp only[if_true];refine cO ⟨rfl,l,(l+f)/2,rfl,by omega,by omega,by omega,u,λi i1 i2=>?_⟩;by_cases e:i=(l+f)/2;·subst e;exact n
        · rcases t.so ((l+f)/2) i (by omega) i2 with q|q;·exact O.tr _ _ _ n q
          ·exact O.lt_le n q.1|false=>
        simp only[M_,if_false];refine cO ⟨rfl,(l+f)/2+1,f,rfl,by omega,by omega,by omega,λi i1=>?_,v⟩;by_cases e:i=(l+f)/2;·subst e;exact n
        · rcases t.so i ((l+f)/2) (by omega) (by omega)with q|q;·exact O.le (O.as q) n
          ·exact O.le q.1 n
   · rintro c p⟨rfl,l,f,rfl,b',w,hm,u,v⟩;have:l=f:=by omega
     subst this;exact⟨rfl,l,l,rfl,w,u,v⟩
   · rintro c p⟨rfl,l,f,rfl,c',u,v⟩;show ě Æ E ο Ë (do moveDown' k l;pure (W7 (Y,()))) _ _;rw[moveDown'_eq];refine bK (ll (cO ⟨Ň m k l,rfl,by omega,y.bubble (by omega) c',?_⟩));refine⟨λa b I hb=>?_,λa ha=>?_,λa ha hN=>?_⟩
     · have c1:Ň m k l l=m k:=by unfold Ň;rw[if_pos rfl]
       have c2:∀x,l<x->x<=k->Ň m k l x=m (x-1):=λx h1 h2=>by unfold Ň;rw[if_neg (by omega),if_pos ⟨h1,h2⟩]
       have P:∀x,x<l->Ň m k l x=m x:=λx h1=>by unfold Ň;rw[if_neg (by omega),if_neg (by omega)]
       by_cases d':b=l;·subst d';rw[c1,P a I];exact .of_le (u a (by omega)) (by rw[A];exact t.lo a (by omega))
       · by_cases e':l<b
         · rw[c2 b e' (by omega)];by_cases f':a=l;·subst f';rw[c1];exact .inl (v (b-1) (by omega) (by omega))
           · by_cases g':l<a;·rw[c2 a g' (by omega)];exact t.so (a-1) (b-1) (by omega) (by omega)
             ·rw[P a (by omega)];exact t.so a (b-1) (by omega) (by omega)
         ·rw[P a (by omega),P b (by omega)];exact t.so a b I (by omega)
     · unfold Ň;split;·rw[A];omega
       · split;·have:=t.lo (a-1) (by omega);omega
         ·have:=t.lo a (by omega);omega
     ·unfold Ň;rw[if_neg (by omega),if_neg (by omega)];exact t.re a (by omega) hN
 ·rintro c o⟨m,rfl,_,y,t⟩;exact⟨m,rfl,y,t⟩
 ·rintro c o⟨m,rfl,y,t⟩;exact cO (h m o y t)
structure NR(a₀:Array Vt)(blt:Nat->Nat->Bool)(p:Nat->Nat)(xs:Array Vt):Prop where
 sz:xs.size=a₀.size
 at':∀k,k<a₀.size->xs[k]?=a₀[p k]?lt:∀k,k<a₀.size->p k<a₀.size
 inj:∀a b,a<a₀.size->b<a₀.size->p a=p b->a=b
 so:∀a b,a<b->b<a₀.size->ĵ blt (p a) (p b)
def Dne(a:Array Vt)(d:Nat->Nat->Bool)(b:SX):Prop:=∃p,NR a d p (Vs b)/\Yn b=Y/\Wz b=#[(0,a.size,0)]
theorem SB.done{b:Array Vt}{e:TV}{d:SX}(B:SB b e Τ d)(a:Up Θ Τ b.size b.size):Dne b Θ (setPending d ((Wz d).push (0,b.size,0))):=⟨Τ,⟨B.sz,B.at',B.lt,B.inj,a.so⟩,B.failed,by show(Wz d).push _=_;rw[B.pend];rfl⟩
theorem Ko{b:Array Vt}{i:TV}{v:SX}{Q:Unit->SX->Prop}(O:Od Θ)(C:Cm Æ E Ë b i Θ)(B:SB b i Τ v)(P:∀k,k<b.size->Τ k=k)(h2:2<=b.size)(u:b.size<64)(h:∀A d,NR b Θ A (Vs d)->Yn d=Y->Q () d):ě Æ E ο Ë sortRuns' Q v:=by
 rw[sortRuns'_eq];refine bK (vA ?_);dsimp only;have q:minRun' b.size b.size 0=b.size:=by
  obtain⟨f,hf⟩:∃f,b.size=f+1:=⟨b.size-1,by omega⟩;have:minRun' (f+1) b.size 0=b.size:=by rw[minRun'_succ,if_pos u];rfl
  rwa[<-hf]at this
 simp only[B.sz,q];refine bK (qv (kG (I:=λx c d=>(x=0/\c=(Y,0)/\SB b i Τ d)\/(1<=x/\c=(Y,b.size)/\Dne b Θ d)) (Q:=λc d=>c=(Y,b.size)/\Dne b Θ d) (QZ _) ?_ ?_ (.inl ⟨rfl,rfl,B⟩)) ?_)
 · rintro x c d H(⟨rfl,rfl,B'⟩|⟨a',rfl,a⟩)
   · dsimp only;rw[if_neg (by omega)];simp only[Nat.sub_zero,Nat.min_self,Uq];refine bK (FH O C B' (by omega) (s_ _) P λm p2 p n t r w=>?_);dsimp only;by_cases g:m<b.size
     · rw[if_pos g];refine bK (yt λs I=>TC ⟨I,?_⟩);refine bK (NQ O C n t r (s_ _) w λp3 o y U3=>?_);simp only[Vn,M_,if_false];refine bK (vA ?_);have j:(Wz o).back?=Y:=by rw[y.pend];rfl
       rw[j];dsimp only;exact bK (ll (cO (.inr ⟨by omega,rfl,y.done U3⟩)))
     · rw[if_neg g];have hm:m=b.size:=by omega
       subst hm;refine bK (vA ?_);have j:(Wz p).back?=Y:=by rw[n.pend];rfl
       rw[j];dsimp only;exact bK (ll (cO (.inr ⟨by omega,rfl,n.done w⟩)))
   ·dsimp only;rw[if_pos (s_ _)];exact cO ⟨rfl,a⟩
 · rintro c d(⟨H,_,_⟩|⟨_,hc,a⟩);·omega
   ·exact⟨hc,a⟩
 · rintro c d⟨rfl,z,D1,D2,D3⟩;dsimp only;refine bK (qv (kG (I:=λ_ c e=>e=d/\c=(Y,())) (Q:=λc e=>e=d/\c=(Y,())) (QZ _) ?_ (λ_ _ hh=>hh) ⟨rfl,rfl⟩) ?_);·rintro x c e _⟨rfl,rfl⟩;refine bK (vA ?_);rw[if_pos (by rw[D3];exact s_ 1)];exact cO ⟨rfl,rfl⟩
   ·rintro c e⟨rfl,rfl⟩;exact cO (h z _ D1 D2)
def JT(s:g_)(H:J_):g_->Prop:=λb=>∃a,s.toks<=a/\b={s with heap:=H,toks:=a}
open L2
def Pe(h:J_)(A:xy)(z:Bool)(p q:D)(e l:Bool):Prop:=∀(a:n_)(w:w_)(E:D->g_->Prop)(s:g_),s.heap=h->(∀Q:Bool->g_->Prop,Q e s->uk (x_ a w) A (eqBool p q) Q E s)/\(∀(b:Bool)(Q:Bool->g_->Prop),(b=U->z=U)->Q l s->uk (x_ a w) A (oneLt' b p q) Q E s)
def Pf(p q:D)(e l:Bool):Prop:=∀(a:n_)(w:w_)(A:xy)(E:D->g_->Prop)(s:g_),(∀Q:Bool->g_->Prop,Q e s->uk (x_ a w) A (eqBool p q) Q E s)/\(∀Q:D->g_->Prop,Q (.bool l) s->uk (x_ a w) A (richCompare .Lt p q) Q E s)
open FD
theorem yw{R:Nat->Nat->Prop}(h:∀a b,R a b->R b a->False):∀{l m:List Nat},l.Perm m->l.Pairwise R->m.Pairwise R->l=m
 |[],m,d,_,_=>d.nil_eq|x::l,[],d,_,_=>by simpa using d.length_eq|x::l,y::m,d,g,f=>by
  rw[Rh]at g f;have e:x=y:=by
   rcases t_.mp (d.mem_iff.mp (q_ (a:=x)))with e|j;·exact e
   · rcases t_.mp (d.mem_iff.mpr (q_ (a:=y)))with e|i;·exact e.symm
     ·exact(h _ _ (g.1 y i) (f.1 x j)).elim
  subst e;rw[yw h d.cons_inv g.2 f.2]
theorem ĵ.as(O:Od Θ){a b:Nat}(h:ĵ Θ a b)(d:ĵ Θ b a):False:=by
 have:=h.tr O d;rcases this with q|q;·rw[O.ir]at q;cases q
 ·omega
theorem yx{a:Nat->Nat->Bool}(O:Od a)(x:Nat):∀l:List Nat,(∀y∈l,x<y)->l.Pairwise (ĵ a)->(vy (λi j=>!a j i) x l).Pairwise (ĵ a)
 |[],_,_=>by simp[vy]|y::l,f,h=>by
  unfold vy;rw[Rh]at h;split
  · rename_i e;have d:ĵ a x y:=.of_le (by simpa using e) (f y q_);rw[Rh,Rh];refine⟨λz b=>?_,h⟩;rcases t_.mp b with rfl|b;·exact d
    ·exact d.tr O (h.1 z b)
  · rename_i e;rw[Rh];refine⟨λz b=>?_,yx O x l (λz b=>f z (on _ b)) h.2⟩;rcases t_.mp ((j8 _ x l).mem_iff.mp b)with rfl|b;·exact .inl (by simpa using e)
    ·exact h.1 z b
theorem uz{a:Nat->Nat->Bool}(O:Od a):∀l:List Nat,l.Pairwise (·<·)->(isortB (λi j=>!a j i) l).Pairwise (ĵ a)|[],_=>.nil|x::l,h=>by rw[Rh]at h;exact yx O x _ (λy b=>h.1 y ((isortB_perm _ l).mem_iff.mp b)) (uz O l h.2)
theorem yy{a d:Type}{g:a->a->Bool}{b:d->d->Bool}(f:a->d)(x:a):∀l:List a,(∀y∈l,g x y=b (f x) (f y))->(vy g x l).map f=vy b (f x) (l.map f)
 |[],_=>rfl|y::l,h=>by
  have e:=h y q_;simp only[vy,QU];rw[<-e];split;·rfl
  ·rw[QU,yy f x l λz i=>h z (on _ i)]
theorem oJ{e g:Type}{i:e->e->Bool}{d:g->g->Bool}(f:e->g):∀l:List e,(∀x∈l,∀y∈l,i x y=d (f x) (f y))->(isortB i l).map f=isortB d (l.map f)|[],_=>rfl|x::l,h=>by simp only[isortB,QU];rw[yy (b:=d) f x _ λy j=>h x q_ y (on _ ((isortB_perm _ l).mem_iff.mp j)),oJ f l λa m b k=>h a (on _ m) b (on _ k)]
theorem lV:∀(l m:List Nat),l.Nodup->(∀x∈l,x∈m)->m.length<=l.length->l.Perm m
 |[],m,_,_,h=>by have:m=[]:=Sf.mp (by simpa using h);subst this;exact .refl _|x::l,m,a,d,h=>by
  rw[Sb]at a;obtain⟨f,e,rfl⟩:=List.append_of_mem (d x q_);refine((lV l (f++e) a.2 (λy b=>?_) (by simp at h⊢;omega)).cons x).trans List.perm_middle.symm;have:=d y (on _ b);simp only[QS,t_]at this⊢;rcases this with q|rfl|q;·exact .inl q
  ·exact(a.1 b).elim
  ·exact .inr q
theorem si(g:∀k,k<d->Τ k<d)(f:∀a b,a<d->b<d->Τ a=Τ b->a=b):((rl d).map Τ).Perm (rl d):=by
 have i:((rl d).map Τ).Nodup:=by rw[List.nodup_iff_pairwise_ne,Yo];refine(List.nodup_range (n:=d)).imp_of_mem λ{a b}o n h e=>h (f a b (by simpa using o) (by simpa using n) e)
 have sub:∀x∈(rl d).map Τ,x∈rl d:=λx j=>by obtain⟨k,m,rfl⟩:=QW.mp j;simpa using g k (by simpa using m)
 exact lV _ _ i sub (by simp)
theorem qw(O:Od Θ){n:Nat}{p:Nat->Nat}(e:∀k,k<n->p k<n)(d:∀a b,a<n->b<n->p a=p b->a=b)(g:∀a b,a<b->b<n->ĵ Θ (p a) (p b)):(rl n).map p=isortB (λi j=>!Θ j i) (rl n):=by refine yw (λa b h o=>h.as O o) ((si e d).trans (isortB_perm _ _).symm) ?_ (uz O _ WY);rw[Yo];exact(WY (n:=n)).imp_of_mem λ{a b}q m f=>g a b f (by simpa using m)
end TS
variable{Ë:g_->Prop}{Θ:Nat->Nat->Bool}{Τ:Nat->Nat}
namespace FD
open L2 TS
theorem fZ{H:Hp}{K:d_}:∀{e:List N}{b:List V},O K H e b->e.length=b.length|[],b,r=>by cases(show b=[]from r);rfl|d::e,b,r=>by obtain⟨u,a,rfl,g,f⟩:∃v a,b=v::a/\Ó K H d v/\O K H e a:=r;simp[fZ f]
theorem vB(b:q.length=μ.length)(a:∀(i:Nat)(d:N)(v:V),q[i]?=Z d->μ[i]?=Z v->Ó u h d v):O u h q μ:=by induction q generalizing μ with
 |nil=>cases μ with|nil=>exact rfl|cons _ _=>simp at b
 |cons d q e=>cases μ with|nil=>simp at b|cons w μ=>exact⟨w,μ,rfl,a 0 d w rfl rfl,e (by simpa using b) λi j v g f=>a (i+1) j v (by simpa using g) (by simpa using f)⟩
theorem sj{H:Hp}{K:d_}:∀{e:List N}{b:List V},O K H e b->∀(i:Nat)(d:N)(v:V),e[i]?=Z d->b[i]?=Z v->Ó K H d v|[],_,_,i,d,v,h,_=>by simp at h|k::e,b,r,i,d,v,h,f=>by obtain⟨u,a,rfl,j,g⟩:∃v a,b=v::a/\Ó K H k v/\O K H e a:=r;cases i with|zero=>simp at h f;subst h;subst f;exact j|succ i=>exact sj g i d v (by simpa using h) (by simpa using f)
theorem vC(a:μ.length=ξ.length)(h:∀(i:Nat)(v:V)(u:D),μ[i]?=Z v->ξ[i]?=Z u->Ü v u):Ð μ ξ:=by induction μ generalizing ξ with
 |nil=>cases ξ with|nil=>exact .nil|cons _ _=>simp at a
 |cons d j b=>cases ξ with|nil=>simp at a|cons w μ=>exact .cons (h 0 d w rfl rfl) (b (by simpa using a) λi g v f e=>h (i+1) g v (by simpa using f) (by simpa using e))
open PySem.W
theorem Kp(G:è a.prog a.w a.K a.mg a.base ċ d e Â z (ŷ a.K ψ z.length))(t:Ø d E)(o:E.frames=a.A.frames)(w:ë a.K Â z [])(I:Ì a ζ Λ h f){v:V}{u:D}{b n:N}(q:Ü v u)(r:Ó a.K h b v)(p:z.length=1)(y:ψ [b]=Z (.ok n)):uk (x_ a.prog a.w) E (call (.ref e) [u]) (EP a ζ Λ λm j=>Í h j/\Ó a.K j n m) ο f:=by have i:=I.env0;refine Ue (RT (G.run E a.stack f h ⟨[u],[]⟩ [u] [v] (λm j=>Í h j/\Ó a.K j n m) E0 t ⟨o.trans i.frames,i.mod,i.bs,i.bsz,i.funs,i.frf,i.hok,i.bare⟩ (by simpa using w f [u] I.kIn (by simp[p])) (.cons q .nil) ⟨[b],⟨v,[],rfl,r,rfl⟩,p.symm,by rw[y];exactλv j g r=>⟨g,r⟩⟩) λr H k=>?_);cases r with|error g=>exact k.elim|ok A=>cases A with|ret u=>exact I.after k|next=>exact QN k|brk=>exact QN k|cont=>exact QN k
end FD
namespace TS
open FD
theorem DC{b:SX}{P:YB->g_->Prop}(j:f.heap.get? v=Z (RG "list" Δ r))(n:f.heap.get? e=Z (RG "list" #[] d))(g:v≠e)(i:Δ.size<=sizeLine)(o:(Vs b).size<=sizeLine)(k:Yn b=Y)(h:P (.done (.ret .none)) {f with heap:=(f.heap.update v (Q3 λ_=>#[])).update e (Q3 λ_=>(Vs b).map (·.2))}):uk (x_ p m) E (ksk_tail e L d (.ref v) b) P ο f:=by
 unfold ksk_tail;refine e_ (Vl j rfl ?_ i (QZ _));refine e_ (YI ?_);have a:(f.heap.update v (Q3 λ_=>#[])).get? e=Z (RG "list" #[] d):=by rw[So _ _ _ _ g.symm];exact n
 refine e_ (seqEpoch_at (s:={f with heap:=f.heap.update v (Q3 λ_=>#[])}) a rfl ?_);refine e_ (Vl (s:={f with heap:=f.heap.update v (Q3 λ_=>#[])}) a rfl ?_ (QZ _) (by simp only[M_,if_false,U7];omega));rw[k];simp only[bne_self_eq_false,M_,if_false];exact m_ h
end TS
namespace FD
open L2 TS
theorem qz:∀{a:List N}(n:Nat),æ a=U->æ (a.take n)=U|[],n,_=>by simp[æ]|d::a,0,_=>by simp[æ]|d::a,n+1,h=>by simp only[æ,p_]at h;simp only[List.take_succ_cons,æ,p_];exact⟨h.1,qz n h.2⟩
theorem sk{o:Obj}(a:I.get? e=Z o):el [e] I=[(e,o)]:=by simp[el,a]
theorem lW{s:g_}{E:D->g_->Prop}{M:T_}{A:xy}{l:B}{a:List D}{o:Obj}{n:Nat}{c:String}{Q:List D->g_->Prop}{d:n_}{w:w_}(i:s.heap.get? l=Z o)(k:o.cls=.type c)(j:o.data=.seq a.toArray n)(m:(r_ c==r_ "list"||r_ c==r_ "tuple")=U)(h:∀f,(∀b o,s.heap.get? b=Z o->f.get? b=Z o)->s.heap.objs.size<f.objs.size->Q a {s with heap:=f})(p:a.length<=sizeLine):uk (x_ d w) A (XF (.ref l)) Q E s:=by
 unfold XF;refine e_ (UQ (RE entry_proto_collect' ?_));show uk _ _ (do Y8 (.builtin "list.__iadd__" ⟨[<-Yb [],.ref l],[]⟩)) _ _ s;refine e_ (Wf (m_ ⟨UD _ (by decide+kernel),RE entry_list_iadd' ?_⟩));show uk _ _ (SL (.ref s.heap.objs.size) (.ref l) (.ref s.heap.objs.size)) _ _ {s with heap:=s.heap.push (RG "list" #[] 0)};unfold SL;have e:(s.heap.push (RG "list" #[] 0)).get? l=Z o:=j_ _ i;refine e_ (Ul (T:=c) ⟨o,e,k⟩ ?_);rw[if_pos (by rw[Bool.or_assoc,m];simp)];refine e_ (WU e j ?_);refine e_ (WU (xs:=#[]) (n:=0) (pi _ rfl) rfl ?_);rw[if_neg (by simp)];refine e_ (Vl (xs:=#[]) (n:=0) (pi _ rfl) rfl ?_ (QZ _) (by simp only[Wd,E_,List.length_nil];show 0+a.length<=_;omega));refine m_ ?_;show uk (x_ d w) A (do
 let o<-load s.heap.objs.size match o.data with|.seq g _=>pure g.toList|_=>Xh "internal:collect") Q E {s with heap:=(s.heap.push (RG "list" #[] 0)).update s.heap.objs.size (Q3 (·++a.toArray))};refine e_ (wpAny_load (Uz (pi _ rfl) _) ?_);show uk _ _ (pure ((#[]:Array D)++a.toArray).toList) Q E _;rw[show((#[]:Array D)++a.toArray).toList=a by simp];refine m_ (h _ (λb r q=>?_) ?_);·have:=v_ q;rw[So _ _ _ _ (F_ this),Yk _ _ _ (F_ this)];exact q
 ·rw[YA,size_push'];exact RI _
end FD
namespace TS
open L2 FD
noncomputable def okF(a:List Nat):Bool:=a.all λk=>k !=0&&A_ (k<4)
end TS
namespace FD
open L2 TS
def aq(X:C)(N:List Str)(b:RS)(a:B)(s:g_)(H:Hp)(d:List B):C:={X with N:=N,s₀:=s,H₀:=H,env:=Ye b (Ri (a+1) b.names (kx b.names X.env [])) a X.env,outer:=X.stack,stack:=X.stack,ex:=d,fn:=λy=>b.names.lookup y==Z .cell,pn:=[],xe:=λ_ _=>False}
structure jH(osc scope:RS)(cs:List (Str×Nat))(N:List Str):Prop where
 kind:scope.kind=.function
 one:∀y∈scope.names,y.2=.cell->scope.names.lookup y.1=Z .cell
 names:∀y∈scope.names,y.2=.local->scope.names.lookup y.1=Z .local
 free:∀y∈scope.names,y.2=.free->osc.names.lookup y.1=Z .cell\/osc.names.lookup y.1=Z .free
 caps:∀c∈cs,N[c.2]?=Z c.1/\scope.names.lookup c.1=Z .free
theorem j9:∀(b:List (Str×Tu))(lo:Nat)(a:List (Str×B)),Ri lo b a=Ri lo b []++a
 |[],_,_=>rfl|(n,k)::r,lo,a=>by
  unfold Ri;split;·rw[j9 r (lo+1) ((n,lo)::a),j9 r (lo+1) [(n,lo)],U1];rfl
  ·exact j9 r lo a
theorem yz:∀{a:List (Str×Tu)}{lo:Nat}{n:Str}{c:B},(n,c)∈Ri lo a []->(n,Sx)∈a
 |[],_,_,_,h=>(nomatch h)|(m,k)::r,lo,n,c,h=>by
  unfold Ri at h;split at h
  · rename_i b;rw[j9]at h;rcases QS.mp h with q|q;·exact on _ (yz q)
    · have e:n=m:=by simp at q;exact q.1
      have ek:k=.cell:=by simpa using b
      subst e ek;exact q_
  ·exact on _ (yz h)
theorem uA:∀{a:List (Str×Tu)}{lo:Nat}{n:Str},(n,Sx)∈a->((Ri lo a []).lookup n).isSome=U
 |[],_,_,h=>(nomatch h)|(m,k)::r,lo,n,h=>by
  unfold Ri;rcases t_.mp h with e|q;·cases e;rw[if_pos (by decide),j9,S0];cases b:(Ri (lo+1) r []).lookup m with|some _=>rfl|none=>simp
  · split;·rw[j9,S0];have:=uA (lo:=lo+1) q;cases b:(Ri (lo+1) r []).lookup n with|some _=>rfl|none=>rw[b]at this;cases this
    ·exact uA q
theorem FJ{i:List (Str×B)}{a:Env}{Q:Env->g_->Prop}(m:η.kind=.function)(k:Q (newEnv η f.heap.objs.size e (Ri (f.heap.objs.size+1) η.names i) b Y .none (Z a) builtinsNs) {f with heap:=pushCells (f.heap.push {cls:=.type "dict",data:=.dict #[]}) η.names}):uk Æ E (VP η e i [] b Y .none (Z a)) Q ο f:=by simp only[VP,Option.isSome_some,if_true];refine e_ (wpAny_alloc ?_);refine e_ (wpAny_layCells _ (λj d h=>by cases g:d==Sx<;>simp[g]) _ _ _ _ ?_);rw[show({f with heap:=f.heap.push {cls:=.type "dict",data:=.dict #[]}}:g_).heap.objs.size=f.heap.objs.size+1 from N_ ..];refine e_ ?_;rw[V4];exact m_ (m_ k)
theorem yA{P:List (Str×Nat)}(ok:jH a.env.scope η P a.N)(j:Ì a ζ Λ h f)(d':∀b∈Ã,rL a ζ h b)(m':∀b∈Ã,b<f.heap.objs.size)(hC:f.heap.objs.size<=e)(p':I.Ns e λ_=>Y)(b':∀b o,f.heap.get? b=Z o->I.get? b=Z o)(g':CellsOk I (e+1) (Ri (e+1) η.names [])):Ì (aq a (z++P.map (·.1)) η e f h Ã) [] (p8 z.length P Λ) h {f with heap:=I,toks:=d}:=by
 have A:∀n c,(kx η.names a.env []).lookup n=Z c->a.env.cells.lookup n=Z c:=λn c m=>by
  rcases m7 _ _ m with q|⟨q1,q2⟩;·simp at q
  ·obtain⟨c',e'⟩:=j.ok.has n (ok.free _ q1 rfl);rw[e']at q2;rw[e',q2]<;>rfl
 have lk:∀n c,(aq a (z++P.map (·.1)) η e f h Ã).env.cells.lookup n=Z c->(n,c)∈Ri (e+1) η.names []\/((n,Sx)∉η.names/\(kx η.names a.env []).lookup n=Z c):=λn c m=>by have e':(Ri (e+1) η.names (kx η.names a.env [])).lookup n=Z c:=m;rw[j9,S0]at e';cases hl:(Ri (e+1) η.names []).lookup n with|some c'=>rw[hl]at e';cases e';exact .inl (mem_of_lookup hl)|none=>rw[hl]at e';refine .inr ⟨λH=>?_,e'⟩;have:=uA (lo:=e+1) H;rw[hl]at this;cases this
 have k':∀n c,(n,Sx)∉η.names->(kx η.names a.env []).lookup n=Z c->(aq a (z++P.map (·.1)) η e f h Ã).env.cells.lookup n=Z c:=λn c H m=>by show(Ri (e+1) η.names (kx η.names a.env [])).lookup n=Z c;rw[j9,S0];cases hl:(Ri (e+1) η.names []).lookup n with|some c'=>exact absurd (yz (mem_of_lookup hl)) H|none=>exact m
 have E:∀n c,(n,c)∈Ri (e+1) η.names []->f.heap.objs.size<c:=λn c H=>QJ (Nat.lt_succ_of_le hC) (g'.empty n c H).2;have i':∀n c,(kx η.names a.env []).lookup n=Z c->c<f.heap.objs.size:=λn c m=>by obtain⟨v,o,ho,_⟩:=j.cell n c (A n c m);exact v_ ho
 have inj:∀y g c,(aq a (z++P.map (·.1)) η e f h Ã).env.cells.lookup y=Z c->(aq a (z++P.map (·.1)) η e f h Ã).env.cells.lookup g=Z c->y=g:=λy g c e1 e2=>by
  rcases lk y c e1 with p|⟨_,p⟩<;>rcases lk g c e2 with q|⟨_,q⟩;·exact name_of_addr g'.apart p q
  ·exact absurd (WW (E y c p) (i' g c q)) (RQ _)
  ·exact absurd (WW (E g c q) (i' y c p)) (RQ _)
  ·exact j.ok.inj y g c (A y c p) (A g c q)
 refine⟨⟨j.ok.mod,ok.kind,j.ok.glob,j.ok.blt,hC,inj,λy hy=>?_,λy c q' m=>?_,j.ok.hd,j.ok.frames,.inl rfl,λb hb=>⟨λg=>?_,λy c m=>?_⟩,j.bs,QV j.ok.bsz j.sz,λb o m hb=>?_,λb hb g=>?_,j.stack,j.stkFree⟩,rfl,j.bare,Un.kept b',⟨_,p',λi y v h1 h2 h3=>?_⟩,λy c m=>?_,j.hok.fresh hC,λy c m=>?_,λp hp=>absurd (show p∈([]:List (B×Obj))from hp) (by simp),j.hok.kept b',by simp[p8,aq]⟩
 · have H:(y,Sx)∈η.names\/(y,Si)∈η.names:=by
    rcases hy with hy|hy
    · rcases kZ hy with q|⟨_,q⟩;·exact .inl q
      ·exact .inr q
    · rcases kZ hy with q|⟨q,_⟩;·exact .inr q
      ·cases q
   by_cases f':(y,Sx)∈η.names;·obtain⟨c,h'⟩:=Tn.mp (uA (lo:=e+1) f');refine⟨c,?_⟩;show(Ri (e+1) η.names (kx η.names a.env [])).lookup y=Z c;rw[j9,S0,h'];rfl
   ·obtain⟨c,h'⟩:=Tn.mp (om (d:=a.env) η.names [] (H.resolve_left f'));exact⟨c,k' y c f' h'⟩
 · have o':η.names.lookup y=Z .cell:=by simpa[aq]using q'
   rcases lk y c m with p|⟨p,_⟩;·exact SN (E y c p)
   ·exact absurd (gF o') p
 ·have:=m' b hb;rw[g]at this;exact absurd (QJ this hC) (RQ _)
 · rcases lk y c m with p|⟨_,p⟩;·exactλg=>absurd (WW (E y c p) (g▸m' b hb)) (RQ _)
   ·exact(d' b hb).2.2.2.2.1 y c (A y c p)
 · rcases(d' b hb).2.2.2.1 with g|g;·exact j.ok.noex b o m g
   ·exact absurd (QJ (v_ m) (QV j.ok.bsz g)) (RQ _)
 · rcases t_.mp (j.stkSub b g)with q|q;·exact(d' b hb).2.1 q
   ·exact(d' b hb).2.2.1 q
 ·obtain⟨k,rfl,h4⟩:=p9 h2;have w:(z++P.map (·.1))[z.length+k]?=Z y:=h1;rw[Sm (by simp)]at w;simp only[WA]at w;rw[Rg]at w;cases hc:P[k]? with|none=>rw[hc]at w;simp at w|some c=>
    rw[hc]at w;have ey:c.1=y:=by simpa using w
    subst ey;rw[Rg,hc]at h4;simp only[TW,UX]at h4;have r':Λ[c.2]?=Z (Z v):=by cases q:Λ[c.2]? with|none=>rw[q]at h4;simp at h4|some o=>rw[q]at h4;simp at h4;rw[h4]
    obtain⟨hN,hf⟩:=ok.caps c (Q0 hc);have hv:=ok.free _ (gF hf) rfl;obtain⟨mm,_,hl⟩:=j.loc;obtain⟨u,r,l⟩:=hl c.2 c.1 v hN r' (.inr hv);refine⟨u,r,.inr ⟨k6 hf,?_⟩⟩;rcases l with⟨l,_⟩|⟨_,t,ha,o,ho,hd⟩
    · have l':a.env.scope.names.lookup c.1=Z .local:=l;rcases hv with g|g;·rw[l']at g;cases g
      ·rw[l']at g;cases g
    ·obtain⟨a',n'⟩:=Tn.mp (om (d:=a.env) η.names [] (gF hf));have e2:=A _ _ n';rw[ha]at e2;cases e2;exact⟨t,k' _ _ (λH=>by have g:=ok.one _ H rfl;rw[hf]at g;cases g) n',o,b' _ _ ho,hd⟩
 · rcases lk y c m with p|⟨_,p⟩;·exact⟨Y,(g'.empty y c p).1⟩
   ·obtain⟨v,o,ho,hd⟩:=j.cell y c (A y c p);exact⟨v,o,b' _ _ ho,hd⟩
 · rcases lk y c m with p|⟨_,p⟩;·exact j.hok.fresh (SN (E y c p))
   ·exact j.freeC y c (A y c p)
def Kq(X:C)(j:List Str)(o:List (Str×Nat))(a:RS)(D:B)(z:g_)(t:Hp)(r:List B)(y:Nat->J_->Prop)(n w:List N)(b:N->Ev->Option Ev)(p:Option ã)(A:Ò)(q:Ev)(E:V->Prop)(m:Nat)(h:g_):Prop:=∃i e d k g f,(∀v∈g,E v)/\m=n.length-i/\i<=n.length/\Ì (aq X (j++o.map (·.1)) a (D+1) z t r) [] e d h/\Ú X.K d e (gW j.length o q)/\y i h.heap/\(∀b∈r,d b=Y)/\d D=Y/\M' h.heap D f/\Ð g f/\O X.K d k g/\k.length<=i/\Í t d/\(match jY b p A (gW j.length o q) (n.drop i)with|some u=>k++u=w|none=>False)
theorem nG{X:C}{j':List (B×Obj)}{σ:L2.St}{tg t' w':u_}{p':List u_}{scope:RS}{O':Pos}{A:List Str}{f':Option ã}{fe:Ò}{b:N->Ev->Option Ev}{js:List Nat}(m:List (Str×Nat))(ok:jH X.env.scope scope m X.N)(hc:X.calm=U)(c5:∀f s H j,FG (aq X (A++m.map (·.1)) scope f s H j) tg b)(P0:Hp->V->Prop)(b4:∀f s H j,(∃j' σ,Ì X j' σ H s)->∀(j':List (B×Obj))(s9:g_)(a':L2.St)(H9:Hp)(ρ:Ev)(y:N),Ì (aq X (A++m.map (·.1)) scope f s H j) j' a' H9 s9->Ú X.K H9 a' ρ->Í H H9->fe ρ=Z (.ok y)->uk (x_ X.prog X.w) X.A (eval t' (aq X (A++m.map (·.1)) scope f s H j).env) (EP (aq X (A++m.map (·.1)) scope f s H j) j' a' λv i'=>Í H9 i'/\Ó X.K i' y v/\P0 H v) (λ_ _=>False) s9)(b3:∀f s H j,(∃j' σ,Ì X j' σ H s)->xf (aq X (A++m.map (·.1)) scope f s H j) p' f')(J':∀ρ d N',b d (gW A.length m ρ)=Z N'->fgt js N'=gW A.length m ρ){ρ:Ev}{P:g_}{it:B}{j:List B}{tn:Nat->J_->Prop}{J:It}{I:Hp}(E:Ú X.K I σ ρ)(I2:Ì X j' σ I P)(T:Aa X.prog X.w X.K tg J j it tn)(B':tn 0 P.heap)(Q:∀b∈j,rL X j' I b){ds ys:List N}(wk:ų X.K J ds I)(e7:ds.length<=100000)(c4:ys.length<=100000)(hm:jY b f' fe (gW A.length m ρ) ds=Z ys){RR:D->B->WN->g_->Prop}(d1:∀(a f:B)(s6:g_)(H5:Hp)(vs:List V)(m6:Str->Option D),Ì X j' σ (Ý H5 a (.lst vs)) s6->H5 a=Y->Í I H5->O X.K H5 ys vs->(∀v∈vs,P0 I v)->s6.heap.Ns f m6->H5 f=Y->f≠a->P.heap.objs.size<=f->RR (.ref a) f (.ok .next) s6):uk (x_ X.prog X.w) X.A (Yb []) (λa5 a9=>uk (x_ X.prog X.w) X.A (VP scope X.env.globals (kx scope.names X.env []) [] X.env.qual Y .none (Z X.env)) (λy' l'=>Ta (x_ X.prog X.w) X.A (.compStart (.ListComp t' [⟨tg,w',p',0⟩] scope O') 0 (.ref it) a5 {y' with scope:=relabel scope X.env}) (RR a5 y'.locals) l') X.xe a9) X.xe P:=by
 have m':∀b∈j,b<P.heap.objs.size:=λb g=>by obtain⟨o,ho,_⟩:=T.obj _ _ B' b g;exact v_ ho
 refine Ra (FJ ok.kind ?_);dsimp only;generalize E':P.heap.push {cls:=.type "list",dict:=Y,data:=.seq ([]:List D).toArray}=P2;obtain⟨a,hD⟩:∃a,P.heap.objs.size=a:=⟨_,rfl⟩;have hC:P2.objs.size=a+1:=by rw[<-E',N_,hD]
 rw[hC,hD];obtain⟨c',d'⟩:∃h,h=pushCells (P2.push {cls:=.type "dict",data:=.dict #[]}) scope.names:=⟨_,rfl⟩;rw[<-d'];have kp:∀b o,P2.get? b=Z o->c'.get? b=Z o:=λb o e=>by rw[d'];exact pushCells_keeps _ _ b o (j_ _ e)
 have D':∀b o,P.heap.get? b=Z o->c'.get? b=Z o:=λb o e=>kp b o (E'▸j_ _ e);have b5:M' c' a []:=⟨0,kp _ _ (by rw[<-E',<-hD];exact pi _ rfl)⟩;have c7:c'.Ns (a+1) λ_=>Y:=by rw[d',<-hC];exact(Heap.Ns.new P2 (.type "dict")).keeps (pushCells_keeps _ _)
 have d0:CellsOk c' (a+1+1) (Ri (a+1+1) scope.names []):=by have q:=cellsFrom_ok scope.names (P2.push {cls:=.type "dict",data:=.dict #[]}) (a+1+1) [] ⟨λ_ _ hm=>(nomatch hm),U4⟩ (by rw[N_,hC];exact s_ _);rw[N_,hC,<-d']at q;exact q
 have I4:Ì (aq X (A++m.map (·.1)) scope (a+1) P I j) [] (p8 A.length m σ) I {P with heap:=c'}:=yA (d:=P.toks) ok I2 Q m' (by rw[hD];exact UK a) c7 D' d0;have E4:Ú X.K I (p8 A.length m σ) (gW A.length m ρ):=xo A.length m E;have HD:I a=Y:=I2.hok.fresh (UZ hD);have F':∀b∈j,b≠a:=λb g=>Es (hD▸m' b g);have v':∀s4:g_,s4={P with heap:=c'}->Ta (x_ X.prog X.w) X.A (.compLoop (.ListComp t' [⟨tg,w',p',0⟩] scope O') 0 (.ref it) (.ref a) (Ye scope (Ri (a+1+1) scope.names (kx scope.names X.env [])) (a+1) X.env)) (RR (.ref a) (a+1)) s4:=by
  rintro s4 rfl;refine qa (λk s'=>Kq X A m scope a P I j tn ds ys b f' fe ρ (P0 I) k s') ?_ ds.length ⟨0,p8 A.length m σ,I,[],[],[],(λv hv=>by cases hv),by simp,QZ _,I4,E4,T.keep _ _ _ B' λb g o e=>D' b o e,λb g=>(Q b g).1,HD,b5,.nil,rfl,s_ _,.refl I,by rw[Xx,hm];rfl⟩;rintro k0 s5⟨i,o',H5,es,vs,g',hP,rfl,e4,I5,E5,t5,d5,D5,l5,v5,r5,e6,e5,hz⟩;have nC:∀b∈j,b≠a+1:=λb g=>IV (hD▸m' b g);have DL:a≠(aq X (A++m.map (·.1)) scope (a+1) P I j).env.locals:=O0;have n':∀y c,(aq X (A++m.map (·.1)) scope (a+1) P I j).env.cells.lookup y=Z c->c≠a:=λy c e z=>by obtain⟨v,o,ho,hd⟩:=I5.cell y c e;obtain⟨n,q⟩:=l5;subst z;rw[q]at ho;cases ho;cases hd
  have e1:a∉(aq X (A++m.map (·.1)) scope (a+1) P I j).fs:=λz=>by
   rcases t_.mp (I2.stkSub a z)with q|q;·have z2:=I2.lt;rw[hD]at z2;exact Es z2 q.symm
   ·exact I2.nofs (UZ hD) q
  have Dp:rL (aq X (A++m.map (·.1)) scope (a+1) P I j) [] H5 a:=⟨D5,DL,e1,.inr (UZ hD),n',λp hp=>absurd (show p∈([]:List (B×Obj))from hp) (by simp)⟩;have e0:∀b∈[a],∃o,s5.heap.get? b=Z o/\∀v,o.data≠.cell v:=λb g=>by
   have e:b=a:=by simpa using g
   subst e;obtain⟨n,q⟩:=l5;exact⟨_,q,λv z=>by cases z⟩
  have a6:Ì (aq X (A++m.map (·.1)) scope (a+1) P I j) (el [a] s5.heap) o' H5 s5:=by
   have q:=I5.pinned (fp:=[a]) (λb g=>by
    have e:b=a:=by simpa using g
    subst e;exact Dp) e0;rw[YU]at q;exact q
  have Q':∀b∈j,∀p∈el [a] s5.heap,p.1≠b:=λb g p hp z=>by
   have e:p.1=a:=by simpa using(lE hp).1
   exact F' b g (z.symm.trans e)
  have x':∀b∈j,rL (aq X (A++m.map (·.1)) scope (a+1) P I j) (el [a] s5.heap) H5 b:=λb g=>⟨d5 b g,nC b g,I4.ok.exfs b g,.inl g,(I4.ok.exf b g).2,λp hp=>Q' b g p (by simpa[aq]using hp)⟩;have b2:vs.length=es.length:=r5.length;have e2:vs.length=g'.length:=v5.length;by_cases r':i<ds.length
  · refine â (T.item (aq X (A++m.map (·.1)) scope (a+1) P I j) rfl rfl rfl hc i (el [a] s5.heap) s5 o' H5 _ a6 x' t5 (wk.go i H5 e5 r')) λr s6⟨u,hr,h6⟩=>?_;subst hr;refine â h6 λ_ s7⟨xv,H7,I7,r7,y7,t7,d4⟩=>?_;obtain⟨a3,d,hd,rd⟩:=wk.yld i H5 xv H7 e5 r' y7;rw[jV hd]at hz;have d8:=I7.pinned (fp:=j) (λb g=>⟨d4 b g,nC b g,I4.ok.exfs b g,.inl g,(I4.ok.exf b g).2,λp hp=>Q' b g p (by simpa[aq]using hp)⟩) (T.obj _ _ t7);have a2:∀{a':L2.St}{H8:Hp}{s8:g_},Ì (aq X (A++m.map (·.1)) scope (a+1) P I j) (el [a] s5.heap++el j s7.heap) a' H8 s8->tn (i+1) s8.heap/\(∀b∈j,H8 b=Y)/\H8 a=Y/\M' s8.heap a g':=λ{a' H8 s8}I8=>by
     refine⟨T.keep _ _ _ t7 λb g o e=>(I8.pin (b,o) (o_ _ (o_ _ (cZ g e)))).1,λb g=>?_,?_,?_⟩;·obtain⟨o,e,_⟩:=T.obj _ _ t7 b g;exact(I8.pin (b,o) (o_ _ (o_ _ (cZ g e)))).2.1
     ·obtain⟨n,q⟩:=l5;exact(I8.pin (a,_) (o_ _ (G_ _ (cZ (by simp) q)))).2.1
     ·obtain⟨n,q⟩:=l5;exact⟨n,(I8.pin (a,_) (o_ _ (G_ _ (cZ (by simp) q)))).1⟩
    unfold jY at hz;match g:b d (gW A.length m ρ)with
    |none=>rw[g]at hz;exact hz.elim|some e'=>
     rw[g]at hz;dsimp only at hz;refine QX ((c5 (a+1) P I j).h _ s7 o' H7 xv u d (gW A.length m ρ) e' d8 r7 rd (E5.mono a3) g) (λ_ s8⟨a',H8,I8,d6,E8⟩=>?_) λ_ _ z=>QN z;have k':=a3.trans d6;have z':∀{A':L2.St}{H9:Hp},Ú X.K H9 A' e'->Ú X.K H9 A' (gW A.length m ρ):=λ{A' H9}E9=>by have q:=Ú.fgt js E9;rw[J' ρ d e' g]at q;exact q
     have u':∀{H9:Hp}{s9:g_},Ì (aq X (A++m.map (·.1)) scope (a+1) P I j) (el [a] s5.heap++el j s7.heap) a' H9 s9->Í H8 H9->(match(match fe e' with|some (.ok y)=>(match jY b f' fe (gW A.length m ρ) (ds.drop (i+1))with|some ys=>Z (y::ys)|none=>Y)|_=>Y)with|some zs=>es++zs=ys|none=>False)->uk (x_ X.prog X.w) X.A (eval t' (Ye scope (Ri (a+1+1) scope.names (kx scope.names X.env [])) (a+1) X.env)) (λxw l'=>uk (x_ X.prog X.w) X.A (call (.builtin "list.append") [.ref a,xw]) (λ_ a8=>∃k,k<ds.length-i/\Kq X A m scope a P I j tn ds ys b f' fe ρ (P0 I) k a8) (WH (x_ X.prog X.w) X.A (Ye scope (Ri (a+1+1) scope.names (kx scope.names X.env [])) (a+1) X.env) λe s'=>RR (.ref a) (a+1) (.error e) s') l') (WH (x_ X.prog X.w) X.A (Ye scope (Ri (a+1+1) scope.names (kx scope.names X.env [])) (a+1) X.env) λe s'=>RR (.ref a) (a+1) (.error e) s') s9:=λ{H9 s9}I9 e9 b'=>by match c9:fe e',b' with
     |none,b'=>exact b'.elim|some (.exc c),b'=>exact b'.elim|some (.ok y),b'=>
      refine QX (b4 (a+1) P I j ⟨_,_,I2⟩ _ s9 a' H9 e' y I9 (E8.mono e9) (e5.trans (k'.trans e9)) c9) (λw C'⟨yv,i',I',b0,d7,b9,c0⟩=>?_) λ_ _ z=>QN z;obtain⟨b8,b6,a7,c3⟩:=a2 I';refine vn c3 (by omega) λd2 c2 T'=>?_;have b7:Ì (aq X (A++m.map (·.1)) scope (a+1) P I j) (el j s7.heap) a' i' C':=I'.pins_of λp hp=>I'.pin p (o_ _ (o_ _ hp));have d9:Ì (aq X (A++m.map (·.1)) scope (a+1) P I j) (el j s7.heap) a' i' {C' with heap:=d2}:=b7.turned (t':=C'.toks) T' a7 DL (.inr (UZ hD)) n' λp hp z=>by
       have c6:p∈el j s7.heap:=by simpa[aq]using hp
       exact F' p.1 (lE c6).1 z
      have H':=e9.trans d7;refine⟨ds.length-(i+1),by omega,i+1,a',i',es++[y],vs++[yv],g'++[w],(λv hv=>(QS.mp hv).elim (hP v) λz=>by rw[QK.mp z];exact c0),rfl,r',d9.pins_of λp hp=>absurd hp (by simp),z' (E8.mono H'),T.keep _ _ _ b8 λb g o e=>T' b o (F' b g) e,b6,a7,c2,v5.append (.cons b0 .nil),(O.mono (k'.trans H') _ _ r5).append ⟨yv,[],rfl,b9,rfl⟩,by rw[Ry,Xe];omega,e5.trans (k'.trans H'),?_⟩;match e3:jY b f' fe (gW A.length m ρ) (ds.drop (i+1)),b' with|none,b'=>exact b'.elim|some zs,b'=>dsimp only at b'⊢;rw[U1];exact b'
     have a0:=b3 (a+1) P I j ⟨_,_,I2⟩;cases f' with|none=>cases(show p'=[]from a0);exact wpAny_tests_nil (by rw[if_pos rfl];exact u' I8 (.refl H8) hz)|some t=>obtain⟨c,rfl,a1⟩:=a0;match h':t e',hz with|none,hz=>simp only[h']at hz|some (.exc c),hz=>simp only[h']at hz|some (.ok U),hz=>simp only[h']at hz;refine wpAny_tests_one (QX (a1.h _ s8 a' H8 (λb H9=>b=U/\Í H8 H9) I8 ⟨_,E8,by rw[h'];exactλH9 e9=>⟨rfl,e9⟩⟩) (λb s9⟨H9,I9,g,e9⟩=>?_) λ_ _ z=>QN z);subst g;rw[if_pos rfl];exact u' I9 e9 hz|some (.ok L),hz=>simp only[h']at hz;refine wpAny_tests_one (QX (a1.h _ s8 a' H8 (λb H9=>b=L/\Í H8 H9) I8 ⟨_,E8,by rw[h'];exactλH9 e9=>⟨rfl,e9⟩⟩) (λb s9⟨H9,I9,g,e9⟩=>?_) λ_ _ z=>QN z);subst g;rw[if_neg B_];obtain⟨t9,d3,D9,l9⟩:=a2 I9;exact⟨ds.length-(i+1),by omega,i+1,a',H9,es,vs,g',hP,rfl,r',I9.pins_of λp hp=>absurd hp (by simp),z' (E8.mono e9),t9,d3,D9,l9,v5,O.mono (k'.trans e9) _ _ r5,by omega,e5.trans (k'.trans e9),hz⟩
  · have c8:i=ds.length:=by omega
    subst c8;rw[Vg]at hz;have U':es++[]=ys:=hz;rw[RB]at U';subst U';refine â (T.done (aq X (A++m.map (·.1)) scope (a+1) P I j) rfl rfl rfl hc ds.length (el [a] s5.heap) s5 o' H5 _ a6 x' t5 (wk.stop H5 e5)) λr s6⟨hr,I6⟩=>?_;subst hr;have l6:M' s6.heap a g':=by obtain⟨n,q⟩:=l5;exact⟨n,(I6.pin (a,_) (o_ _ (cZ (by simp) q))).1⟩
    obtain⟨m6,n6,_⟩:=I6.loc;have C6:H5 (a+1)=Y:=I6.free;have c1:é X.prog X.w (Ý H5 a (.lst vs)) s6.heap a (.lst vs):=by obtain⟨n,q⟩:=l6;exact⟨by rw[b2];exact cT c4,g',n,v5,q⟩
    have u6:Un (L2.frs X.stack) j I H5 P.heap s6.heap:=I6.base;have nD:∀b o,P.heap.get? b=Z o->b≠a:=λb o e=>by
     have g:b<a:=by rw[<-hD];exact v_ e
     exact Es g
    have u7:Un (L2.frs X.stack) j I (Ý H5 a (.lst vs)) P.heap s6.heap:=⟨u6.keep,u6.slot,λb o e n hx=>by rw[ay (nD b o e)];exact u6.free b o e n hx,u6.there,λb xs q=>by have q':=u6.tups b xs q;rw[ay (au q' D5)];exact q',λb o u q=>by have q':=u6.frzs b o u q;rw[ay (au q' D5)];exact q',λb ps q=>by obtain⟨b1,q'⟩:=u6.tbls b ps q;exact⟨b1,by rw[ay (au q' D5)];exact q'⟩⟩;have I7:Ì X j' σ (Ý H5 a (.lst vs)) s6:=I2.call' (s':=s6) (ch:=j) I6.os u7 (Ċ.add I6.hok D5 C6 (λb u _ q=>q) c1) I6.bare λb g=>⟨(Q b g).2.2.2.1,(Q b g).2.1,(Q b g).2.2.2.2.1,(Q b g).2.2.2.2.2⟩;exact d1 a (a+1) s6 H5 vs m6 I7 D5 e5 r5 hP n6 C6 (SM O0) (by rw[hD];exact UK a)
 exact codeAny_compStart_list (v' _ rfl) (T.self _ 0 _ _ _ (T.keep _ _ _ B' λb g o e=>D' b o e) (v' _ rfl))
theorem nH{k':u_}{scope:RS}{e':Option ã}{b:N->Ev->Option Ev}{js:List Nat}(u:List (Str×Nat))(ok:jH a.env.scope scope u a.N)(hc:a.calm=U)(q':∀i s H r,FG (aq a (z++u.map (·.1)) scope i s H r) g b)(m':∀i s H r,(∃ζ Λ,Ì a ζ Λ H s)->FE (aq a (z++u.map (·.1)) scope i s H r) P y)(l':∀i s H r,(∃ζ Λ,Ì a ζ Λ H s)->xf (aq a (z++u.map (·.1)) scope i s H r) t e')(c':∀I d d',b d (gW z.length u I)=Z d'->fgt js d'=gW z.length u I){I:Ev}{s2:g_}{it:B}{r:List B}{tn:Nat->J_->Prop}{J:It}{H2:Hp}(E:Ú a.K H2 Λ I)(I2:Ì a ζ Λ H2 s2)(T:Aa a.prog a.w a.K g J r it tn)(o':tn 0 s2.heap)(Q:∀b∈r,rL a ζ H2 b){ds ys:List N}(wk:ų a.K J ds H2)(s':ds.length<=100000)(p':ys.length<=100000)(hm:jY b e' y (gW z.length u I) ds=Z ys){RR:D->B->WN->g_->Prop}(t':∀(j i:B)(s6:g_)(H5:Hp)(vs:List V)(m6:Str->Option D),Ì a ζ Λ (Ý H5 j (.lst vs)) s6->H5 j=Y->Í H2 H5->O a.K H5 ys vs->s6.heap.Ns i m6->H5 i=Y->i≠j->s2.heap.objs.size<=i->RR (.ref j) i (.ok .next) s6):uk (x_ a.prog a.w) a.A (Yb []) (λf' h'=>uk (x_ a.prog a.w) a.A (VP scope a.env.globals (kx scope.names a.env []) [] a.env.qual Y .none (Z a.env)) (λA g'=>Ta (x_ a.prog a.w) a.A (.compStart (.ListComp P [⟨g,k',t,0⟩] scope o) 0 (.ref it) f' {A with scope:=relabel scope a.env}) (RR f' A.locals) g') a.xe h') a.xe s2:=nG u ok hc q' (λ_ _=>True) (λi s H r hI ζ s9 n' H9 I m I9 E9 _ r'=>QX ((m' i s H r hI).h ζ s9 n' H9 (λv q=>Í H9 q/\Ó a.K q m v) I9 ⟨I,E9,by rw[r'];exactλv q b' a'=>⟨b',a'⟩⟩) (λw v'⟨yv,q,u',i',b',a'⟩=>⟨yv,q,u',i',b',a',trivial⟩) λ_ _ k=>k) l' c' E I2 T o' Q wk s' p' hm (λj i s6 H5 vs m6 p b c d _ e f n h=>t' j i s6 H5 vs m6 p b c d e f n h)
theorem Bz{n:u_}{q:Option ã}{b:N->Ev->Option Ev}(c':RS)(k u:List Str)(js:List Nat)(p:List (Str×Nat))(d':a.env.scope=c')(hN:a.N=k)(ok:jH c' η p k)(m':SV η a.env=pure (kx η.names a.env []))(hc:a.calm=U)(a':∀z d b',b d (gW u.length p z)=Z b'->fgt js b'=gW u.length p z)(hi:Ő a g n ε)(k':∀f s H fp,FG (aq a (u++p.map (·.1)) η f s H fp) g b)(f':∀f s H fp,(∃A w,Ì a A w H s)->FE (aq a (u++p.map (·.1)) η f s H fp) P y)(e':∀f s H fp,(∃A w,Ì a A w H s)->xf (aq a (u++p.map (·.1)) η f s H fp) t q)(hs:∀x,QT n a.env x=pure x:=by intro _;lk):FE a (.ListComp P [⟨g,n,t,0⟩] η o) (cq u.length p ε b q y):=by subst d' hN;constructor;intro A s w H j I h;obtain⟨z,E,i⟩:=h;match ho:cq u.length p ε b q y z with
 |none=>rw[ho]at i;exact i.elim|some r=>
 rw[ho]at i;rw[eval_ListComp];have key:Ī a H (ε z) λJ H'=>∃ds ys,Í H H'/\ų a.K J ds H'/\ds.length<=100000/\ys.length<=100000/\jY b q y (gW u.length p z) ds=Z ys/\(∀v m,Í H' m->Ó a.K m (.lst ys) v->j v m):=by
  rcases Nt ho with⟨c,e1,e2⟩|⟨ds,ys,e1,e2,l1,l2,e3⟩;·subst e2;rw[e1];exact i
  ·subst e3;rw[e1];exactλJ H' e wk=>⟨ds,ys,e,wk,l1,l2,e2,λv m e2 r=>i v m (e.trans e2) r⟩
 refine Uu (use:=Y) rfl hs m' ok.kind ok.names (â (hi.h A s w H _ I ⟨z,E,key⟩) λv s1 h1=>â h1 λp' s2 h2=>?_);obtain⟨it,fp,tn,J,H2,e,I2,T,g',Q,ds,ys,n',wk,l',i',hm,hQ⟩:=h2;subst e;refine nH p ok hc k' f' e' a' (E.mono n') I2 T g' Q wk l' i' hm (RR:=λo' f=>compPost (x_ a.prog a.w) a.A a.xe Y (EP a A w j) o' f) λD f s6 H5 vs m6 I6 D5 e5 r5 n6 C6 CD hC=>?_;refine⟨m6,n6,λh7 h'=>?_⟩;have Cn:(Ý H5 D (.lst vs)) f=Y:=by rw[ay CD];exact C6
 obtain⟨q0,q1,q2,q3,q4,q5⟩:=I2.fpOk hC Cn;have I7:Ì a A w (Ý H5 D (.lst vs)) {s6 with heap:=h7}:=I6.turned (t':=s6.toks) (λb i hb e=>h'.extBut b i hb e) q0 q1 q3 q4 q5;exact⟨.ref D,_,I7,rfl,hQ _ _ (e5.trans (aD D5 _)) ⟨D,vs,rfl,aw,O.mono (aD D5 _) _ _ r5⟩⟩
theorem uB{h:u_}{q:Option ã}{b:N->Ev->Option Ev}(m:RS)(f k:List Str)(E:List Nat)(j:List (Str×Nat))(r:a.env.scope=m)(hN:a.N=f)(I:jH m η j f)(z:SV η a.env=pure (kx η.names a.env []))(hc:a.calm=U)(n:∀A d p,b d (gW k.length j A)=Z p->fgt E p=gW k.length j A)(hi:Ő a g h ε)(w:∀e s H i,FG (aq a (k++j.map (·.1)) η e s H i) g b)(v:∀e s H i,FE (aq a (k++j.map (·.1)) η e s H i) P y)(u:∀e s H i,xf (aq a (k++j.map (·.1)) η e s H i) t q)(hs:∀x,QT h a.env x=pure x:=by intro _;lk):FE a (.ListComp P [⟨g,h,t,0⟩] η o) (cq k.length j ε b q y):=Bz m f k E j r hN I z hc n hi w (λe s H i _=>v e s H i) (λe s H i _=>u e s H i) hs
theorem BA{n:u_}{a':Option ã}{j:N->Ev->Option Ev}(i:Nat)(r':a.N.Nodup)(t':a.N[i]?=Z b)(o':Ļ a.env.scope b)(u':a.fn b=U\/a.env.scope.names.lookup b=Z .local)(d':RS)(m ns:List Str)(js:List Nat)(cs:List (Str×Nat))(g':a.env.scope=d')(hN:a.N=m)(ok:jH d' η cs m)(w':SV η a.env=pure (kx η.names a.env []))(hc:a.calm=U)(b':∀ρ d c',j d (gW ns.length cs ρ)=Z c'->fgt js c'=gW ns.length cs ρ)(hi:Ő a g n ε)(p':∀f s H A,FG (aq a (ns++cs.map (·.1)) η f s H A) g j)(i':∀f s H A,FE (aq a (ns++cs.map (·.1)) η f s H A) P y)(h':∀f s H A,xf (aq a (ns++cs.map (·.1)) η f s H A) t a')(q':Q8 (.ListComp P [⟨g,n,t,0⟩] η o) (Z (.Name b w)) ω.line a.env=pure U:=by lk)(hs:∀x,QT n a.env x=pure x:=by intro _;lk):PS a (.Assign [.Name b w] (.ListComp P [⟨g,n,t,0⟩] η o) ω) (tC a i (cq ns.length cs ε j a' y)):=by subst g' hN;intro j' s σ H D0 I h;obtain⟨ρ,E,k⟩:=h;match ho:cq ns.length cs ε j a' y ρ with
 |none=>rw[ho]at k;exact k.elim|some r=>
 rw[ho]at k;have key:Ī a H (ε ρ) λJ H'=>∃ds ys,Í H H'/\ų a.K J ds H'/\ds.length<=100000/\ys.length<=100000/\jY j a' y (gW ns.length cs ρ) ds=Z ys/\(∀q p u,Í H' q->q p=Y->O a.K q ys u->D0.nx (σ.set i (Z (.ref p))) (Ý q p (.lst u))):=by
  rcases Nt ho with⟨c,e1,e2⟩|⟨ds,ys,e1,e2,l1,l2,e3⟩;·subst e2;rw[e1];exact k
  ·subst e3;rw[e1];obtain⟨D',ey,k⟩:=k;cases ey;exactλJ H' e wk=>⟨ds,ys,e,wk,l1,l2,e2,λq p u e3 hp r=>k q p u (e.trans e3) hp r⟩
 rw[W_ _ _ _ _ q'];refine e_ (We (e_ ?_));show uk _ a.A (do let _<-comprehension (.ListComp P [⟨g,n,t,0⟩] η o) η a.env _ (Yb []) L (eval n a.env) (Z (S4 (.Name b w) a.env))) _ _ s;refine e_ (QX (Uu (use:=Z (S4 (.Name b w) a.env)) (Q:=λ_ s'=>SP a j' D0 .next s') rfl hs w' ok.kind ok.names (â (hi.h j' s σ H _ I ⟨ρ,E,key⟩) λv s1 h1=>â h1 λE' s2 h2=>?_)) (λ_ s' hq=>m_ (m_ hq)) λ_ _ e=>e);obtain⟨it,A,tn,J,H2,e,I2,T,l',Q,ds,ys,y',wk,v',n',hm,hQ⟩:=h2;subst e;refine nH cs ok hc p' (λf s H A _=>i' f s H A) (λf s H A _=>h' f s H A) b' (E.mono y') I2 T l' Q wk v' n' hm (RR:=λz' f=>compPost (x_ a.prog a.w) a.A a.xe (Z (S4 (.Name b w) a.env)) (λ_ s'=>SP a j' D0 .next s') z' f) λD f s6 q u m6 I6 D5 e5 r5 n6 C6 CD hC=>?_;have Cn:(Ý q D (.lst u)) f=Y:=by rw[ay CD];exact C6
 have FC:=I2.fpOk hC Cn;obtain⟨oC,es,ep,e',f',rC⟩:=id n6;have B':=I6.pinned (fp:=[f]) (λj hb=>by
  have e:j=f:=by simpa using hb
  subst e;exact FC) (λj hb=>by
  have e:j=f:=by simpa using hb
  subst e;exact⟨oC,e',λv z=>by rw[f']at z;cases z⟩);refine â (gX r' t' o' u' _ s6 σ _ (.ref D) (.ref D) (λk' H'=>k'=σ.set i (Z (.ref D))/\H'=Ý q D (.lst u)) B' rfl ⟨rfl,rfl⟩) λ_ s8⟨C',H8,I8,e1,e2⟩=>?_;subst e1 e2;have x':=(I8.pin (f,oC) (o_ _ (o_ _ (cZ (by simp) e')))).1;refine⟨m6,⟨oC,es,ep,x',f',rC⟩,λh9 m'=>?_⟩;have A':Ì a j' (σ.set i (Z (.ref D))) (Ý q D (.lst u)) s8:=I8.unpinned;obtain⟨q0,q1,q2,q3,q4,q5⟩:=FC;have I9:Ì a j' (σ.set i (Z (.ref D))) (Ý q D (.lst u)) {s8 with heap:=h9}:=A'.turned (t':=s8.toks) (λj k hb e=>m'.extBut j k hb e) q0 q1 q3 q4 q5;exact⟨_,_,I9,hQ q D u e5 D5 r5⟩
abbrev bL:=List (Str×Nat×List Str×(Ï))
theorem fD{e a:υ}{T:List (Str×υ)}(h:((i,e)::T).lookup b=Z a):(b=i/\a=e)\/T.lookup b=Z a:=by
 rw[Q9]at h;split at h;·rename_i d;exact .inl ⟨XJ d,by cases h;rfl⟩
 ·exact .inr h
structure HA(P:n_)(w:w_)(K:d_)(mg:Str->Option D)(base:J_)(T:bL):Prop where h:∀x e,T.lookup x=Z e->Zy P w K mg base x e.1 e.2.1 e.2.2
structure î(P:n_)(w:w_)(K:d_)(mg:Str->Option D)(base:J_)(T:bL):Prop where h:∀x e,T.lookup x=Z e->JF P w K mg base x e.1 e.2.1 e.2.2
theorem Kr:HA p m u Α I []:=⟨λ_ _ h=>by cases h⟩
theorem FK:î p m u Α I []:=⟨λ_ _ h=>by cases h⟩
theorem az{T:bL}(h:Zy p m u Α I b d z ψ)(t:HA p m u Α I T):HA p m u Α I ((b,d,z,ψ)::T):=⟨λx e q=>by
 rcases fD q with⟨rfl,rfl⟩|q;·exact h
 ·exact t.h x e q⟩
theorem br{T:bL}(h:JF p m u Α I b d z ψ)(t:î p m u Α I T):î p m u Α I ((b,d,z,ψ)::T):=⟨λx e q=>by
 rcases fD q with⟨rfl,rfl⟩|q;·exact h
 ·exact t.h x e q⟩
abbrev DD:=List (Str×Option N)
noncomputable def cN(s:String):Str×Option N:=(b_ s,Y)
noncomputable def cI(s:String)(i:Int):Str×Option N:=(b_ s,Z (.int i))
noncomputable def cS(s z:String):Str×Option N:=(b_ s,Z (.str (b_ z)))
def Qa(a:Str->Option D)(x:Str):Option N->Prop|none=>a x=Y|some (.int i)=>∃t,a x=Z (.int i t)|some (.str z)=>∃t,a x=Z (.str z t)|_=>False
structure MA(mg:Str->Option D)(C:DD):Prop where h:∀x o,C.lookup x=Z o->Qa mg x o
theorem MA.no{C:DD}(h:MA Α C)(e:C.lookup b=Z Y):Α b=Y:=h.h b Y e
noncomputable def NS(K:d_)(q:Str×Option N):Bool:=match q.2,Rq K z_ q.1 with|none,Z Y=>U|some (.int i),Z (Z (.int j _))=>i==j|some (.str z),Z (Z (.str y _))=>z==y|_,_=>L
theorem Ks{K:d_}{f:Str->Option D}{h:J_}(X:K.In h)(G:h.Ns z_ f):∀(C:DD),C.all (NS K)=U->MA f C|[],_=>⟨λx o q=>by cases q⟩|(y,o)::C,e=>⟨λx g q=>by
 rw[SU,p_]at e;rcases fD q with⟨rfl,rfl⟩|q
 · have b:=e.1;unfold NS at b;dsimp only at b;split at b;·rename_i d;exact PySem.W.mg_none_of X G d
   ·rename_i i j t d;have a:i=j:=XJ b;subst a;exact⟨t,SQ X G d⟩
   ·rename_i z y t d;have a:z=y:=XJ b;subst a;exact⟨t,SQ X G d⟩
   ·cases b
 ·exact(Ks X G C e.2).h x g q⟩
theorem BB{T:bL}(u:HA a.prog a.w a.K a.mg a.base T)(k:Ø d a.A)(f:(T.lookup b).map (λq=>q.2.2)=Z ψ)(p:FA a (g::t) ε)(e:((T.lookup b).all λq=>TM q.1 d&&SO r q.2.1.length)=U:=by lk)(m:a.env.kindOf b=Z .globalImplicit:=by lk)(j:(b==("__debug__":Str))=L:=by lk)(n:k_ (g::t) a.env=(L,eval g a.env)::k_ t a.env:=by lk)(i:(O_ w (k_ t a.env)).any (·.1)=L:=by lk):FE a (.Call (.Name b o) (g::t) [] w) (ae ψ r ε):=by cases h:T.lookup b with|none=>rw[h]at f;cases f|some q=>rw[h]at f e;cases f;rw[Sa,p_]at e;exact AF q.1 q.2.1 q.2.2 (u.h b q h) k (QP e.1) m p (QM e.2) j n i
theorem yB{T:bL}(v:î a.prog a.w a.K a.mg a.base T)(m:Ø d a.A)(f:(T.lookup b).map (λq=>q.2.2)=Z ψ)(j:a.ex=[])(u:FA a (g::t) ε)(e:((T.lookup b).all λq=>TM q.1 d&&SO r q.2.1.length)=U:=by lk)(n:a.env.kindOf b=Z .globalImplicit:=by lk)(k:(b==("__debug__":Str))=L:=by lk)(p:k_ (g::t) a.env=(L,eval g a.env)::k_ t a.env:=by lk)(i:(O_ w (k_ t a.env)).any (·.1)=L:=by lk):FE a (.Call (.Name b o) (g::t) [] w) (av ψ r ε):=by cases h:T.lookup b with|none=>rw[h]at f;cases f|some q=>rw[h]at f e;cases f;rw[Sa,p_]at e;exact AX q.1 q.2.1 q.2.2 (v.h b q h) m (QP e.1) j n u (QM e.2) k p i
theorem NT{d:DD}(i:MA a.mg d)(e:d.lookup b=Z (Z (.int k)))(f:a.env.kindOf b=Z .globalImplicit:=by lk)(g:(b==("__debug__":Str))=L:=by lk):FE a (.Name b o) (fC (.int k)):=let⟨_,h⟩:=i.h b _ e;Ek f h g
theorem NU{d:DD}(j:MA a.mg d)(e:d.lookup b=Z (Z (.str i)))(f:a.env.kindOf b=Z .globalImplicit:=by lk)(g:(b==("__debug__":Str))=L:=by lk):FE a (.Name b o) (fC (.str i)):=let⟨_,h⟩:=j.h b _ e;El f h g
noncomputable def ė:List Str->Bool|[]=>U|x::r=>!(r.contains x)&&ė r
theorem iI:∀{l:List Str},ė l=U->l.Nodup|[],_=>List.nodup_nil|x::r,h=>by unfold ė at h;rw[p_]at h;refine Sb.2 ⟨λb=>?_,iI h.2⟩;have a:=h.1;rw[List.contains_iff_mem.2 b]at a;cases a
noncomputable def jA(a:RS)(x:Str):Bool:=match a.names.lookup x with|some .local=>U|some .cell=>U|_=>L
theorem eU(h:jA η b=U):Ļ η b:=by
 unfold jA at h;split at h;·exact .inl ‹_›
 ·exact .inr ‹_›
 ·cases h
noncomputable def DE(b a:RS)(d:List (Str×Nat))(N:List Str):Bool:=A_ (a.kind=.function)&&A_ (∀y∈a.names,y.2=.cell->a.names.lookup y.1=Z .cell)&&A_ (∀y∈a.names,y.2=.local->a.names.lookup y.1=Z .local)&&A_ (∀y∈a.names,y.2=.free->b.names.lookup y.1=Z .cell\/b.names.lookup y.1=Z .free)&&A_ (∀c∈d,N[c.2]?=Z c.1/\a.names.lookup c.1=Z .free)
theorem uC{a:RS}{b:List (Str×Nat)}(h:DE η a b z=U):jH η a b z:=by unfold DE at h;simp only[p_,decide_eq_true_eq]at h;exact⟨h.1.1.1.1,h.1.1.1.2,h.1.1.2,h.1.2,h.2⟩
theorem lkc{b:Env}:∀{a:List (Str×Tu)}{x:Str},a.lookup x=Z .cell->(a.map λ(n,k)=>if(k==Si&&b.scope.kind==.function&&b.kindOf n==Z .cell)then(n,Sx)else(n,k)).lookup x=Z .cell|[],_,h=>by simp at h|(n,k)::r,x,h=>by rw[Q9]at h;rw[QU];cases d:x==n with|true=>rw[d]at h;cases h;simp[Q9,d]|false=>
 rw[d]at h;have e:=lkc (b:=b) h;dsimp only;split;·rw[Q9,d];exact e
 ·rw[Q9,d];exact e
theorem Y'(d:jA η b=U):Ļ (aq a z η e f h Ã).env.scope b/\((aq a z η e f h Ã).fn b=U\/(aq a z η e f h Ã).env.scope.names.lookup b=Z .local):=by
 rcases eU d with d|d;·exact⟨.inl (Xj d),.inr (Xj d)⟩
 ·exact⟨.inr (lkc d),.inl (by show(η.names.lookup b==Z .cell)=U;rw[d];rfl)⟩
theorem fgA(d:B)(s:g_)(H:Hp)(h:List B)(e:ė z=U)(g:z[0]?=Z b)(f:jA η b=U):FG (aq a z η d s H h) (.Name b o) (gN 0):=EH 0 (iI e) g (Y' f).1 (Y' f).2
theorem NV{f:Option ã}{e:List (Str×Nat)}(r:Ő a (.Name b w) P ε)(j:∀d s H h,FE (aq a (b::e.map (·.1)) η d s H h) g y)(i:∀d s H h,xf (aq a (b::e.map (·.1)) η d s H h) t f)(k:DE a.env.scope η e a.N=U:=by lk)(n:SV η a.env=pure (kx η.names a.env []):=by lk)(u:a.calm=U:=by lk)(m:ė (b::e.map (·.1))=U:=by lk)(q:jA η b=U:=by lk)(p:∀b,QT P a.env b=pure b:=by intro _;lk):FE a (.ListComp g [⟨.Name b w,P,t,0⟩] η o) (bU e ε f y):=(Fx (f:=e) (a:=ε) (b:=f) (e:=y))▸uB a.env.scope a.N [b] [0] e rfl rfl (uC k) n u (EI _) r (λd s H h=>fgA d s H h m rfl q) j i p
theorem NW{j:Option ã}{f:List (Str×Nat)}(I:Ő a (.Name b w) P ε)(m:∀e s H h,FE (aq a (b::f.map (·.1)) η e s H h) g y)(k:∀e s H h,xf (aq a (b::f.map (·.1)) η e s H h) t j)(hN:ė a.N=U)(u:a.N[d]?=Z i)(n:jA a.env.scope i=U)(v:a.fn i=U)(q:DE a.env.scope η f a.N=U)(z:SV η a.env=pure (kx η.names a.env []))(hc:a.calm=U)(r:ė (b::f.map (·.1))=U)(E:jA η b=U)(p:Q8 (.ListComp g [⟨.Name b w,P,t,0⟩] η o) (Z (.Name i ω)) Ψ.line a.env=pure U)(A:∀b,QT P a.env b=pure b):PS a (.Assign [.Name i ω] (.ListComp g [⟨.Name b w,P,t,0⟩] η o) Ψ) (tC a d (cq 1 f ε (gN 0) j y)):=BA d (iI hN) u (eU n) (.inl v) a.env.scope a.N [b] [0] f rfl rfl (uC q) z hc (EI _) I (λe s H h=>fgA e s H h r rfl E) m k p A
theorem NX{h:Option ã}{f:List (Str×Nat)}(I:Ő a (.Name b w) P ε)(k:∀e s H m,FE (aq a (b::f.map (·.1)) η e s H m) g y)(j:∀e s H m,xf (aq a (b::f.map (·.1)) η e s H m) t h)(p:Q8 (.ListComp g [⟨.Name b w,P,t,0⟩] η o) (Z (.Name i ω)) Ψ.line a.env=pure U)(hN:ė a.N=U:=by lk)(u:a.N[d]?=Z i:=by lk)(n:jA a.env.scope i=U:=by lk)(v:a.fn i=U:=by lk)(q:DE a.env.scope η f a.N=U:=by lk)(z:SV η a.env=pure (kx η.names a.env []):=by lk)(hc:a.calm=U:=by lk)(r:ė (b::f.map (·.1))=U:=by lk)(E:jA η b=U:=by lk)(A:∀b,QT P a.env b=pure b:=by intro _;lk):FS a (.Assign [.Name i ω] (.ListComp g [⟨.Name b w,P,t,0⟩] η o) Ψ) (bI d (cq 1 f ε (gN 0) h y)):=Fy (NW I k j hN u n v q z hc r E p A) yf
theorem Qb(e:B)(s:g_)(H:Hp)(f:List B)(n:a.calm=U)(h:ė z=U)(m:z[0]?=Z b)(k:z[1]?=Z i)(j:jA η b=U)(g:jA η i=U)(t:(QY [.Name b o,.Name i w] (aq a z η e s H f).env).map (·.2)=S4 (.Name b o) (aq a z η e s H f).env::(QY [.Name i w] (aq a z η e s H f).env).map (·.2))(r:(QY [.Name i w] (aq a z η e s H f).env).map (·.2)=S4 (.Name i w) (aq a z η e s H f).env::(QY [] (aq a z η e s H f).env).map (·.2))(q:(QY [.Name b o,.Name i w] (aq a z η e s H f).env).length=2)(p:(QY [.Name b o,.Name i w] (aq a z η e s H f).env).findIdx? (·.1)=Y):FG (aq a z η e s H f) (.Tuple [.Name b o,.Name i w] d ω) (gP 0 1):=xn 0 1 n (iI h) m (Y' j).1 (Y' j).2 k (Y' g).1 (Y' g).2 t r q p
theorem NY{j:Option ã}{f:List (Str×Nat)}(A:Ő a (.Tuple [.Name b w,.Name i ω] d Ψ) P ε)(m:∀e s H h,FE (aq a (b::i::f.map (·.1)) η e s H h) g y)(k:∀e s H h,xf (aq a (b::i::f.map (·.1)) η e s H h) t j)(n:DE a.env.scope η f a.N=U:=by lk)(r:SV η a.env=pure (kx η.names a.env []):=by lk)(u:a.calm=U:=by lk)(p:ė (b::i::f.map (·.1))=U:=by lk)(z:jA η b=U:=by lk)(q:jA η i=U:=by lk)(v:∀b,QT P a.env b=pure b:=by intro _;lk):FE a (.ListComp g [⟨.Tuple [.Name b w,.Name i ω] d Ψ,P,t,0⟩] η o) (cq 2 f ε (gP 0 1) j y):=uB a.env.scope a.N [b,i] [0,1] f rfl rfl (uC n) r u (Nu _) A (λe s H h=>Qb e s H h u p rfl rfl z q rfl rfl rfl rfl) m k v
theorem uD:∀b s H d,xf (aq a z η b s H d) [] Y:=λ_ _ _ _=>rfl
theorem BC(h:∀b s H d,FT (aq a z η b s H d) g Μ):∀b s H d,xf (aq a z η b s H d) [g] (Z Μ):=λb s H d=>⟨_,rfl,h b s H d⟩
theorem Kt(f:FE a g y)(e:FE a P È)(d:∀b i,YJ P L b i=operate [b,i] (WI b i):=by intro _ _;lk):FE a (.Subscript g P o) (Q Î y È):=Nm f e d
theorem FL(j:FE a g y)(k:ė a.N=U:=by lk)(h:a.N[d]?=Z b:=by lk)(e:jA a.env.scope b=U:=by lk)(i:a.fn b=U:=by lk)(f:Q8 g (Z (.Name b w)) o.line a.env=pure L:=by lk):FS a (.Assign [.Name b w] g o) (bI d y):=IP d (iI k) h (eU e) j f (.inl i)
theorem FM(m:FE a g y)(f:a.ex=[]:=by lk)(e:SO d r=L:=by lk)(n:ė a.N=U:=by lk)(j:a.N[r]?=Z b:=by lk)(h:jA a.env.scope b=U:=by lk)(k:a.fn b=U:=by lk)(i:Q8 g (Z (.Name b w)) o.line a.env=pure L:=by lk):Ŏ a d (.Assign [.Name b w] g o) (fY r y):=JP f r (Sl e) (iI n) j (eU h) m i (.inl k)
theorem BD{e:j4}(j:FA a t ε)(h:Ō a d Ξ e)(m:ė a.N=U:=by lk)(i:a.N[d]?=Z b:=by lk)(f:jA a.env.scope b=U:=by lk)(k:a.fn b=U:=by lk)(g:Q8 (.List t ω) (Z (.Name b w)) o.line a.env=pure L:=by lk):ć a (.Assign [.Name b w] (.List t ω) o::Ξ) (xH d ε e):=Fd (iI m) i (eU f) j h g (.inl k)
theorem FN{e:List Nat}(i:UI (x_ a.prog a.w) a.A a.env a.xe)(k:FI a (.Name b w) g ε)(p:ć a Ξ Ο)(n:a.calm=U:=by lk)(q:ė a.N=U:=by lk)(f:a.N[d]?=Z b:=by lk)(j:jA a.env.scope b=U:=by lk)(m:a.fn b=U:=by lk)(h:∀b,QT g a.env b=pure b:=by intro _;lk):FS a (.For (.Name b w) g Ξ [] o) (Dc d e ε Ο):=IT d e i n k (gX (iI q) f (eU j) (.inl m)) p h
theorem FP{h:List Nat}{i:j4}(m:UI (x_ a.prog a.w) a.A a.env a.xe)(p:FI a (.Name b w) g ε)(u:Ō a d Ξ i)(f:a.ex=[]:=by lk)(e:SO d r=L:=by lk)(t:a.calm=U:=by lk)(v:ė a.N=U:=by lk)(j:a.N[r]?=Z b:=by lk)(n:jA a.env.scope b=U:=by lk)(q:a.fn b=U:=by lk)(k:∀b,QT g a.env b=pure b:=by intro _;lk):Ŏ a d (.For (.Name b w) g Ξ [] o) (xI r h ε i):=JV f r h (Sl e) m t p (gX (iI v) j (eU n) (.inl q)) u k
theorem BE{h:List Nat}(p:UI (x_ a.prog a.w) a.A a.env a.xe)(t:Ő a (.Tuple [.Name b ω,.Name i w] Β Ψ) g ε)(v:ć a Ξ Ο)(j:a.calm=U:=by lk)(y:ė a.N=U:=by lk)(m:a.N[d]?=Z b:=by lk)(q:jA a.env.scope b=U:=by lk)(u:a.fn b=U:=by lk)(k:a.N[r]?=Z i:=by lk)(e:jA a.env.scope i=U:=by lk)(f:a.fn i=U:=by lk)(H:(QY [.Name b ω,.Name i w] a.env).map (·.2)=S4 (.Name b ω) a.env::(QY [.Name i w] a.env).map (·.2):=by lk)(E:(QY [.Name i w] a.env).map (·.2)=S4 (.Name i w) a.env::(QY [] a.env).map (·.2):=by lk)(A:(QY [.Name b ω,.Name i w] a.env).length=2:=by lk)(z:(QY [.Name b ω,.Name i w] a.env).findIdx? (·.1)=Y:=by lk)(n:∀b,QT g a.env b=pure b:=by intro _;lk):FS a (.For (.Tuple [.Name b ω,.Name i w] Β Ψ) g Ξ [] o) (vx (gP d r) h ε Ο):=Fq h p j t (xn d r j (iI y) m (eU q) (.inl u) k (eU e) (.inl f) H E A z) v n
theorem BF{e:List Nat}(h:Œ a t (EM e))(k:ė a.N=U:=by lk)(i:a.N[d]?=Z b:=by lk)(f:jA a.env.scope b=U:=by lk)(j:a.fn b=U:=by lk)(g:(QY (.Name b o::t) a.env).map (·.2)=S4 (.Name b o) a.env::(QY t a.env).map (·.2):=by lk):Œ a (.Name b o::t) (EM (d::e)):=EN d (iI k) i (eU f) (.inl j) h g
theorem hZ(i:a.N[d]?=Z b)(f:jA a.env.scope b=U)(g:(b==("__debug__":Str))=L)(e:(b==("__classdict__":Str))=L):PE a (.Name b o) (mJ d):=wn i ((eU f).elim .inl λh=>.inr (.inl h)) g e
theorem FQ(p:FE a g y)(m:PE a (.Name b w) (mJ d))(k:a.ex=[]:=by lk)(h:Rx (.Name b w) "append" a.env (eval (.Name b w) a.env)=eval (.Name b w) a.env:=by lk)(i:((O_ ω (k_ [g] a.env)).all (λb=>!b.1)&&(RM ω (Rc [] a.env)).all (λb=>b.1.isSome)&&A_ ([g].length+([]:List SI).length+(if([]:List SI).isEmpty then 0 else 1)<30))=U:=by lk)(f:(Ψ.endLine==ω.line)=U:=by lk)(n:k_ [g] a.env=(L,eval g a.env)::k_ [] a.env:=by lk)(e:(O_ ω (k_ [] a.env)).any (·.1)=L:=by lk)(j:Q8 (.Call (.Attribute (.Name b w) "append" Ψ) [g] [] ω) Y o.line a.env=pure L:=by lk):Ŏ a d (.Expr (.Call (.Attribute (.Name b w) "append" Ψ) [g] [] ω) o) (Bh y):=JU k m p h i f n e j
structure Ų(X:C)(o:u_)(name:Str)(e:u_)(es:List u_)(apos cpos:Pos):Prop where
 base:Rx o name X.env (eval o X.env)=eval o X.env
 few:((O_ cpos (k_ (e::es) X.env)).all (λx=>!x.1)&&(RM cpos (Rc [] X.env)).all (λx=>x.1.isSome)&&A_ ((e::es).length+([]:List SI).length+(if([]:List SI).isEmpty then 0 else 1)<30))=U
 line:(apos.endLine==cpos.line)=U
 s:k_ (e::es) X.env=(L,eval e X.env)::k_ es X.env
 plain:(O_ cpos (k_ es X.env)).any (·.1)=L
theorem qA{f:String}{r:V->List V->Hp->VK->Prop}{d:Str->Ï}(e:Slot "str" b f)(j:typeOf (.builtin f)=pure (.type "method_descriptor"))(p:Ķ a f r)(q:∀i m k H Q,O a.K H m k->ê a H (d i m) Q->r (.str i) k H Q)(n:FE a g y)(u:FA a (P::t) ε)(h:Ų a g b P t o w):FE a (.Call (.Attribute g b o) (P::t) [] w) (fM d y ε):=EB e j p q n u h.base h.few h.line h.s h.plain
section
open PySem.W
structure CA(K:d_)(mg:Str->Option D)(cls:Nat->B)(CJ:B)(S:List Nat)(m:Nat):Prop where at_:∀c∈S,mg (ğ c)=Z (.ref (cls c))j:mg "JarError"=Z (.ref CJ)xk:∀c C,c<m->nsIn K z_ (ğ c)=Z (Z (.ref C))->excIn K C ņ "ValueError.__new__"=U/\mroIn K C (.ref CJ)=Z U
theorem CA.c{K:d_}{b:Str->Option D}{a:Nat->B}{f:B}{S:List Nat}{m c:Nat}{x:Str}(h:CA K b a f S m)(e:c∈S)(d:ğ c=x):b x=Z (.ref (a c)):=by subst d;exact h.at_ c e
noncomputable def ZK(K:d_)(x:Str)(a:B):Bool:=match nsIn K z_ x with|some (Z (.ref b))=>SO a b|_=>L
theorem DF(h:ZK u b e=U):nsIn u z_ b=Z (Z (.ref e)):=by
 unfold ZK at h;split at h;·rename_i d a;rw[a,QM h]
 ·cases h
def caB(K:d_)(S:List Nat)(a:List B)(b:B)(m:Nat):Bool:=S.all (λc=>ZK K (ğ c) (a.getD c 0))&&ZK K "JarError" b&&NJ K S a b&&(rl m).all λc=>S.contains c||(match nsIn K z_ (ğ c)with|some Y=>U|_=>L)
theorem NZ{S:List Nat}(X:u.In I)(G:I.Ns z_ Α)(a:caB u S Ã e d=U):Ė u S (λc=>Ã.getD c 0) e/\CA u Α (λc=>Ã.getD c 0) e S d:=by
 unfold caB at a;rw[p_,p_,p_]at a;obtain⟨⟨⟨n,m⟩,k⟩,j⟩:=a;have i:∀c∈S,nsIn u z_ (ğ c)=Z (Z (.ref (Ã.getD c 0))):=λc f=>DF (Q2.1 n c f);have g:=Bk i k;refine⟨g,λc f=>mg_of X G (i c f),mg_of X G (DF m),λc C f q=>?_⟩;have b:=Q2.1 j c (Rt.2 f);rw[YW]at b;rcases b with b|b
 · have h:c∈S:=by simpa using b
   rw[g.same h q];exact⟨(g.at_ c h).2.1,(g.at_ c h).2.2.2.1⟩
 ·rw[q]at b;cases b
end
noncomputable abbrev nsM(K:d_)(x:Str):Option (Option D):=Rq K z_ x
structure Af(K:d_)(x:Str)(st:Re)(f:B):Prop where
 a:nsM K x=Z (Z (.ref f))F:∃fd,ġ K x x st f fd
 k:Rr K (.ref f)=U
def Ŋ(N P:List Str)(a:RS):Bool:=A_ (a.kind=.function)&&!a.isCoroutine&&!a.isGenerator&&ė N&&A_ (N.take P.length=P)&&P.all (jA a)&&A_ (∀y∈a.names,y.2≠.free)
theorem yC{P:List Str}(h:Ŋ z P η=U):dO z P η:=by unfold Ŋ at h;simp only[p_,decide_eq_true_eq,Sn]at h;exact⟨h.1.1.1.1.1.1,h.1.1.1.1.1.2,h.1.1.1.1.2,iI h.1.1.1.2,h.1.1.2,λx a=>eU (Q2.1 h.1.2 x a),h.2⟩
def Ku(x:Str)(b:Re)(f:List Str):Prop:=∀(kV d g:D)(i:Option B)(e h:D)(a:List D),a.length=f.length->VR (Sv x x (hU b) (bB b) (ah b) .none kV d g i e h) ⟨a,[]⟩=pure (f.zip a)
theorem aO(q:u.In É)(r:É.Ns z_ Α)(N g:List Str)(h:Ö)(A:Af u b τ e)(i:Ku b τ g)(n:∀(f:D)(A:xy)(a:List Env)(s:g_)(H:Hp)(E:XK),Ø d (A.deeper (Sq b (ah τ) s.heap.objs.size e f))->ć (kq ċ p m u Α I N b (ah τ) e f A a s H E).nox (bB τ) h)(o:ψ=bt N.length h:=by lk)(k:Ŋ N g (ah τ)=U:=by lk):Zy p m u Α I b (d+1) g ψ:=let⟨_,j⟩:=A.F;⟨_,_,IU N g h o rfl j (yC k) n,SQ q r A.a,A.k,j.binds i⟩
theorem bM(q:u.In É)(r:É.Ns z_ Α)(N g:List Str)(h:Ö)(A:Af u b τ e)(i:Ku b τ g)(n:∀(f:D)(A:xy)(a:List Env)(s:g_)(H:Hp)(E:XK),Ø d (A.deeper (Sq b (ah τ) s.heap.objs.size e f))->ć (kq (ĥ p m) p m u Α I N b (ah τ) e f A a s H E) (bB τ) h)(o:ψ=dL N.length h:=by lk)(k:Ŋ N g (ah τ)=U:=by lk):JF p m u Α I b (d+1) g ψ:=let⟨_,j⟩:=A.F;⟨_,_,Do N g h o rfl j (yC k) n,SQ q r A.a,A.k,j.binds i⟩
theorem FR(h:Ø d a.A):ñ d (rX a ζ e).A:=⟨h.dp,h.un⟩
def bdL(x:Str)(a:Re)(n:Nat)(f b e:D)(i:Option B)(d h:D)(g:Nat->D):Sem (List (Str×D)):=VR (Sv x x (hU a) (bB a) (ah a) .none f b e i d h) ⟨(rl n).map g,[]⟩
noncomputable def bdR(a:List Str)(n:Nat)(_ _ _:D)(_:Option B)(_ _:D)(g:Nat->D):Sem (List (Str×D)):=pure (a.zip ((rl n).map g))
theorem FU(a:List D):a=(rl a.length).map λi=>a.getD i .none:=by refine WE (by simp) λi b d=>?_;simp[b]
theorem aJ(h:bdL b τ z.length=bdR z z.length):Ku b τ z:=λkV a f k d j e g=>by have q:=congrFun (congrFun (congrFun (congrFun (congrFun (congrFun (congrFun h kV) a) f) k) d) j) λi=>e.getD i .none;unfold bdL bdR at q;rw[<-g,<-FU e]at q;exact q
end FD
namespace TS
open L2 FD
def Qc(p q:D)(e l:Bool):Prop:=∀(a:n_)(w:w_)(A:xy)(E:D->g_->Prop)(s:g_),(∀Q:Bool->g_->Prop,Q e s->uk (x_ a w) A (eqBool p q) Q E s)/\(∀Q:D->g_->Prop,Q (.bool l) s->uk (x_ a w) A (richCompare .Gt p q) Q E s)
end TS
namespace FD
open L2 TS
noncomputable def ix(k:Int):List Int->Nat|[]=>0|m::r=>if m=k then 0 else ix k r+1
noncomputable def er(k:Int):List Int->List Int|[]=>[]|m::r=>if m=k then r else m::er k r
structure S2(X:C)(i k:Nat)(a b:B)(H:Hp)(σ:L2.St)(Hf:Hp)(ρ:Ev):Prop where
 off:∀c,c≠a->c≠b->Hf c=H c
 na:H a=Y
 nb:H b=Y
 ne:a≠b
 ia:σ[i]?=Z (Z (.ref a))kb:σ[k]?=Z (Z (.ref b))len:σ.length=ρ.length
 low:∀j d,j≠i->j≠k->ρ[j]?=Z (Z d)->∃v,σ[j]?=Z (Z v)/\Ó X.K H d v
 fst:∃ds xs,ρ[i]?=Z (Z (.lst ds))/\Hf a=Z (.lst xs)/\O X.K H ds xs
 snd:∃es ys,ρ[k]?=Z (Z (.lst es))/\Hf b=Z (.lst ys)/\O X.K H es ys
theorem S2.up(S:S2 a d r e v h Λ Ζ H):Í h Ζ:=λc u q=>by rw[S.off c (au q S.na) (au q S.nb)];exact q
theorem S2.grow(S:S2 a d r e v h Λ Ζ H){m:Hp}(b:Í Ζ m):∃n,Í h n/\S2 a d r e v n Λ m H:=by
 obtain⟨ds,p,f1,Q,I⟩:=S.fst;obtain⟨P,o,E,A,z⟩:=S.snd;have up:Í h (λc=>if c=e\/c=v then Y else m c):=λc u q=>by have k:=au q S.na;have i:=au q S.nb;simp only[k,i,or_self,if_false];exact b c u (by rw[S.off c k i];exact q)
 refine⟨_,up,⟨λc k i=>by simp[k,i],by simp,by simp,S.ne,S.ia,S.kb,S.len,λj g k i y=>?_,⟨ds,p,f1,b _ _ Q,O.mono up _ _ I⟩,⟨P,o,E,b _ _ A,O.mono up _ _ z⟩⟩⟩;obtain⟨f,w,t⟩:=S.low j g k i y;exact⟨f,w,Ó.mono up _ _ t⟩
theorem S2.put(S:S2 a d r e v h Λ Ζ H){j:Nat}{f:N}{b:V}(p:j≠d)(o:j≠r)(g:Ó a.K h f b):S2 a d r e v h (Λ.set j (Z b)) Ζ (H.set j (Z f)):=by
 obtain⟨P,t,f1,Q,E⟩:=S.fst;obtain⟨I,q,A,z,y⟩:=S.snd;refine⟨S.off,S.na,S.nb,S.ne,by rw[I_ p];exact S.ia,by rw[I_ o];exact S.kb,by rw[Q5,Q5];exact S.len,λm d' w u i=>?_,⟨P,t,by rw[I_ p];exact f1,Q,E⟩,⟨I,q,by rw[I_ o];exact A,z,y⟩⟩;by_cases k:j=m
 · subst k;by_cases n:j<H.length;·rw[QH n]at i;cases i;exact⟨b,by rw[QH (by rw[S.len];exact n)],g⟩
   ·rw[RW (by rw[Q5];omega)]at i;cases i
 ·rw[I_ k]at i;rw[I_ k];exact S.low m d' w u i
abbrev FnP:=Ev->Option Ev
def ŭ(X:C)(i k:Nat)(a b:B)(H:Hp)(o:Option Ev)(N:L2.St->Hp->Prop):Prop:=∃e,o=Z e/\∀d g f,Í H g->S2 X i k a b g d f e->N d f
noncomputable def tP(X:C)(i k:Nat)(f:FnP):TS:=λD e g=>∃H a b d,S2 X i k a b H e g d/\ŭ X i k a b H (f d) D.nx
theorem ŭ.mono{o:Option Ev}{N:L2.St->Hp->Prop}(f:Í h Ζ):ŭ a d r e v h o N->ŭ a d r e v Ζ o N|⟨i,b,q⟩=>⟨i,b,λg m j k=>q g m j (f.trans k)⟩
structure WkV(K:d_)(J:It)(ds:List N)(H0:Hp):Prop where
 go:∀i H,Í H0 H->i<ds.length->J.go i H
 stop:∀H,Í H0 H->J.stop ds.length H
 yld:∀i H x H',Í H0 H->i<ds.length->J.yld i H x H'->H'=H/\∃d,ds[i]?=Z d/\Ó K H0 d x
def Ņ(X:C)(H:Hp)(o:Option (Rs (List N)))(R:It->Hp->Prop):Prop:=match o with|none=>False|some (.exc c)=>XW X c H|some (.ok b)=>∀J a,Í H a->WkV X.K J b a->R J a
structure FIV(X:C)(tg iter:u_)(f:Û):Prop where h:PI X tg iter λσ H R=>∃ρ,Ú X.K H σ ρ/\Ņ X H (f ρ) R
noncomputable def yD:N->Option (Rs (List N))|.lst a=>Z (.ok a)|_=>Y
def BG(f:Ò):Û:=λa=>Ù (f a) yD
theorem BH(a:h e=Z (.lst μ))(r:O u h q μ):WkV u (ŧ u e) q h where go:=(rS a r).go;stop:=(rS a r).stop;yld:=λi n x m b k y=>by obtain⟨j,y⟩:=y;obtain⟨d,g,f⟩:=O.get r (y μ (ô.of (b _ _ a)));exact⟨j,d,g,f⟩
theorem Ņ.mono{R:It->Hp->Prop}(e:Í h Ζ):∀{o:Option (Rs (List N))},Ņ a h o R->Ņ a Ζ o R|none,b=>b|some (.exc _),b=>XW.mono b e|some (.ok _),b=>λv f d r=>b v f (e.trans d) r
theorem FV(z:FE a P y):FIV a g P (BG y):=by
 constructor;intro w s t H R I h;obtain⟨m,E,o⟩:=h;have key:ê a H (y m) λx i=>∃d,Ó a.K i d x/\Ņ a i (yD d) R:=by unfold BG at o;match hf:y m,o with|some (.exc c),o=>exact o|some (.ok d),o=>exactλv i e r=>⟨d,r,Ņ.mono e o⟩|none,o=>exact o
 refine â (z.h w s t H _ I ⟨m,E,key⟩) λv j⟨x,i,k,u,d,rd,q⟩=>?_;cases d with
 |lst ds=>
 obtain⟨f,xs,rfl,n,h2⟩:=rd.lstE;cases u;obtain⟨a',rv,p,hz⟩:=k.list (ô.of n);refine SD p.isList ?_;refine⟨j.heap.objs.size,[j.heap.objs.size],_,ŧ a.K f,i,rfl,k.kept (t':=j.toks) λb o e=>j_ _ e,lD f _,⟨_,pi _ rfl,rfl,rfl⟩,λb A=>?_,q _ i (.refl i) (BH n h2)⟩;have e:b=j.heap.objs.size:=by simpa using A
 subst e;exact k.fpOk (s_ _) (k.hok.fresh (s_ _))|_=>exact(show False from q).elim
end FD
namespace TS
open FD
theorem N0{o:List D}{ks:List Int}{P:YB->g_->Prop}(q:f.heap.get? v=Z (RG "list" ξ.toArray r))(ha:f.heap.get? e=Z (RG "list" #[] d))(e':v≠e)(I:ξ.length=o.length)(c':o.length<64)(O:Od Θ)(H:2<=o.length->WV ξ ks)(hB:∀i j x y,ks[i]?=Z x->ks[j]?=Z y->Θ i j=A_ (x<y))(h:∀(b:Nat->Nat)(b':Array D)(tk:Nat),b'.size=o.length->(∀k,k<o.length->b'[k]?=o[b k]?)->(rl o.length).map b=isortB (λi j=>!Θ j i) (rl o.length)->(∀k,k<o.length->b k<o.length)->P (.done (.ret .none)) {f with heap:=(f.heap.update v (Q3 λ_=>#[])).update e (Q3 λ_=>b'),toks:=tk}):uk (x_ p m) E (ksk_end e L o.toArray d (.ref v) ξ.toArray) P ο f:=by
 unfold ksk_end;simp only[M_,if_false];have hz:ξ.toArray.size<=sizeLine:=line64 (by simp;omega);have A:(ξ.toArray.zip o.toArray).size=o.length:=by simp[I]
 have a':∀k,k<o.length->(ξ.toArray.zip o.toArray)[k]?=Z (ξ.getD k .none,o.getD k .none):=λk q=>by
  have:k<ξ.length:=by omega
  have g':k<(ξ.zip o).length:=by simp;omega
  have a:(ξ.zip o)[k]?=Z (ξ[k],o[k]):=by rw[C_ g',List.getElem_zip]
  simp[q,this,UN,a]
 have d':o.toArray.size=o.length:=by simp
 by_cases h2:o.toArray.size<2
 ·rw[if_pos h2,if_pos h2];refine e_ (m_ ?_);rw[YQ];refine e_ (m_ ?_);dsimp only;refine DC (b:=SortSt.mk' general' (ξ.toArray.zip o.toArray) #[] 7 Y) q ha e' hz (line64 (by rw[A];exact c')) rfl ?_;have:=h id ((ξ.toArray.zip o.toArray).map (·.2)) f.toks (by rw[U7,A]) (λk q=>by rw[X9,a' k q];simp[q,UN]) (qw O (λk q=>q) (λ_ _ _ _ a=>a) (λx y j' hy=>by rw[d']at h2;omega)) (λk q=>q);exact this
 · rw[if_neg h2,if_neg h2];rw[d']at h2;have H:=H (by omega);have i':keyKind' ξ.toArray=pure oneType':=by match ξ,H,I with|[],_,hl=>simp at hl;omega|[g],_,hl=>simp at hl;omega|v1::v2::n,H,_=>exact keyKind_ints H
   rw[i'];refine e_ (m_ ?_);refine e_ (QX (Ko (Ë:=JT f f.heap) (ο:=ο) (Q:=λ_ w=>∃p',NR (ξ.toArray.zip o.toArray) Θ p' (Vs w)/\Yn w=Y) (Τ:=id) O (λi j x y s1 E' ex ey J1=>?_) (v:=SortSt.mk' oneType' (ξ.toArray.zip o.toArray) #[] 7 Y) ⟨rfl,λ_ _=>rfl,λ_ h=>h,λ_ _ _ _ a=>a,rfl,rfl,rfl⟩ (λ_ _=>rfl) (by rw[A];omega) (by rw[A];exact c') (λp' w a1 a2=>⟨p',a1,a2⟩) f ⟨f.toks,s_ _,rfl⟩) ?_ λ_ _ a=>a)
   · have f':∀(k:Nat)(z:Vt),(ξ.toArray.zip o.toArray)[k]?=Z z->ξ[k]?=Z z.1:=λk z hz=>by
      have q:k<o.length:=by have:=(RO.mp hz).1;rwa[A]at this
      rw[a' k q]at hz;cases hz;have:k<ξ.length:=by omega
      simp[this,UN]
     have gi:=f' i x ex;have gj:=f' j y ey;have li:i<ks.length:=by have:=(D_.mp gi).1;have:=H.length;omega
     have lj:j<ks.length:=by have:=(D_.mp gj).1;have:=H.length;omega
     obtain⟨t,ht⟩:=H.get i ks[i] (C_ li);obtain⟨u,hu⟩:=H.get j ks[j] (C_ lj);rw[ht]at gi;rw[hu]at gj;have d:=Q4 gi;have e2:=Q4 gj;rw[keyLt'_oneType,<-d,<-e2];exact oneLt_int ⟨J1,(hB i j _ _ (C_ li) (C_ lj)).symm⟩
   ·rintro⟨⟨⟩,w⟩s'⟨⟨tk,_,rfl⟩,p',F,h'⟩;dsimp only;have Fl:=F.lt;have Fi:=F.inj;have Fs:=F.so;rw[A]at Fl Fi Fs;refine DC (f:={f with heap:=f.heap,toks:=tk}) q ha e' hz (by rw[F.sz,A];exact line64 c') h' ?_;refine h p' ((Vs w).map (·.2)) tk (by rw[U7,F.sz,A]) (λk q=>?_) (qw O Fl Fi Fs) Fl;rw[X9,F.at' k (by rw[A];exact q),a' _ (Fl k q)];simp[Fl k q,UN]
end TS
namespace FD
open L2 TS
noncomputable def iJ(F:Ï):List N->Option (List Int)|[]=>Z []|d::r=>match F [d],iJ F r with|some (.ok (.int k)),Z a=>Z (k::a)|_,_=>Y
noncomputable def iK(d:List Int)(e:List N):List N:=(isortB (λa b=>!A_ (b.1<a.1)) (d.zip e)).map Prod.snd
def vD(F:Ï):Ï
 |[.lst a]=>match iJ F a with|some b=>if b.length<64/\æ a=U then Z (.ok (.lst (iK b a)))else Y|none=>Y
 |_=>Y
theorem kH{F:Ï}:∀{b:List N}{a:List Int},iJ F b=Z a->a.length=b.length/\∀(i:Nat)(d:N),b[i]?=Z d->∃k,a[i]?=Z k/\F [d]=Z (.ok (.int k))
 |[],a,h=>by cases h;exact⟨rfl,λi d e=>by simp at e⟩|d::b,a,h=>by
  unfold iJ at h;split at h;·rename_i k o g f;cases h;obtain⟨m,j⟩:=kH f;refine⟨by simp[m],λi n e=>?_⟩;cases i with|zero=>simp at e;subst e;exact⟨k,rfl,g⟩|succ i=>exact j i n (by simpa using e)
  ·cases h
noncomputable def Ac(a:List Int)(i j:Nat):Bool:=A_ (a.getD i 0<a.getD j 0)
theorem FX(d:List Int):Od (Ac d)where
 ir:=λa=>by simp[Ac]
 tr:=λa b c h e=>by simp only[Ac,decide_eq_true_eq]at*;omega
 nt:=λa b c h=>by simp only[Ac,decide_eq_true_eq]at*;omega
theorem vE{a:List Int}(f:a.length=q.length):(isortB (λi j=>!Ac a j i) (rl q.length)).map (λi=>q.getD i .non)=iK a q:=by
 have e:(rl q.length).map (λi=>(a.getD i 0,q.getD i .non))=a.zip q:=by
  apply WE;·simp[f]
  · intro i d g;simp only[QL,Ua]at d;have b:i<a.length:=by omega
    simp[UN,d,b]
 unfold iK;rw[<-e,<-oJ (i:=λi j=>!Ac a j i) (λi=>(a.getD i 0,q.getD i .non)) _ λx _ y _=>rfl,Tg];rfl
structure HE(X:C)(A':xy)(f:B)(pn:List (B×Obj))(H0:Hp)(F:Ï):Prop where run:∀(j':List (B×Obj))(σ:L2.St)(H:Hp)(s:g_)(v:V)(u:D)(d d':N)(E:D->g_->Prop),(∀p∈pn,p∈j')->Í H0 H->Ì X j' σ H s->Ü v u->Ó X.K H d v->F [d]=Z (.ok d')->uk (x_ X.prog X.w) A' (call (.ref f) [u]) (EP X j' σ λv' H'=>Í H H'/\Ó X.K H' d' v') E s
theorem nI:∀l:List Int,æ (l.map N.int)=U|[]=>rfl|i::l=>by show(ĝ (.int i)&&æ (l.map N.int))=U;rw[nI l];rfl
theorem lX:∀l:List Int,jz (l.map N.int)=Z l|[]=>rfl|i::l=>by show(jz (l.map N.int)).map (i::·)=_;rw[lX l];rfl
theorem Kv{pn:List (B×Obj)}{kd:List N}{ks:List Int}{P:YB->g_->Prop}(R:HE a E e pn Ζ ψ)(C':∀p∈pn,p∈ζ)(hS:∀b u,b≠Ι->Ζ b=Z u->h b=Z u)(r':Ζ Ι=Y)(I:Ì a (ζ++[(v,RG "list" #[] d)]) Λ h f)(hk:h Ι=Z (.lst []))(i':Ι≠v)(rv:Ð μ ξ)(m':O a.K h q μ)(im:æ q=U)(x':∀(i:Nat)(m:N),q[i]?=Z m->∃k,kd[i]?=Z k/\ψ [m]=Z (.ok k))(O':kd.length=q.length)(T':q.length<64)(n':æ kd=U)(hI:2<=q.length->kd=ks.map N.int)(N':∀w,w v=Y->rL a ζ w v)(r:∀(s':g_)(w:Hp)(p:Nat->Nat)(A:Array D)(c:Nat),Ì a ζ Λ w s'->w v=Y->(∀b u,b≠Ι->h b=Z u->w b=Z u)->s'.heap.get? v=Z (RG "list" A c)->A.size=ξ.length->(∀k,k<ξ.length->A[k]?=ξ[p k]?)->(rl ξ.length).map p=isortB (λi j=>!Ac ks j i) (rl ξ.length)->(∀k,k<ξ.length->p k<ξ.length)->P (.done (.ret .none)) s'):uk (x_ a.prog a.w) E (ksk_rest v (.ref e) L ξ.toArray d (.ref Ι)) P ο f:=by
 have U':q.length=ξ.length:=by have g1:=fZ m';have g2:=rv.length;omega
 have J':ξ.length<64:=by omega
 unfold ksk_rest;refine e_ (TC ?_);first|rw[List.forIn_toArray]|(rw[<-UF];simp only[VE])|rw[<-UF]
 refine e_ (ksk_fold (λi s'=>∃w H,Ì a (ζ++[(v,RG "list" #[] d)]) Λ w s'/\w Ι=Z (.lst H)/\(∀b u,b≠Ι->h b=Z u->w b=Z u)/\O a.K w (kd.take i) H) ξ 0 f ⟨h,[],I,hk,λ_ _ _ t=>t,rfl⟩ ?step ?done);case step=>
  rintro j x s' hx⟨w,H,I',d',sm,rz⟩;simp only[Uq]at rz⊢;have hj:j<ξ.length:=(D_.mp hx).1;have l':q[j]?=Z (q[j]'(by omega)):=C_ (by omega);obtain⟨es,er,eF⟩:=x' j _ l';have p':μ[j]?=Z (μ[j]'(by have:=rv.length;omega)):=C_ (by have:=rv.length;omega);have a0:j<μ.length:=by have:=rv.length;omega
  have Q':j<q.length:=by omega
  obtain⟨u,eu,ru⟩:=rv.get p';rw[hx]at eu;cases eu;have t':∀b ys,h b=Z (.tup ys)->w b=Z (.tup ys):=λb ys g=>sm b _ (λz=>by rw[z,hk]at g;cases g) g;have rd:Ó a.K w q[j] μ[j]:=Ó.tups t' _ _ (lh im l') (sj m' j _ _ l' p');have F':Í Ζ w:=λb u g=>sm b u (λz=>by rw[z,r']at g;cases g) (hS b u (λz=>by rw[z,r']at g;cases g) g);refine e_ (Ti (QX (R.run _ _ _ _ _ _ _ _ (λ_ _=>False) (λp hp=>G_ _ (C' p hp)) F' I' ru rd eF) (λu' s2 he=>?_) λ_ _ z=>z.elim));obtain⟨v',H2,I2,y',f',z'⟩:=he;dsimp only;have k':H2 Ι=Z (.lst H):=f' _ _ d';obtain⟨z,b',n,a',D',ek⟩:=I2.lstM k';have B':H.length<=62:=by have:=fZ rz;simp at this;omega
  have q':b'.length<=62:=by have:=a'.length;omega
  refine e_ (Vl ek rfl ?_ (by simp;exact line64 (by omega)) (by simp;omega));have e':∀b ys,H2 b=Z (.tup ys)->(Ý H2 Ι (.lst (H++[v']))) b=Z (.tup ys):=λb ys g=>by rw[ay (λz=>by rw[z,k']at g;cases g)];exact g
  obtain⟨n2,c'⟩:∃n2,(s2.heap.update Ι (Q3 (·.push u'))).get? Ι=Z (RG "list" (b'.toArray.push u') n2):=⟨_,Uz (c:="list") ek (·.push u')⟩;refine m_ ⟨rfl,Ý H2 Ι (.lst (H++[v'])),H++[v'],?_,aw,λb u hb g=>?_,?_⟩
  · refine I2.write (t':=s2.toks) (x:=Ι) (e:=Ι) (o:=.lst (H++[v'])) (by rw[k'];trivial) (.inl rfl) (λb u hb g=>?_) ⟨_,c'⟩ ?_;·rw[So _ _ _ _ hb];exact g
    ·refine⟨by simp;exact line64 (by omega),b'++[u'],n2,a'.append (.cons y' .nil),?_⟩;simpa[RG]using c'
  ·rw[ay hb];exact f' _ _ (sm b u hb g)
  · have w':kd.take (j+1)=kd.take j++[es]:=by rw[List.take_add_one,er];rfl
    rw[w'];have g1:O a.K (Ý H2 Ι (.lst (H++[v']))) (kd.take j) H:=O.tups e' _ _ (qz j n') (O.mono f' _ _ rz);exact g1.append ⟨v',[],rfl,Ó.tups e' _ _ (lh n' er) z',rfl⟩
 case done=>
  rintro s'⟨w,H,I',d',sm,rz⟩;have g':O a.K w kd H:=by rw[U0 (by omega)]at rz;exact rz
  obtain⟨z,b',n,a',D',ek⟩:=I'.lstM d';have B':H.length=ξ.length:=by have:=fZ g';omega
  have q':b'.length=ξ.length:=by have:=a'.length;omega
  refine e_ (WU ek rfl ?_);have h':=I'.pin (v,RG "list" #[] d) (by simp);refine N0 (Θ:=Ac ks) (r:=n) ek h'.1 i' q' J' (FX ks) (λh2=>by rw[hI (by omega)]at g';exact oF (lX ks) g' a') (λi j x y ex ey=>?_) λp A tk o1 o2 o3 o4=>?_;·simp[Ac,UN,ex,ey]
  · obtain⟨n2,c'⟩:∃n2,(s'.heap.update Ι (Q3 λ_=>#[])).get? Ι=Z (RG "list" #[] n2):=⟨_,Uz (c:="list") ek (λ_=>(#[]:Array D))⟩;have W:=I'.write (t':=tk) (h':=s'.heap.update Ι (Q3 λ_=>#[])) (x:=Ι) (e:=Ι) (o:=.lst []) (by rw[d'];trivial) (.inl rfl) (λb u hb g=>by rw[So _ _ _ _ hb];exact g) ⟨_,c'⟩ ⟨QZ _,[],n2,.nil,by simpa[RG]using c'⟩;have W2:=W.unpinned;have o':Ý w Ι (.lst []) v=Y:=by rw[ay i'.symm];exact h'.2.1
    have E':(s'.heap.update Ι (Q3 λ_=>#[])).get? v=Z (RG "list" #[] d):=by rw[So _ _ _ _ i'.symm];exact h'.1
    obtain⟨g0,g1,g2,g3⟩:=N' _ o';have T:=W2.turned (t':=tk) (h':=(s'.heap.update Ι (Q3 λ_=>#[])).update v (Q3 λ_=>A)) (it:=v) (λb o hb g=>by rw[So _ _ _ _ hb];exact g) g0 g1 g3.1 g3.2.1 g3.2.2;exact r _ _ p A _ T o' (λb u hb g=>by rw[ay hb];exact sm b u hb g) (Uz E' λ_=>A) o1 o2 o3 o4
theorem Kw{pn:List (B×Obj)}{kd:List N}{ks:List Int}{P:YB->g_->Prop}(R:HE a E e pn Ζ ψ)(l':∀p∈pn,p∈ζ)(hS:Í Ζ h)(I:Ì a ζ Λ h f)(ho:f.heap.get? v=Z (RG "list" ξ.toArray d))(e':h v=Y)(H:∀y,y v=Y->rL a ζ y v)(rv:Ð μ ξ)(a':O a.K h q μ)(im:æ q=U)(h':∀(i:Nat)(m:N),q[i]?=Z m->∃k,kd[i]?=Z k/\ψ [m]=Z (.ok k))(g':kd.length=q.length)(m':q.length<64)(k':æ kd=U)(hI:2<=q.length->kd=ks.map N.int)(n:∀(s':g_)(y:Hp)(p:Nat->Nat)(w:Array D)(c:Nat),Ì a ζ Λ y s'->y v=Y->Í h y->s'.heap.get? v=Z (RG "list" w c)->w.size=ξ.length->(∀k,k<ξ.length->w[k]?=ξ[p k]?)->(rl ξ.length).map p=isortB (λi j=>!Ac ks j i) (rl ξ.length)->(∀k,k<ξ.length->p k<ξ.length)->P (.done (.ret .none)) s'):uk (x_ a.prog a.w) E (ksk_tree v (.ref e) L) P ο f:=by
 have f':ξ.length<64:=by have g1:=fZ a';have g2:=rv.length;omega
 have ha:v<f.heap.objs.size:=v_ ho;obtain⟨g0,g1,g2,g3⟩:=H _ e';unfold ksk_tree;refine e_ (WU ho rfl ?_);refine e_ (Vl ho rfl ?_ (line64 (by simpa using f')));obtain⟨e1,c'⟩:∃e1,(f.heap.update v (Q3 λ_=>(#[]:Array D))).get? v=Z (RG "list" #[] e1):=⟨_,Uz ho λ_=>#[]⟩;have I1:=I.turned (t':=f.toks) (h':=f.heap.update v (Q3 λ_=>(#[]:Array D))) (it:=v) (λb o A g=>by rw[So _ _ _ _ A];exact g) g0 g1 g3.1 g3.2.1 g3.2.2;refine e_ (seqEpoch_at c' rfl ?_);refine e_ (wpAny_newTuple ?_ (line64 (by simpa using f')));refine e_ (Wf ?_);refine Rv ?_;have I2:=I1.kept (t':=f.toks) (h':=(f.heap.update v (Q3 λ_=>(#[]:Array D))).push (RG "tuple" ξ.toArray 0)) λb u g=>j_ _ g;have i':((f.heap.update v (Q3 λ_=>(#[]:Array D))).push (RG "tuple" ξ.toArray 0)).objs.size=f.heap.objs.size+1:=by rw[size_push',YA]
 have fr:h ((f.heap.update v (Q3 λ_=>(#[]:Array D))).push (RG "tuple" ξ.toArray 0)).objs.size=Y:=I2.hok.fresh (s_ _);have I3:=I2.laid (t':=f.toks) (h':=((f.heap.update v (Q3 λ_=>(#[]:Array D))).push (RG "tuple" ξ.toArray 0)).push (RG "list" #[] 0)) (o:=.lst []) (λb u g=>j_ _ g) (s_ _) ⟨QZ _,[],0,.nil,pi _ rfl⟩;have b':(((f.heap.update v (Q3 λ_=>(#[]:Array D))).push (RG "tuple" ξ.toArray 0)).push (RG "list" #[] 0)).get? v=Z (RG "list" #[] e1):=j_ _ (j_ _ c');have d':((f.heap.update v (Q3 λ_=>(#[]:Array D))).push (RG "tuple" ξ.toArray 0)).objs.size≠v:=by rw[i'];exact Td (Rm ha)
 have I4:=I3.pinned (fp:=[v]) (λb A=>by
 have:b=v:=by simpa using A
 subst this;exact H _ (by rw[ay d'.symm];exact e')) (λb A=>by
 have:b=v:=by simpa using A
 subst this;exact⟨_,b',λt z=>by cases z⟩);rw[sk b']at I4;refine Kv R l' (λb u A g=>by rw[ay A];exact hS b u g) (hS.free fr) I4 aw d' rv (O.mono (aD fr _) _ _ a') im h' g' m' k' hI H λs' y p w c J ja sm r o1 o2 o3 o4=>n s' y p w c J ja (λb u g=>sm b u (λz=>?_) ?_) r o1 o2 o3 o4;·rw[z,fr]at g;cases g
 ·rw[ay (λz=>by rw[z,fr]at g;cases g)];exact g
theorem oK{pn:List (B×Obj)}{kd:List N}{ks:List Int}(R:HE a a.A.in1.in1 e pn Ζ ψ)(m':∀p∈pn,p∈ζ)(hS:Í Ζ h)(I:Ì a ζ Λ h f)(k':∀Q':List D->g_->Prop,(∀h' tk,(∀b o,f.heap.get? b=Z o->h'.get? b=Z o)->f.heap.objs.size<=h'.objs.size->Q' ξ {f with heap:=h',toks:=tk})->uk (x_ a.prog a.w) a.A.in1 (XF (.ref v)) Q' ο f)(rv:Ð μ ξ)(A:O a.K h q μ)(i':∀(i:Nat)(d:N),q[i]?=Z d->∃k,kd[i]?=Z k/\ψ [d]=Z (.ok k))(p':kd.length=q.length)(g':ks.length=q.length)(n':q.length<64)(l':æ kd=U)(hI:2<=q.length->kd=ks.map N.int)(im:æ q=U)(n:∀(m:B)(a':List V)(t:Hp),Í h t->t m=Z (.lst a')->O a.K t (iK ks q) a'->Ê (.ref m) t):uk (x_ a.prog a.w) a.A (call (.builtin "sorted") [.ref v] [(b_ "key",.ref e)]) (EP a ζ Λ Ê) ο f:=by
 have t':q.length=μ.length:=fZ A;have c':μ.length=ξ.length:=rv.length;have r':ξ.length<64:=by omega
 refine call_function_entry_kw kind_sorted plain_sorted entry_sorted (ksk_s1 _ _) ?_;unfold Sh.«sorted»;refine e_ (m:=checkCount "sorted" 1 1 _) (m_ ?_);refine e_ (k' _ λr b' up gr=>?_);refine e_ (Wf ?_ (line64 r'));have I1:=I.kept (t':=b') (h':=r.push (RG "list" ξ.toArray 0)) λb u z=>j_ _ (up b u z);have f':(r.push (RG "list" ξ.toArray 0)).get? r.objs.size=Z (RG "list" ξ.toArray 0):=pi _ rfl;have q':h r.objs.size=Y:=I.hok.fresh (gr);have H:∀t,t r.objs.size=Y->rL a ζ t r.objs.size:=λt hn=>I.fpOk (gr) hn;refine e_ (Rv (wpAny_call_entry_kw slot_list_sort ⟨_,f',rfl⟩ entry_list_sort ?body (ksk_l1 _ _)));case body=>
 show uk (x_ a.prog a.w) a.A.in1.in1 (Sh.«list.sort» ⟨[.ref r.objs.size],[(b_ "key",.ref e)]⟩) _ _ _;rw[ksk_t1];refine Kw (f:={f with heap:=r.push (RG "list" ξ.toArray 0),toks:=b'}) R m' hS I1 f' q' H rv A im i' p' n' l' hI λs' t p w cc J ja sm j o1 o2 o3 o4=>⟨_,rfl,?_⟩;refine m_ ⟨_,rfl,?_⟩;obtain⟨g0,g1,g2,g3,g4,g5⟩:=H _ ja;have J2:=J.pinned (fp:=[r.objs.size]) (λb E=>by
  have:b=r.objs.size:=by simpa using E
  subst this;exact H _ ja) (λb E=>by
  have:b=r.objs.size:=by simpa using E
  subst this;exact⟨_,j,λg z=>by cases z⟩);rw[sk j]at J2;have hV:Ð ((rl ξ.length).map λk=>μ.getD (p k) .non) w.toList:=by
  refine vC (by simp[o1]) λi g u y eu=>?_;have hi:i<ξ.length:=by have:=(D_.mp eu).1;simp[o1]at this;omega
  have P:w[i]?=Z u:=by simpa using eu
  rw[o2 i hi]at P;rw[Rg,VF hi]at y;simp only[TW,UX]at y;have hp:p i<μ.length:=by rw[c'];exact o4 i hi
  have e1:μ[p i]?=Z g:=by rw[C_ hp,<-y];simp[UN,hp]
  obtain⟨u',e2,r2⟩:=rv.get e1;rw[e2]at P;cases P;exact r2
 have hR:O a.K t (iK ks q) ((rl ξ.length).map λk=>μ.getD (p k) .non):=by
  have hn:ξ.length=q.length:=by omega
  rw[<-vE g',<-hn,<-o3,Tg];refine vB (by simp) λi d g ed y=>?_;have hi:i<ξ.length:=by have:=(D_.mp ed).1;simpa using this
  rw[Rg,VF hi]at ed y;simp only[TW,UX,Zj]at ed y;have hp:p i<μ.length:=by rw[c'];exact o4 i hi
  have d':p i<q.length:=by omega
  refine sj (O.mono sm _ _ A) (p i) d g ?_ ?_;·rw[C_ d',<-ed];simp[UN,d']
  ·rw[C_ hp,<-y];simp[UN,hp]
 have e':(r.objs.size,RG "list" w cc)=(r.objs.size,EV w.toList cc):=by simp[RG,EV]
 rw[e']at J2;obtain⟨v',J3⟩:=Ì.retrack J2 hV (line64 (by simp;omega)) (λo' z=>by
  exfalso;rcases g3 with g3|g3;·exact absurd (I.ok) (λ_=>by have:=Vq (h:=a.s₀.heap) (a:=r.objs.size) (QV I.sz (gr));rw[this]at z;cases z)
  ·have:=Vq (h:=a.s₀.heap) (a:=r.objs.size) g3;rw[this]at z;cases z) g5;refine⟨.ref r.objs.size,_,J3,rfl,n _ _ _ (λb u z=>?_) aw (O.mono (aD ja _) _ _ hR)⟩;exact aD ja _ b u (sm b u z)
theorem BI{P:List (B×Obj)}{r:List Int}(R:HE a a.A.in1.in1 e P Ζ ψ)(E:∀p∈P,p∈ζ)(hS:Í Ζ h)(I:Ì a ζ Λ h f)(w:∀Q':List D->g_->Prop,(∀z tk,(∀b o,f.heap.get? b=Z o->z.get? b=Z o)->f.heap.objs.size<=z.objs.size->Q' ξ {f with heap:=z,toks:=tk})->uk (x_ a.prog a.w) a.A.in1 (XF (.ref v)) Q' ο f)(rv:Ð μ ξ)(A:O a.K h q μ)(H:iJ ψ q=Z r)(a':r.length<64)(im:æ q=U)(j:∀(g:B)(t:List V)(y:Hp),Í h y->y g=Z (.lst t)->O a.K y (iK r q) t->Ê (.ref g) y):uk (x_ a.prog a.w) a.A (call (.builtin "sorted") [.ref v] [(b_ "key",.ref e)]) (EP a ζ Λ Ê) ο f:=by obtain⟨n,u⟩:=kH H;exact oK (kd:=r.map N.int) R E hS I w rv A (λi d m=>let⟨k,h1,h2⟩:=u i d m;⟨.int k,by rw[Rg,h1];rfl,h2⟩) (by rw[QL];exact n) n (by omega) (nI r) (λ_=>rfl) im j
noncomputable def srt1(F:Ï):Ï|[]=>Z (.ok (.lst []))|[d]=>(match F [d]with|some (.ok k)=>if ĝ d=U/\ĝ k=U then Z (.ok (.lst [d]))else Y|_=>Y)|_=>Y
def vF(F:Ï):Ï|[.lst a]=>srt1 F a|[.tup a]=>srt1 F a|_=>Y
theorem yE(G:è a.prog a.w a.K a.mg a.base ċ d e Â z (ŷ a.K ψ z.length))(g:Ø (d+2) a.A)(i:ë a.K Â z [])(k:z.length=1):HE a a.A.in1.in1 e [] h ψ:=⟨λn m h s v u b o E _ _ I f r j=>Kp G g.in1.in1 rfl i I f r k j⟩
theorem BJ(k:Nat)(ps:List Str)(F:Ï)(h:Zy a.prog a.w a.K a.mg a.base b k ps F)(hr:Ø d a.A)(hk:k+2<=d)(h1:ps.length=1)(hg:Gl a "sorted")(hm:a.mg "sorted"=Y)(m':Gl a b)(ha:FA a [g] ε)(n':(b==("__debug__":Str))=L)(he:O_ Ψ (k_ [g] a.env)=(L,eval g a.env)::O_ Ψ (k_ [] a.env))(a':(O_ Ψ (k_ [g] a.env)).any (·.1)=L)(f':(RM Ψ (Rc [⟨Z "key",.Name b w,ω⟩] a.env)).all (·.1.isSome)=U)(l':(RM Ψ (Rc [⟨Z "key",.Name b w,ω⟩] a.env)).any (·.1.isNone)=L)(g':(RM Ψ (Rc [⟨Z "key",.Name b w,ω⟩] a.env)).filterMap (·.1)=[b_ "key"]):FE a (.Call (.Name "sorted" o) [g] [⟨Z "key",.Name b w,ω⟩] Ψ) (ß (vF F) ε):=⟨λj' s σ H Q I⟨ρ,E,e⟩=>by
 obtain⟨f,fd,G,i',o',hb⟩:=h;refine RD (gD I hg hm (Ε:=.builtin "sorted") (by decide+kernel) ?_ (by decide) (by decide));refine callWith_kw (â (ha.h Ψ j' s σ H _ I ⟨ρ,E,ä.bind e λds vs H1 e1 rs o1=>(show∃ds,O a.K H1 ds vs/\ê a H1 (vF F ds) Q from⟨ds,rs,o1⟩)⟩) λus s1⟨vs,H1,I1,r1,ds,rs,o1⟩=>?_) he a' f' l';refine kws_cons (kt I1 m' i' (kws_nil ?_) n');rw[g'];show uk _ _ (call (.builtin "sorted") us [(b_ "key",.ref f)]) _ _ s1;have e':∀(l:B)(xs:List V)(P:List N)(ob:Obj)(n:Nat)(c:String)(t:List D),s1.heap.get? l=Z ob->ob.cls=.type c->ob.data=.seq t.toArray n->(r_ c==r_ "list"||r_ c==r_ "tuple")=U->Ð xs t->O a.K H1 P xs->ê a H1 (srt1 F P) Q->uk (x_ a.prog a.w) a.A (call (.builtin "sorted") [.ref l] [(b_ "key",.ref f)]) (EP a j' σ Q) a.xe s1:=by intro l xs P ob n c t q1 q2 q3 q4 rv y q;have g2:=fZ y;have g3:=rv.length;have A:P.length<=1->∀Q':List D->g_->Prop,(∀h' tk,(∀p e,s1.heap.get? p=Z e->h'.get? p=Z e)->s1.heap.objs.size<=h'.objs.size->Q' t {s1 with heap:=h',toks:=tk})->uk (x_ a.prog a.w) a.A.in1 (XF (.ref l)) Q' a.xe s1:=λhl Q' hQ=>lW (M:=x_ a.prog a.w) q1 q2 q3 q4 (λh' up gr=>hQ h' s1.toks up (SN gr)) (line64 (by omega));match P,y,q,g2,A with
 |[],y,q,g2,A=>exact oK (kd:=[]) (ks:=[]) (yE G (hr.mono hk) hb h1) (by simp) (.refl H1) I1 (A (by simp)) rv y (by simp) rfl rfl (by simp) rfl (λz=>by simp at z) rfl λm b' H' sm hL c'=>q _ _ sm ⟨m,b',rfl,hL,c'⟩|[j],y,q,g2,A=>unfold srt1 at q;dsimp only at q;match hF:F [j]with
  |none=>rw[hF]at q;exact q.elim|some (.exc c)=>rw[hF]at q;exact q.elim|some (.ok kv)=>
  rw[hF]at q;dsimp only at q;by_cases hc:ĝ j=U/\ĝ kv=U;·rw[if_pos hc]at q;refine oK (kd:=[kv]) (ks:=[0]) (yE G (hr.mono hk) hb h1) (by simp) (.refl H1) I1 (A (by simp)) rv y (λi d' g=>?_) rfl rfl (by simp) (by show(ĝ kv&&U)=U;rw[hc.2];rfl) (λz=>by simp at z) (by show(ĝ j&&U)=U;rw[hc.1];rfl) λm b' H' sm hL c'=>q _ _ sm ⟨m,b',rfl,hL,c'⟩;cases i with|zero=>simp at g;subst g;exact⟨kv,rfl,hF⟩|succ i=>simp at g
  ·rw[if_neg hc]at q;exact q.elim
 |_::_::_,y,q,_,_=>exact q.elim
 unfold vF at o1;split at o1;·rename_i P;obtain⟨v,rfl,r⟩:=dq rs;obtain⟨l,xs,rfl,hl,y⟩:=r.lstE;obtain⟨u,rfl,ru⟩:=eQ r1;cases(show u=y_ l from ru);obtain⟨z,t,n,rv,hz,eh⟩:=I1.lstM hl;exact e' l xs P _ n "list" t eh rfl rfl rfl rv y o1
 ·rename_i P;obtain⟨v,rfl,r⟩:=dq rs;obtain⟨l,xs,rfl,hl,y⟩:=r.tupE;obtain⟨u,rfl,ru⟩:=eQ r1;cases(show u=y_ l from ru);obtain⟨t,rv,⟨ob,q1,q2,n,q3⟩,hz⟩:=I1.tuple (ü.of hl);exact e' l xs P ob n "tuple" t q1 q2 q3 rfl rv y o1
 ·exact o1.elim⟩
theorem yF{T:bL}{e:DD}(A:HA a.prog a.w a.K a.mg a.base T)(E:MA a.mg e)(t:Ø d a.A)(j:(T.lookup b).map (λq=>q.2.2)=Z ψ)(z:FA a [g] ε)(i:((T.lookup b).all λq=>TM (q.1+2) d&&SO q.2.1.length 1)=U:=by lk)(v:a.env.kindOf (b_ "sorted")=Z .globalImplicit:=by lk)(u:e.lookup (b_ "sorted")=Z Y:=by lk)(p:a.env.kindOf b=Z .globalImplicit:=by lk)(r:(b==("__debug__":Str))=L:=by lk)(y:O_ Ψ (k_ [g] a.env)=(L,eval g a.env)::O_ Ψ (k_ [] a.env):=by lk)(f:(O_ Ψ (k_ [g] a.env)).any (·.1)=L:=by lk)(h:(RM Ψ (Rc [⟨Z "key",.Name b w,ω⟩] a.env)).all (·.1.isSome)=U:=by lk)(n:(RM Ψ (Rc [⟨Z "key",.Name b w,ω⟩] a.env)).any (·.1.isNone)=L:=by lk)(m:(RM Ψ (Rc [⟨Z "key",.Name b w,ω⟩] a.env)).filterMap (·.1)=[b_ "key"]:=by lk):FE a (.Call (.Name "sorted" o) [g] [⟨Z "key",.Name b w,ω⟩] Ψ) (ß (vF ψ) ε):=by cases k:T.lookup b with|none=>rw[k]at j;cases j|some q=>rw[k]at j i;cases j;rw[Sa,p_]at i;exact BJ q.1 q.2.1 q.2.2 (A.h b q k) t (QP i.1) (QM i.2) v (E.no u) p z r y f h n m
theorem uE{a b:Int}{t u:Tok}{c:D}:∀(l:List D),Yv l->Yv (l++[.int a t,.int b u,c])|[],_=>trivial|.int _ _::.int _ _::_::rest,h=>uE rest h
theorem qB{d:Pos}{v c:D}{a b:Int}{t u:Tok}:∀(l:List D),Yv l->Wq d (l++[.int a t,.int b u,c])=Z v->Wq d l=Z v\/v=c
 |[],_,h=>by
  simp only[YU,Wq]at h;split at h;·cases h;exact .inr rfl
  ·cases h|.int x _::.int y _::z::rest,f,h=>by
  simp only[List.cons_append,Wq]at h⊢;split at h;·rename_i e;rw[if_pos e];exact .inl h
  ·rename_i e;rw[if_neg e];exact qB rest f h
def Ĝ(P:B)(q:Str)(H:Hp):Prop:=∃a t,H P=Z (.tbl a)/\a[0]?=Z (.str q t)
def Kx(b:Obj)(q:Str):Prop:=∃a t,b.data=.fields a/\a[1]?=Z (.str q t)
abbrev FZ(a:Obj):HO:=.frz a (.ext λ_=>True)
def qC(K:d_)(k:D)(P:B):Prop:=∃f o a e j b i g d h,k=.ref f/\K.lookup f=Z o/\o.cls=.type "code"/\o.data=.fields a/\a[11]?=Z (.ref P)/\a.getD 11 .none=.ref P/\a.getD 18 .none=.str e j/\a.getD 7 .none=.int b i/\a.getD 9 .none=.bool g/\a.getD 10 .none=.int d h/\f≠P
def Ky(K:d_)(b:Str->Option D):Prop:=∃a o,b "__builtins__"=Z (.ref a)/\a≠builtinsNs/\a≠z_/\K.lookup a=Z o/\o.cls=.type "module"/\o.dict=Z builtinsNs/\o.data=.plain
theorem Ĝ.now(d:Ĝ e b a.H₀)(I:Ì a ζ Λ h f):Ĝ e b h:=by obtain⟨j,t,m,k⟩:=d;obtain⟨i,g⟩:=I.base.tbls e j m;refine⟨j++i,t,g,?_⟩;have:0<j.size:=(RO.mp k).1;rw[Array.getElem?_append_left this];exact k
theorem FY{A:Obj}(i:Ì a ζ Λ h f)(H:h e=Z (.tbl Δ))(p:∀b o,b≠e->f.heap.get? b=Z o->I.get? b=Z o)(P:f.heap.objs.size<=v)(w:I.get? v=Z A)(t:é a.prog a.w (Ý h v (FZ A)) I e (.tbl Δ)):Ì a ζ Λ (Ý h v (FZ A)) {f with heap:=I,toks:=d}:=by
 have fr:h v=Y:=i.hok.fresh P;have E:∀b,h b=Y->b≠e:=λb n z=>by rw[z,H]at n;cases n
 have nc:∀b o,f.heap.get? b=Z o->b≠v:=λb o g=>F_ (QJ (v_ g) P);refine i.step (g':=f.gens) (d':=f.drawn) (ch:=[]) (λ_ z=>nomatch z) (λb o _ _ _ g n=>p b o (E b n) g) (λb o _ _ _ g n=>⟨o.slots,p b o (E b n) g⟩) (λb o _ g n=>by rw[ay (nc b o g)];exact n) (λb o _ g=>?_) (λb xs g=>by rw[ay (au g fr)];exact g) (λb o u g=>by rw[ay (au g fr)];exact g) (λb qs g=>⟨#[],by rw[ay (au g fr),g];simp⟩) (λm hm=>?_) (λb u g=>?_) i.bare
 · by_cases q:b=e;·obtain⟨qs,e2,_⟩:=t;exact⟨_,by rw[q];exact e2⟩
   ·exact⟨o,p b o q g⟩
 ·obtain⟨o,es,ep,ho,r⟩:=hm;exact⟨o,es,ep,p _ o (E _ i.free) ho,r⟩
 · by_cases q:b=v;·subst q;rw[aw]at g;cases g;exact⟨w,trivial,⟨A,w⟩,λ_ _ _ _=>trivial⟩
   · rw[ay q]at g;by_cases y:b=e;·subst y;rw[H]at g;cases g;exact t
     · refine(i.hok b u g).stay (λj k hd z=>p j k ?_ z) (λj z=>by rw[ay (au z fr)];exact z) λj xs z=>by rw[ay (au z fr)];exact z
       rcases hd with z|z;·rw[z];exact y
       ·intro z2;rw[z2,H]at z;cases z
theorem Kz{p:Arguments}(I:Ì a ζ Λ h f)(hT:Ĝ e b a.H₀)(hC:qC a.K a.env.code e)(hB:Ky a.K a.mg)(i':SV η a.env=pure [])(n':defaultsOf p a.env=([],[]))(hq:a.env.qual++"<lambda>"=b)(m:∀j c P q pm H' s',Ì a ζ Λ H' s'->Í h H'->H' c=Z (FZ P)->Kx P b->s'.heap.get? j=Z (TQ "<lambda>" b p g η [] pm c q)->rL a ζ H' j->Å (.ref j) s'):uk (x_ a.prog a.w) a.A (eval (.Lambda p g η o) a.env) Å ο f:=by
 refine PySem.W.kla_eval n' ?_;rw[hq];obtain⟨ps,t0,hP,f'⟩:=hT.now I;obtain⟨qs,i,tr,ch⟩:=I.hok e _ hP;have KX:=I.kIn;obtain⟨cc,d,vs,o',tf,H,tg,r',l',tt,k',lk,c1,c2,c3,c4,c5,c6,c7,c8,c9⟩:=hC;have n:PySem.W.CodeHd f.heap cc e:=⟨d,vs,o',tf,H,tg,r',l',tt,KX _ _ lk,c1,c2,c3,c4,c5,c6,c7,c8,c9⟩;have hg:f.heap.Ns z_ a.mg:=I.mod.glob.keeps I.bk;obtain⟨bm,ob,b1,b2,b3,b4,b5,b6,b7⟩:=hB;have v':z_≠e:=λz=>by obtain⟨d,es,ep,e',hd,_⟩:=hg;rw[z,i]at e';cases e';cases hd
 have w':bm≠e:=λz=>by have e':=KX _ _ b4;rw[z,i]at e';cases e';cases b5
 have hb:f.heap.BuiltinsAt a.mg e:=⟨bm,ob,b1,b2,b3,w',KX _ _ b4,b5,b6,b7⟩;cases hf:Wq o qs.toList with|none=>
 refine PySem.W.kla_makeFunction (mg:=a.mg) i' I.ok.glob hg k' n i tr hf v' hb λy q w tk hx g' z' m' t'=>?_;obtain⟨A',P,a',t,e2,u',hd,hv⟩:=m';cases e2;have fr:h y=Y:=I.hok.fresh g';have hl:(qs++#[RY o.line,RY o.col,y_ y]).toList=qs.toList++[RY o.line,RY o.col,.ref y]:=by simp
 have p':é a.prog a.w (Ý h y (FZ P)) w e (.tbl ps):=⟨_,t',by rw[hl];exact uE _ tr,λpos v d'=>by
 rw[hl]at d';rcases qB _ tr d' with z|z;·obtain⟨r,E,A,q3,t3,b',r1,r2,r3⟩:=ch pos v z;exact⟨r,E,A,q3,t3,b',r1,by rw[ay (au r2 fr)];exact r2,r3⟩
 ·exact⟨y,P,a',b,t,t0,z,aw,hd,hv,f'⟩⟩;have I':=FY (d:=tk) I hP (λk d x' q'=>hx k d x' q') g' u' p';have I2:=I'.kept (t':=tk) (h':=w.push (TQ "<lambda>" b p g η [] ((a.mg "__name__").getD .none) y q)) λk u z=>j_ _ z;exact m w.objs.size y P q _ _ _ I2 (aD fr _) aw ⟨a',t,hd,hv⟩ (pi _ rfl) (I'.fpOk (s_ _) (I'.hok.fresh (s_ _)))|some v=>obtain⟨r,E,A,q3,t3,b',r1,r2,r3,r4,r5⟩:=ch o v hf;subst r1;rw[f']at r5;cases r5;refine PySem.W.kla_makeFunctionHit (mg:=a.mg) i' I.ok.glob hg k' n i tr hf hb λq w tk hk y'=>?_;have I1:=I.kept (t':=tk) (h':=w) hk;have I2:=I1.kept (t':=tk) (h':=w.push (TQ "<lambda>" b p g η [] ((a.mg "__name__").getD .none) r q)) λk u z=>j_ _ z;exact m w.objs.size r E q _ _ _ I2 (.refl h) r2 ⟨A,t3,r3,r4⟩ (pi _ rfl) (I1.fpOk (s_ _) (I1.hok.fresh (s_ _)))
theorem F0{oc:Obj}{ps:List Str}{o:Arguments}{p:D}(hr:Ø (d+1) E)(h':E.frames=a.A.frames)(S:dO z ps η)(e':ps.length=1)(k':∀(Ε p:D)(v:B)(u:D),VR (Xn "<lambda>" b o g η [] Ε (.ref v) p) ⟨[u],[]⟩=pure (ps.zip [u]))(hc:h v=Z (FZ oc))(a':Kx oc b)(hb:∀(A:xy)(w:List Env)(s:g_)(H:Hp)(m:XK),Ø d (A.deeper (Sq b η s.heap.objs.size e (.ref v)))->FE (kq ċ a.prog a.w a.K a.mg a.base z b η e (.ref v) A w s H m) g y)(hF:ψ=λds=>y (ds.map Z++L_ (z.length-ds.length) Y)):HE a E e [(e,TQ "<lambda>" b o g η [] Ε v p)] h ψ:=by
 refine⟨λj' σ H s f u k d' m f' hS I ru rd eF=>?_⟩;have q:=I.env0;have e1:ĕ a.prog a.w a.K a.mg a.base E a.stack s H:=⟨h'.trans q.frames,q.mod,q.bs,q.bsz,q.funs,q.frf,q.hok,q.bare⟩;have i':=(I.pin (e,TQ "<lambda>" b o g η [] Ε v p) (o_ _ (f' _ (by simp)))).1;have g':s.heap.get? v=Z oc:=(I.hok v _ (hS _ _ hc)).1;obtain⟨vs,t,hd,hv⟩:=a';have c':s.heap.NoLimit:=I.nolimit;have P:∀i∈ps.zip [u],η.names.lookup i.1=Z .local\/(η.names.lookup i.1=Z .cell/\((Ri (s.heap.objs.size+1) η.names []).lookup i.1).isSome=U):=λ⟨n,f⟩hy=>by
  rcases S.par n (UB hy).1 with b|b;·exact .inl b
  ·exact .inr ⟨b,TF _ _ _ (.inl b)⟩
 refine Ue (RT (R:=CR ċ a.stack a.prog a.w H s (λv' H'=>Í H H'/\Ó a.K H' d' v') E0) ?_ λr s' hq=>?_)
 · refine PySem.W.kla_callFunE hr.depth i' rfl S.co S.gen rfl ⟨v,oc,vs,t,rfl,g',hd,hv⟩ ?_;rw[k'];refine m_ (Ud S.kind P λm' he s1 x=>?_);subst he;refine⟨c'.keeps x.toInCall.keep,PySem.W.kla_codeExpr ?_⟩;have I1:Ì (kq ċ a.prog a.w a.K a.mg a.base z b η e (.ref v) E a.stack s H E0) [] (start z [f]) H s1:=lJ S hr.hd e1 (by simp[e']) (.cons ru .nil) x;refine QX ((hb E a.stack s H E0 (hr.deeper _)).h [] s1 (start z [f]) H (λv' H'=>Í H H'/\Ó a.K H' d' v') I1 ⟨_,dH (q:=[k]) ⟨f,[],rfl,rd,rfl⟩,?_⟩) (λv' s' hs=>?_) λj s' hs=>hs;·rw[hF]at eF;have l':y (List.map Z [k]++L_ (z.length-[k].length) Y)=Z (.ok d'):=eF;rw[l'];exactλf H' j r=>⟨j,r⟩
   ·obtain⟨v2,H2,J,b',q2⟩:=hs;exact⟨v2,H2,J.os,J.bare,J.base,J.hok,b',q2⟩
 ·cases r with|error j=>exact hq.elim|ok fl=>cases fl with|ret u=>exact I.after hq|next=>exact QN hq|brk=>exact QN hq|cont=>exact QN hq
noncomputable def HF(n:Nat)(b:Ò):Ï:=λa=>b (a.map Z++L_ (n-a.length) Y)
theorem BK{ps:List Str}{p:Arguments}(hT:Ĝ e b a.H₀)(hC:qC a.K a.env.code e)(hB:Ky a.K a.mg)(hr:Ø d a.A)(hk:r+3<=d)(hg:Gl a "sorted")(hm:a.mg "sorted"=Y)(ha:FA a [g] ε)(S:dO z ps η)(s':ps.length=1)(hN:z.length=1)(hb:∀(f c:B)(A:xy)(d':List Env)(s:g_)(H:Hp)(E:XK),Ø r (A.deeper (Sq b η s.heap.objs.size f (.ref c)))->FE (kq ċ a.prog a.w a.K a.mg a.base z b η f (.ref c) A d' s H E) P y)(y':∀(pm a':D)(c:B)(u:D),VR (Xn "<lambda>" b p P η [] pm (.ref c) a') ⟨[u],[]⟩=pure (ps.zip [u]))(x':SV η a.env=pure [])(l':defaultsOf p a.env=([],[]))(hq:a.env.qual++"<lambda>"=b)(he:O_ ω (k_ [g] a.env)=(L,eval g a.env)::O_ ω (k_ [] a.env):=by lk)(b':(O_ ω (k_ [g] a.env)).any (·.1)=L:=by lk)(m':(RM ω (Rc [⟨Z "key",.Lambda p P η Ψ,w⟩] a.env)).all (·.1.isSome)=U:=by lk)(u':(RM ω (Rc [⟨Z "key",.Lambda p P η Ψ,w⟩] a.env)).any (·.1.isNone)=L:=by lk)(t':(RM ω (Rc [⟨Z "key",.Lambda p P η Ψ,w⟩] a.env)).filterMap (·.1)=[b_ "key"]:=by lk):FE a (.Call (.Name "sorted" o) [g] [⟨Z "key",.Lambda p P η Ψ,w⟩] ω) (ß (vD (HF 1 y)) ε):=⟨λj' s σ H Q I⟨ρ,E,k⟩=>by
 refine RD (gD I hg hm (Ε:=.builtin "sorted") (by decide+kernel) ?_ (by decide) (by decide));refine callWith_kw (â (ha.h ω j' s σ H _ I ⟨ρ,E,ä.bind k λds vs H1 e1 rs t=>(show∃ds,O a.K H1 ds vs/\ê a H1 (vD (HF 1 y) ds) Q from⟨ds,rs,t⟩)⟩) λus s1⟨vs,H1,I1,r1,ds,rs,t⟩=>?_) he b' m' u';refine kws_cons (Kz I1 hT hC hB x' l' hq λf c oc a' pm H2 s2 I2 sm hc g' f' w'=>kws_nil ?_);rw[t'];show uk _ _ (call (.builtin "sorted") us [(b_ "key",.ref f)]) _ _ s2;unfold vD at t;split at t
 · rename_i es;obtain⟨v,rfl,j⟩:=dq rs;obtain⟨l,xs,rfl,hl,rx⟩:=j.lstE;obtain⟨u,rfl,ru⟩:=eQ r1;cases(show u=y_ l from ru);split at t
   · rename_i ks e';split at t
     · rename_i q;obtain⟨i,r',n,rv,hz,eh⟩:=I2.lstM (sm _ _ hl);have Ip:=I2.pinned (fp:=[f]) (λh c'=>by
       have:h=f:=by simpa using c'
       subst this;exact w') (λh c'=>by
       have:h=f:=by simpa using c'
       subst this;exact⟨_,f',λv i=>by cases i⟩);rw[sk f']at Ip;have v':Ø (r+1) a.A.in1.in1:=(hr.mono hk).in1.in1;have R:=F0 (a:=a) (E:=a.A.in1.in1) (h:=H2) (z:=z) (ps:=ps) (o:=p) (g:=P) (η:=η) (Ε:=pm) (p:=a') (y:=y) (ψ:=HF 1 y) v' rfl S s' y' hc g' (hb f c) (by rw[hN];rfl);have i':r'.length<64:=by obtain⟨g1,_⟩:=kH e';have g2:=fZ rx;have g3:=rv.length;omega
       refine â (BI (Ê:=Q) R (λo hp=>by
       have:o=(f,TQ "<lambda>" b p P η [] pm c a'):=by simpa using hp
       subst this;simp) (.refl H2) Ip (λQ' hQ=>lW (M:=x_ a.prog a.w) eh rfl rfl rfl (λh' up gr=>hQ h' s2.toks up (SN gr)) (line64 i')) rv (O.mono sm _ _ rx) e' q.1 q.2 λm n' H' o' hL p'=>t _ _ (sm.trans o') ⟨m,n',rfl,hL,p'⟩) λu s3⟨v,H3,I3,q',q3⟩=>⟨v,H3,I3.unpinned,q',q3⟩
     ·exact t.elim
   ·exact t.elim
 ·exact t.elim⟩
def spT(b:B)(q:Str)(K:d_)(F:Ï)(n:Nat):Sp:=λa H Q E=>Ĝ b q H/\ŷ K F n a H Q E
def Mv(P:n_)(w:w_)(K:d_)(d:Str->Option D)(a:J_)(g:B)(q:Str)(x:Str)(k:Nat)(b:List Str)(F:Ï):Prop:=∃f e,è P w K d a ċ k f e b (spT g q K F b.length)/\d x=Z (.ref f)/\Rr K (.ref f)=U/\ë K e b []
structure ŵ(P:n_)(w:w_)(K:d_)(mg:Str->Option D)(base:J_)(Pt:B)(q:Str)(T:bL):Prop where h:∀x e,T.lookup x=Z e->Mv P w K mg base Pt q x e.1 e.2.1 e.2.2
theorem F1:ŵ p m u Α I e b []:=⟨λ_ _ h=>by cases h⟩
theorem BL{T:bL}(h:Mv p m u Α I e b i d z ψ)(t:ŵ p m u Α I e b T):ŵ p m u Α I e b ((i,d,z,ψ)::T):=⟨λx f a=>by
 rcases fD a with⟨rfl,rfl⟩|a;·exact h
 ·exact t.h x f a⟩
theorem Ĝ.mono(d:Í h Ζ)(a:Ĝ e b h):Ĝ e b Ζ:=let⟨f,t,i,g⟩:=a;⟨f,t,d _ _ i,g⟩
variable{θ:Str}
theorem KB{CT:D->Prop}(N t:List Str)(w:Ö)(hF:ψ=bt N.length w)(hn:r=t.length)(Fn:ġ u i θ τ v Â)(S:dO N t (ah τ))(P:CT Â.code)(hb:∀(n:D)(A:xy)(k:List Env)(s:g_)(H:Hp)(E:XK),CT n->Ĝ e b H->Ø d (A.deeper (Sq θ (ah τ) s.heap.objs.size v n))->ć (kq ċ p m u Α I N θ (ah τ) v n A k s H E).nox (bB τ) w):è p m u Α I ċ (d+1) v Â t (spT e b u ψ r):=by
 subst hF hn;obtain⟨oc,od,kV,d',pm,an,n,ct,c',rfl,lk,a'⟩:=Fn.ex;refine vf lk a' S (λvs H Q E h=>?_) λA k s H vs Q E hr h=>?_;·obtain⟨_,o,a,hl,_⟩:=h;rw[a.length,hl]
 ·obtain⟨ht,o,a,hl,z⟩:=h;refine⟨_,(hb n A k s H E P ht hr).h.nox,o.map Z++L_ (N.length-o.length) Y,dH a,?_⟩;unfold bt at z;match q:w (o.map Z++L_ (N.length-o.length) Y)with|none=>rw[q]at z;exact z.elim|some (.exc c)=>rw[q]at z;exact z.elim|some (.rt j)=>rw[q]at z;exactλg y f r'=>z g y f r'|some (.nx ρ)=>rw[q]at z;exactλb' y f _=>z .non y f rfl
theorem F3{q:D->Prop}(y:u.In É)(z:É.Ns z_ Α)(N g:List Str)(h:Ö)(A:Af u i τ v)(n:Ku i τ g)(k:∀o,ġ u i i τ v o->q o.code)(t:∀(a:D)(A:xy)(f:List Env)(s:g_)(H:Hp)(E:XK),q a->Ĝ e b H->Ø d (A.deeper (Sq i (ah τ) s.heap.objs.size v a))->ć (kq ċ p m u Α I N i (ah τ) v a A f s H E).nox (bB τ) h)(w:ψ=bt N.length h:=by lk)(r:Ŋ N g (ah τ)=U:=by lk):Mv p m u Α I e b i (d+1) g ψ:=let⟨_,j⟩:=A.F;⟨_,_,KB N g h w rfl j (yC r) (k _ j) t,SQ y z A.a,A.k,j.binds n⟩
noncomputable def W'(K:d_)(f b:B):Bool:=match K.lookup f with|some ⟨_,_,.func g,_⟩=>(match g.code with|.ref d=>(match K.lookup d with|some ⟨.type "code",_,.fields a,_⟩=>(match(a[11]?:Option D),a.getD 11 .none,a.getD 18 .none,a.getD 7 .none,a.getD 9 .none,a.getD 10 .none with|some (.ref p),.ref e,.str _ _,.int _ _,.bool _,.int _ _=>SO p b&&SO e b&&!SO d b|_,_,_,_,_,_=>L)|_=>L)|_=>L)|_=>L
theorem N1(h:W' u v e=U)(z:ġ u b b τ v Â):qC u Â.code e:=by
 obtain⟨oc,od,kV,H,pm,an,I,ct,A,a,j,E⟩:=z.ex;unfold W' at h;rw[j]at h;dsimp only at h;split at h
 · rename_i y f;split at h
   · rename_i dd g P d;split at h;·rename_i p i a1 a2 a3 a4 a5 a6 a7 w t r q o n;simp only[p_,Sn]at h;have m:p=e:=QM h.1.1;have k:i=e:=QM h.1.2;subst m;subst k;exact⟨y,_,g,_,_,_,_,_,_,_,f,d,rfl,rfl,w,t,r,q,o,n,Sl h.2⟩
     ·cases h
   ·cases h
 ·cases h
theorem ctB_tab(i:u.In I)(a:W' u v e=U):Xm I e:=by
 unfold W' at a;split at a
 · split at a
   · rename_i h j;split at a
     · rename_i w d k b;split at a;·rename_i p m P H E a4 A z y g t r q o n;simp only[p_,Sn]at a;have f:p=e:=QM a.1.1;subst f;exact⟨h,_,d,i _ _ b,rfl,rfl,g⟩
       ·cases a
     ·cases a
   ·cases a
 ·cases a
noncomputable def P'(K:d_):Bool:=match Rq K z_ "__builtins__"with|some (Z (.ref a))=>(match K.lookup a with|some ⟨.type "module",Z d,.plain,_⟩=>SO d builtinsNs&&!SO a builtinsNs&&!SO a z_|_=>L)|_=>L
theorem N2(h:u.In I)(i:I.Ns z_ Α)(a:P' u=U):Ky u Α:=by
 unfold P' at a;split at a
 · rename_i g f;split at a;·rename_i d j e;simp only[p_,Sn]at a;have b:d=builtinsNs:=QM a.1.1;subst b;exact⟨g,_,SQ h i f,Sl a.1.2,Sl a.2,e,rfl,rfl,rfl⟩
   ·cases a
 ·cases a
theorem yG(k:Nat)(p:List Str)(F:Ï)(h:Mv a.prog a.w a.K a.mg a.base e b i k p F)(hT:Ĝ e b a.H₀)(hr:Ø d a.A)(hk:k<=d)(hg:Gl a i)(ha:FA a (g::t) ε)(hn:r=p.length:=by lk)(y:(i==("__debug__":Str))=L:=by lk)(he:k_ (g::t) a.env=(L,eval g a.env)::k_ t a.env:=by lk)(u:(O_ w (k_ t a.env)).any (·.1)=L:=by lk):FE a (.Call (.Name i o) (g::t) [] w) (ae F r ε):=by
 subst hn;obtain⟨f,fd,G,hm,v,hb⟩:=h;refine⟨λj' s A H Q I⟨P,E,j⟩=>lI (G.mono hk) hr hg hm v hb .nil Iz ha.h y he u j' s A H Q I ⟨P,E,ä.bind j λz vs H' g rs n=>?_⟩⟩;show spT e b a.K F p.length (vs++[]) H' Q E0;rw[RB];refine⟨(hT.now I).mono g,?_⟩;split at n
 ·rename_i hl;refine⟨z,rs,hl,?_⟩;match q:F z with|some (.ok m)=>rw[q]at n;exact n|none=>rw[q]at n;exact n.elim|some (.exc _)=>rw[q]at n;exact n.elim
 ·exact n.elim
theorem yH{T:bL}(v:ŵ a.prog a.w a.K a.mg a.base e b T)(y:Ĝ e b a.H₀)(n:Ø d a.A)(h:(T.lookup i).map (λb=>b.2.2)=Z ψ)(u:FA a (g::t) ε)(f:((T.lookup i).all λb=>TM b.1 d&&SO r b.2.1.length)=U:=by lk)(p:a.env.kindOf i=Z .globalImplicit:=by lk)(m:(i==("__debug__":Str))=L:=by lk)(q:k_ (g::t) a.env=(L,eval g a.env)::k_ t a.env:=by lk)(k:(O_ w (k_ t a.env)).any (·.1)=L:=by lk):FE a (.Call (.Name i o) (g::t) [] w) (ae ψ r ε):=by cases j:T.lookup i with|none=>rw[j]at h;cases h|some b=>rw[j]at h f;cases h;rw[Sa,p_]at f;exact yG b.1 b.2.1 b.2.2 (v.h i b j) y n (QP f.1) p u (QM f.2) m q k
theorem yI{h:DD}{i:Arguments}(hT:Ĝ e b a.H₀)(hC:qC a.K a.env.code e)(hB:Ky a.K a.mg)(hM:MA a.mg h)(hr:Ø d a.A)(ha:FA a [g] ε)(hb:∀(f c:B)(A:xy)(k:List Env)(s:g_)(H:Hp)(E:XK),Ø 1 (A.deeper (Sq b η s.heap.objs.size f (.ref c)))->FE (kq ċ a.prog a.w a.K a.mg a.base z b η f (.ref c) A k s H E) P y)(hk:TM 4 d=U:=by lk)(hg:a.env.kindOf (b_ "sorted")=Z .globalImplicit:=by lk)(hm:h.lookup (b_ "sorted")=Z Y:=by lk)(hs:Ŋ z z η=U:=by lk)(I:SO z.length 1=U:=by lk)(t:∀(pm v:D)(c:B)(u:D),VR (Xn "<lambda>" b i P η [] pm (.ref c) v) ⟨[u],[]⟩=pure (z.zip [u]):=by intros;lk)(r:SV η a.env=pure []:=by lk)(m:defaultsOf i a.env=([],[]):=by lk)(hq:a.env.qual++"<lambda>"=b:=by lk)(he:O_ w (k_ [g] a.env)=(L,eval g a.env)::O_ w (k_ [] a.env):=by lk)(j:(O_ w (k_ [g] a.env)).any (·.1)=L:=by lk)(n:(RM w (Rc [⟨Z "key",.Lambda i P η Ψ,ω⟩] a.env)).all (·.1.isSome)=U:=by lk)(q:(RM w (Rc [⟨Z "key",.Lambda i P η Ψ,ω⟩] a.env)).any (·.1.isNone)=L:=by lk)(p:(RM w (Rc [⟨Z "key",.Lambda i P η Ψ,ω⟩] a.env)).filterMap (·.1)=[b_ "key"]:=by lk):FE a (.Call (.Name "sorted" o) [g] [⟨Z "key",.Lambda i P η Ψ,ω⟩] w) (ß (vD (HF 1 y)) ε):=BK hT hC hB hr (QP hk) hg (hM.no hm) ha (yC hs) (QM I) (QM I) hb t r m hq he j n q p
def Mw(b:B)(q:Str)(K:d_)(F:Ï)(n:Nat):Sp:=λa H Q E=>Ĝ b q H/\ũ K F n a H Q E
def BM(P:n_)(w:w_)(K:d_)(d:Str->Option D)(a:J_)(g:B)(q:Str)(x:Str)(k:Nat)(b:List Str)(F:Ï):Prop:=∃f e,è P w K d a (ĥ P w) k f e b (Mw g q K F b.length)/\d x=Z (.ref f)/\Rr K (.ref f)=U/\ë K e b []
structure yJ(P:n_)(w:w_)(K:d_)(mg:Str->Option D)(base:J_)(Pt:B)(q:Str)(T:bL):Prop where h:∀x e,T.lookup x=Z e->BM P w K mg base Pt q x e.1 e.2.1 e.2.2
theorem BN:yJ p m u Α I e b []:=⟨λ_ _ h=>by cases h⟩
theorem qD{T:bL}(h:BM p m u Α I e b i d z ψ)(t:yJ p m u Α I e b T):yJ p m u Α I e b ((i,d,z,ψ)::T):=⟨λx f a=>by
 rcases fD a with⟨rfl,rfl⟩|a;·exact h
 ·exact t.h x f a⟩
theorem yK{CT:D->Prop}(N t:List Str)(w:Ö)(hF:ψ=dL N.length w)(hn:r=t.length)(Fn:ġ u i θ τ v Â)(S:dO N t (ah τ))(z:CT Â.code)(hb:∀(n:D)(A:xy)(k:List Env)(s:g_)(H:Hp)(E:XK),CT n->Ĝ e b H->Ø d (A.deeper (Sq θ (ah τ) s.heap.objs.size v n))->ć (kq (ĥ p m) p m u Α I N θ (ah τ) v n A k s H E) (bB τ) w):è p m u Α I (ĥ p m) (d+1) v Â t (Mw e b u ψ r):=by
 subst hF hn;obtain⟨oc,od,kV,c',pm,an,n,ct,b',rfl,lk,P⟩:=Fn.ex;refine vf lk P S (λvs H Q E h=>?_) λA k s H vs Q E hr h=>?_;·obtain⟨_,o,a,hl,_⟩:=h;rw[a.length,hl]
 ·obtain⟨ht,o,a,hl,b⟩:=h;refine⟨_,(hb n A k s H E z ht hr).h,o.map Z++L_ (N.length-o.length) Y,dH a,?_⟩;unfold dL at b;match q:w (o.map Z++L_ (N.length-o.length) Y)with|none=>rw[q]at b;exact b.elim|some (.exc c)=>rw[q]at b;exact EQ b|some (.rt j)=>rw[q]at b;exactλg y f r'=>b g y f r'|some (.nx ρ)=>rw[q]at b;exactλa' y f _=>b .non y f rfl
theorem uF{q:D->Prop}(y:u.In É)(z:É.Ns z_ Α)(N g:List Str)(h:Ö)(A:Af u i τ v)(n:Ku i τ g)(k:∀o,ġ u i i τ v o->q o.code)(t:∀(a:D)(A:xy)(f:List Env)(s:g_)(H:Hp)(E:XK),q a->Ĝ e b H->Ø d (A.deeper (Sq i (ah τ) s.heap.objs.size v a))->ć (kq (ĥ p m) p m u Α I N i (ah τ) v a A f s H E) (bB τ) h)(w:ψ=dL N.length h:=by lk)(r:Ŋ N g (ah τ)=U:=by lk):BM p m u Α I e b i (d+1) g ψ:=let⟨_,j⟩:=A.F;⟨_,_,yK N g h w rfl j (yC r) (k _ j) t,SQ y z A.a,A.k,j.binds n⟩
theorem vG(k:Nat)(q:List Str)(F:Ï)(h:BM a.prog a.w a.K a.mg a.base e b i k q F)(hT:Ĝ e b a.H₀)(hr:Ø d a.A)(hk:k<=d)(P:a.ex=[])(hg:Gl a i)(ha:FA a (g::t) ε)(hn:r=q.length:=by lk)(a':(i==("__debug__":Str))=L:=by lk)(he:k_ (g::t) a.env=(L,eval g a.env)::k_ t a.env:=by lk)(z:(O_ w (k_ t a.env)).any (·.1)=L:=by lk):FE a (.Call (.Name i o) (g::t) [] w) (av F r ε):=by
 subst hn;obtain⟨f,fd,G,hm,A,hb⟩:=h;refine⟨λj' s σ H Q I⟨ρ,E,j⟩=>lI (G.mono hk) hr hg hm A hb .nil (vp P) ha.h a' he z j' s σ H Q I ⟨ρ,E,ä.bind j λy vs H' g rs p=>?_⟩⟩;show Mw e b a.K F q.length (vs++[]) H' Q (EX a);rw[RB];refine⟨(hT.now I).mono g,?_⟩;by_cases u:y.length=q.length
 ·rw[if_pos u]at p;refine⟨y,rs,u,?_⟩;match v:F y with|none=>rw[v]at p;exact p.elim|some (.ok n)=>rw[v]at p;exact p|some (.exc c)=>rw[v]at p;exactλm H1 hC e1=>⟨c,m,rfl,hC,XW.mono p e1⟩
 ·rw[if_neg u]at p;exact p.elim
theorem nJ{T:bL}(y:yJ a.prog a.w a.K a.mg a.base e b T)(z:Ĝ e b a.H₀)(p:Ø d a.A)(h:(T.lookup i).map (λb=>b.2.2)=Z ψ)(m:a.ex=[])(v:FA a (g::t) ε)(f:((T.lookup i).all λb=>TM b.1 d&&SO r b.2.1.length)=U:=by lk)(q:a.env.kindOf i=Z .globalImplicit:=by lk)(n:(i==("__debug__":Str))=L:=by lk)(u:k_ (g::t) a.env=(L,eval g a.env)::k_ t a.env:=by lk)(k:(O_ w (k_ t a.env)).any (·.1)=L:=by lk):FE a (.Call (.Name i o) (g::t) [] w) (av ψ r ε):=by cases j:T.lookup i with|none=>rw[j]at h;cases h|some b=>rw[j]at h f;cases h;rw[Sa,p_]at f;exact vG b.1 b.2.1 b.2.2 (y.h i b j) z p (QP f.1) m q v (QM f.2) n u k
open PySem.W
theorem FE.weak(h:FE a g y)(f:∀b,È b=Y\/È b=y b):FE a g È:=⟨λe s d H Q I⟨b,E,o⟩=>h.h e s d H Q I ⟨b,E,by
 rcases f b with z|z;·rw[z]at o;exact o.elim
 ·rw[z]at o;exact o⟩⟩
theorem yL(F:Ï)(n:Nat)(g:Û)(b:Ev):ae F n g b=Y\/ae F n g b=av F n g b:=by unfold ae av;match g b with
 |none=>exact .inl rfl|some (.exc c)=>exact .inr rfl|some (.ok a)=>
 by_cases h:a.length=n;·match e:F a with|none=>exact .inl (by show(if a.length=n then _ else Y)=Y;rw[if_pos h,e])|some (.exc c)=>exact .inl (by show(if a.length=n then _ else Y)=Y;rw[if_pos h,e])|some (.ok d)=>exact .inr (by show(if a.length=n then _ else Y)=(if a.length=n then F a else Y);rw[if_pos h,if_pos h,e])
 ·exact .inl (by show(if a.length=n then _ else Y)=Y;rw[if_neg h])
theorem FE.callN(h:FE a g (av ψ d ε)):FE a g (ae ψ d ε):=h.weak (yL ψ d ε)
theorem N3:jR (ĥ a.prog a.w) a E0:=by intro j g H s m i I⟨e,f,n,k,os,b,un,d,F,h⟩;exact h.elim
theorem yM(k:Nat)(m:List Str)(F:Ï)(h:JF a.prog a.w a.K a.mg a.base b k m F)(P:Ø d a.A)(hk:k<=d)(hg:Gl a b)(ha:FA a (g::t) ε)(hn:r=m.length:=by lk)(y:(b==("__debug__":Str))=L:=by lk)(he:k_ (g::t) a.env=(L,eval g a.env)::k_ t a.env:=by lk)(u:(O_ w (k_ t a.env)).any (·.1)=L:=by lk):FE a (.Call (.Name b o) (g::t) [] w) (ae F r ε):=by
 subst hn;obtain⟨f,fd,G,hm,v,hb⟩:=h;refine dg (lI (G.mono hk) P hg hm v hb .nil N3 ha.h y he u) λσ H Q z E e=>⟨z,E,ä.bind e λq A H' g I j=>?_⟩;show ũ a.K F m.length (A++[]) H' Q E0;rw[RB];by_cases n:q.length=m.length
 ·rw[if_pos n]at j;refine⟨q,I,n,?_⟩;match p:F q with|none=>rw[p]at j;exact j.elim|some (.ok i)=>rw[p]at j;exact j|some (.exc c)=>rw[p]at j;exact j.elim
 ·rw[if_neg n]at j;exact j.elim
theorem yN{T:bL}(u:î a.prog a.w a.K a.mg a.base T)(k:Ø d a.A)(f:(T.lookup b).map (λq=>q.2.2)=Z ψ)(p:FA a (g::t) ε)(e:((T.lookup b).all λq=>TM q.1 d&&SO r q.2.1.length)=U:=by lk)(m:a.env.kindOf b=Z .globalImplicit:=by lk)(j:(b==("__debug__":Str))=L:=by lk)(n:k_ (g::t) a.env=(L,eval g a.env)::k_ t a.env:=by lk)(i:(O_ w (k_ t a.env)).any (·.1)=L:=by lk):FE a (.Call (.Name b o) (g::t) [] w) (ae ψ r ε):=by cases h:T.lookup b with|none=>rw[h]at f;cases f|some q=>rw[h]at f e;cases f;rw[Sa,p_]at e;exact yM q.1 q.2.1 q.2.2 (u.h b q h) k (QP e.1) m p (QM e.2) j n i
theorem vH(r:Ø d E):(E.mark (Z Ε)).units+64<cLine:=r.units
structure CK(K:d_)(k:Nat)(C:B):Prop where
 n:Rq K z_ (Ľ k)=Z (Z (.ref C))c:Ş K C
 a:∀f∈Ď k,ĉ K C f
theorem uG{o:Type}:∀{a:List Str}{d:List o}{j:Nat}{f:Str}{v:o},a.Nodup->a[j]?=Z f->d[j]?=Z v->(a.zip d).lookup f=Z v
 |[],_,_,_,_,_,h,_=>by simp at h|n::a,[],j,f,v,_,_,h=>by simp at h|n::a,u::d,0,f,v,k,i,g=>by simp at i g;subst i g;simp[TN,Q9]|n::a,u::d,j+1,f,v,k,i,g=>by
  have b:a[j]?=Z f:=by simpa using i
  have m:(f==n)=L:=beq_eq_false_iff_ne.mpr λe=>by subst e;exact(Sb.mp k).1 (Q0 b)
  rw[TN,Q9,m];exact uG (Sb.mp k).2 b (by simpa using g)
theorem iL{g:Type}:∀{a:List Str}{d:List g}{f:Str},f∉a->(a.zip d).lookup f=Y|[],_,_,_=>by simp|n::a,[],_,_=>by simp|n::a,u::d,f,h=>by have b:(f==n)=L:=beq_eq_false_iff_ne.mpr λe=>h (e▸q_);rw[TN,Q9,b];exact iL λz=>h (on _ z)
theorem DG:∀k,(Ď k).Nodup:=by intro k;unfold Ď;split<;>decide
noncomputable def kJ(k j:Nat):N->Option (Rs N)|.obj a b=>if a=k then(match b[j]? with|some d=>Z (.ok d)|none=>Y)else Y|_=>Y
theorem vI(c:CK u d e)(h:Rq u z_ (Ľ d)=Z (Z (.ref v))):v=e:=by have:=c.n.symm.trans h;simp at this;exact this.symm
theorem KC(c:CK a.K d e)(z:(Ď d)[r]?=Z b)(P:FE a g y)(hb:Rx g b a.env (eval g a.env)=eval g a.env:=by lk):FE a (.Attribute g b o) (f1 (kJ d r) y):=dg (Il P.h hb) λσ H Q I E g=>⟨I,E,ê.bind g λf v p e1 i t=>by cases f with
 |obj m A=>
 have k:ê a p (if m=d then(match A[r]? with|some f=>Z (.ok f)|none=>Y)else Y) Q:=t;by_cases w:m=d;·subst w;rw[if_pos rfl]at k;obtain⟨j,C',dx,vs,rfl,h,hn,q,l⟩:=i.objE;cases n:A[r]? with|none=>rw[n]at k;exact k.elim|some f=>rw[n]at k;obtain⟨u,h1,h2⟩:=q.get' n;rw[vI c hn]at h;exact⟨j,e,dx,_,u,rfl,h,c.c,c.a b (Q0 z),uG (DG m) z h1,k u p (.refl p) h2⟩
 ·rw[if_neg w]at k;exact k.elim|_=>exact t.elim⟩
def MC(X:C)(o:u_)(m:Str)(e:List u_)(b a:Pos)(g:Sem Bool):Prop:=eval (.Call (.Attribute o m b) e [] a) X.env=(do
 let d<-eval o X.env
 XD b.atName let(f,first)<-Um [d] (XE d m g)callWith a f first (O_ a (k_ e X.env)) (RM a (Rc [] X.env)))
noncomputable def Ę(k:Nat):N->Bool|.obj a _=>a==k|_=>L
def gq(k:Nat)(F:Ï)(n:Nat)(d:Ò)(g:Û):Ò:=λa=>Ù (d a) λx=>if Ę k x=U then Ù (g a) λb=>(if b.length=n then F (x::b)else Y)else Y
structure DH(P:n_)(w:w_)(K:d_)(mg:Str->Option D)(base:J_)(k:Nat)(C:B)(m:Str)(lv n:Nat)(F:Ï):Prop where
 c:CK K k C
 h:m∉Ď k
 f:∃f fd ps,CZ K C m f/\è P w K mg base (ĥ P w) lv f fd ps (ũ K F (n+1))/\ë K fd ps []
theorem nK(h:Ę d j=U):∃a,j=.obj d a:=by cases j<;>simp[Ę]at h;subst h;exact⟨_,rfl⟩
theorem yO(g:DH a.prog a.w a.K a.mg a.base d e b Β r ψ)(o:Ę d j=U)(i:Ó a.K h j Κ):∃f k fs,Κ=.ref f/\h f=Z (.ins e k fs)/\fs.lookup b=Y:=by obtain⟨t,rfl⟩:=nK o;obtain⟨f,u,k,p,rfl,m,n,q,l⟩:=i.objE;rw[vI g.c n]at m;exact⟨f,k,_,rfl,m,iL g.h⟩
theorem F4{p:Nat}{pl:Sem Bool}(h:DH a.prog a.w a.K a.mg a.base d e b Β r ψ)(hr:Ø p a.A)(hk:Β<=p)(b':a.ex=[])(ho:FE a g y)(ha:FA a (P::t) ε)(ht:MC a g b (P::t) w o pl)(he:k_ (P::t) a.env=(L,eval P a.env)::k_ t a.env:=by lk)(a':(O_ o (k_ t a.env)).any (·.1)=L:=by lk):FE a (.Call (.Attribute g b w) (P::t) [] o) (gq d ψ r y ε):=by
 obtain⟨f,fd,ps,hm,G,hb⟩:=h.f;refine dg (wK (p:=pl) ho.h h.c.c hm (G.mono hk) hr hb .nil (vp b') ha.h he a' ht) λσ H Q ρ E g=>⟨ρ,E,ê.bind g λi v H1 A j q=>?_⟩;by_cases u:Ę d i=U
 · rw[if_pos u]at q;obtain⟨k,dx,fs,rfl,hh,hl⟩:=yO h u j;refine⟨k,dx,fs,rfl,hh,hl,ρ,E.mono A,ä.bind q λI vs H2 e2 rs m=>?_⟩;show ũ a.K ψ (r+1) (.ref k::(vs++[])) H2 Q (EX a);rw[RB];by_cases n:I.length=r
   ·rw[if_pos n]at m;refine⟨i::I,.cons (Ó.mono e2 i _ j) rs,by rw[Q1,n],?_⟩;match z:ψ (i::I)with|none=>rw[z]at m;exact m.elim|some (.ok i)=>rw[z]at m;exact m|some (.exc c)=>rw[z]at m;exactλe H1 hC A=>⟨c,e,rfl,hC,XW.mono m A⟩
   ·rw[if_neg n]at m;exact m.elim
 ·rw[if_neg u]at q;exact q.elim
theorem BO{z:Sem Bool}(h:DH a.prog a.w a.K a.mg a.base d e b r 0 ψ)(hr:Ø Β a.A)(hk:r<=Β)(u:a.ex=[])(ho:FE a g y)(P:MC a g b [] w o z):FE a (.Call (.Attribute g b w) [] [] o) (gq d ψ 0 y cM):=by
 obtain⟨f,fd,ps,hm,G,hb⟩:=h.f;refine dg (Ax (k:=z) ho.h h.c.c hm (G.mono hk) hr hb .nil (vp u) P) λσ H Q I E g=>⟨I,E,ê.bind g λi v t A j n=>?_⟩;by_cases p:Ę d i=U
 ·rw[if_pos p]at n;obtain⟨k,dx,fs,rfl,hh,hl⟩:=yO h p j;have m:ê a t (ψ [i]) Q:=n;refine⟨k,dx,fs,rfl,hh,hl,?_⟩;show ũ a.K ψ 1 [.ref k] t Q (EX a);refine⟨[i],.cons j .nil,rfl,?_⟩;match q:ψ [i]with|none=>rw[q]at m;exact m.elim|some (.ok i)=>rw[q]at m;exact m|some (.exc c)=>rw[q]at m;exactλe t hC A=>⟨c,e,rfl,hC,XW.mono m A⟩
 ·rw[if_neg p]at n;exact n.elim
def í(a:B)(H d:Hp):Prop:=∀b u,b≠a->H b=Z u->d b=Z u
theorem í.of(d:Í h Ζ):í e h Ζ:=λb u _ a=>d b u a
theorem í.trans{f:Hp}(d:í e h Ζ)(g:í e Ζ f):í e h f:=λb u n a=>g b u n (d b u n a)
mutual
def Ă:N->Bool|.obj _ _=>L|.tup a=>ù a|.lst a=>ù a|_=>U
def ù:List N->Bool|[]=>U|d::a=>Ă d&&ù a
end
mutual
theorem Ó.but{K:d_}{H m:Hp}{a:B}{C p:B}{fs:List (Str×V)}(g:H a=Z (.ins C p fs))(e:í a H m):∀(d:N)(v:V),Ă d=U->Ó K H d v->Ó K m d v
 |.non,_,_,h=>h|.bl _,_,_,h=>h|.int _,_,_,h=>h|.str _,_,_,h=>h|.tup f,v,i,h=>by obtain⟨b,j,r,h,q⟩:=h.tupE;exact⟨b,j,r,e _ _ (An h g (by simp)) h,O.but g e f j (by simpa[Ă]using i) q⟩|.lst f,v,i,h=>by obtain⟨b,j,r,h,q⟩:=h.lstE;exact⟨b,j,r,e _ _ (An h g (by simp)) h,O.but g e f j (by simpa[Ă]using i) q⟩|.scr w,v,_,h=>by obtain⟨b,r,h⟩:∃b,v=.ref b/\ţ K H b (w.map V.int):=h;exact⟨b,r,h.imp (λ⟨o,h⟩=>⟨o,e _ _ (An h g (by simp)) h⟩) id⟩|.exn c,v,_,h=>by obtain⟨b,o,u,y,r,h,q⟩:=h.exnE;exact⟨b,o,u,y,r,e _ _ (An h g (by simp)) h,q⟩|.obj _ _,_,i,_=>by simp[Ă]at i
theorem O.but{K:d_}{H m:Hp}{a:B}{C p:B}{fs:List (Str×V)}(g:H a=Z (.ins C p fs))(e:í a H m):∀(f:List N)(n:List V),ù f=U->O K H f n->O K m f n
 |[],_,_,h=>h|d::f,n,i,h=>by
  obtain⟨v,k,r,h,q⟩:∃v k,n=v::k/\Ó K H d v/\O K H f k:=h;have t:Ă d=U/\ù f=U:=by simpa[ù]using i
  exact⟨v,k,r,Ó.but g e d v t.1 h,O.but g e f k t.2 q⟩end
noncomputable def ň(i:Nat)(a:Ev):Bool:=(rl a.length).all λj=>j==i||(match a[j]? with|some (Z d)=>Ă d|_=>U)
theorem KD(h:ň d H=U)(a:H[r]?=Z (Z j))(b:r≠d):Ă j=U:=by have e:=(D_.mp a).1;have:=Q2.mp h r (Rt.mpr e);rw[a]at this;simpa[b]using this
theorem uH{w:List (Str×V)}(E:Ú u h Λ H)(o:ň d H=U)(m:Λ[d]?=Z (Z (.ref e)))(p:h e=Z (.ins v Ι w))(i:í e h Ζ)(r:Ó u Ζ j (.ref e)):Ú u Ζ Λ (H.set d (Z j)):=by
 refine⟨by rw[Q5];exact E.len,λf g a=>?_⟩;by_cases k:d=f
 · subst k;have n:d<H.length:=by rw[<-E.len];exact(D_.mp m).1
   rw[QH n]at a;cases a;exact⟨_,m,r⟩
 ·rw[I_ k]at a;obtain⟨b,t,q⟩:=E.at' f g a;exact⟨b,t,Ó.but p i g b (KD o a (SM k)) q⟩
inductive Ŷ where|nx(ρ:Ev)|rt(d o:N)|exc(c:Nat)
abbrev ò:=Ev->Option Ŷ
def ą(X:C)(i:Nat)(a:B)(H:Hp)(r:Option Ŷ)(D:mI):Prop:=match r with|none=>False|some (.exc c)=>XW X c H|some (.nx f)=>∀e b,í a H b->e[i]?=Z (Z (.ref a))->Ú X.K b e f->D.nx e b|some (.rt d o)=>∀v b,í a H b->Ó X.K b d v->Ó X.K b o (.ref a)->D.rt v b
def tCh(X:C)(i:Nat)(f:ò):TS:=λD b H=>∃d a,Ú X.K H b d/\b[i]?=Z (Z (.ref a))/\ą X i a H (f d) D
structure Ē(X:C)(i:Nat)(sts:List Re)(f:ò):Prop where h:ķ X sts (tCh X i f)
noncomputable def nox(r:Option Ŷ):Option Ŷ:=match r with|some (.exc _)=>Y|r=>r
theorem ą.later{r:Option Ŷ}{D:mI}(f:í e h Ζ)(b:ą a d e h (nox r) D):ą a d e Ζ r D:=by match r,b with|none,b=>exact b|some (.exc c),b=>exact b.elim|some (.nx q),b=>exactλk j i p E=>b k j (f.trans i) p E|some (.rt g o),b=>exactλv j i n m=>b v j (f.trans i) n m
theorem ą.mono{r:Option Ŷ}{D:mI}(f:Í h Ζ)(b:ą a d e h r D):ą a d e Ζ r D:=by match r,b with|none,b=>exact b|some (.exc c),b=>exact XW.mono b f|some (.nx q),b=>exactλk j i p E=>b k j ((í.of f).trans i) p E|some (.rt g o),b=>exactλv j i n m=>b v j ((í.of f).trans i) n m
noncomputable def cNx:ò:=λa=>Z (.nx a)
noncomputable def Ad(i j:Nat)(f:Ò)(g:ò):ò:=λa=>match f a with|none=>Y|some (.exc c)=>Z (.exc c)|some (.ok d)=>if j=i then Y else g (a.set j (Z d))
noncomputable def mO(f:Ò)(g:ò):ò:=λa=>match f a with|none=>Y|some (.exc c)=>Z (.exc c)|some (.ok _)=>g a
noncomputable def qE(i:Nat)(f:Ò):ò:=λa=>match f a,a[i]? with|some (.exc c),_=>Z (.exc c)|some (.ok d),Z (Z o)=>Z (.rt d o)|_,_=>Y
noncomputable def ź(c:ã)(f:ò)(g:ò):ò:=λa=>match c a with|none=>Y|some (.exc c)=>Z (.exc c)|some (.ok U)=>f a|some (.ok L)=>g a
noncomputable def ZB:N->Bool|.obj _ a=>ù a|_=>L
def N4(j:Nat)(d:N):N->Option N|.obj k a=>if j<a.length then Z (.obj k (a.set j d))else if j=a.length/\a.length<(Ď k).length then Z (.obj k (a++[d]))else Y|_=>Y
def wa(i k j:Nat)(f:Ò)(g:ò):ò:=λa=>match f a,a[i]? with|some (.exc c),_=>Z (.exc c)|some (.ok d),Z (Z o)=>if Ă d=U/\Ę k o=U/\ň i a=U/\ZB o=U then(match N4 j d o with|some b=>nox (g (a.set i (Z b)))|none=>Y)else Y|_,_=>Y
theorem uI{y:V}:∀{a:List Str}{vs:List V}{j:Nat}{f:Str},a.Nodup->a[j]?=Z f->j<=vs.length->vs.length<=a.length->lf f y (a.zip vs)=a.zip (if j<vs.length then vs.set j y else vs++[y])
 |[],_,_,_,_,h,_,_=>by simp at h|n::a,[],j,f,_,h,d,_=>by
  have:j=0:=by simpa using d
  subst this;simp at h;subst h;simp[lf]|n::a,u::vs,0,f,_,h,_,_=>by simp at h;subst h;simp[lf]|n::a,u::vs,j+1,f,i,h,d,o=>by
  have k:a[j]?=Z f:=by simpa using h
  have g:n≠f:=λe=>(Sb.mp i).1 (e▸Q0 k);have m:=uI (y:=y) (vs:=vs) (Sb.mp i).2 k (by simpa using d) (by simpa using o);rw[TN];show(if n=f then(n,y)::a.zip vs else(n,u)::lf f y (a.zip vs))=_;rw[if_neg g,m];by_cases b:j<vs.length;·rw[if_pos b,if_pos (by simpa using b)];simp
  ·rw[if_neg b,if_neg (by simpa using b)];simp
theorem F5:Ē a d [] cNx:=⟨λf s e H D I⟨h,b,E,g,o⟩=>lB f s e H D I (o e H (.of (.refl H)) g E)⟩
variable{Ç:ò}
theorem F6(hN:a.N.Nodup)(A:a.N[r]?=Z b)(t:Ļ a.env.scope b)(he:FE a g y)(z:Ē a d Ξ Ç)(u:Q8 g (Z (.Name b w)) o.line a.env=pure L:=by lk)(hf:a.fn b=U\/a.env.scope.names.lookup b=Z .local:=by first|exact .inl rfl|exact .inr rfl|assumption):Ē a d (.Assign [.Name b w] g o::Ξ) (Ad d r y Ç):=⟨λq s p H D I⟨k,i,E,P,e⟩=>by refine cL (mY hN A t he.h u hf) z.h q s p H D I ⟨k,E,?_⟩;unfold Ad at e;match m:y k with
 |none=>rw[m]at e;exact e.elim|some (.exc c)=>rw[m]at e;exact e|some (.ok h)=>
 rw[m]at e;dsimp only at e;by_cases j:r=d;·rw[if_pos j]at e;exact e.elim
 ·rw[if_neg j]at e;exactλv H1 n f=>⟨k.set r (Z h),i,(E.mono n).set f,by rw[I_ j];exact P,ą.mono n e⟩⟩
theorem BP(t:FE a g y)(p:Ē a d Ξ Ç)(n:Q8 g Y o.line a.env=pure L:=by lk):Ē a d (.Expr g o::Ξ) (mO y Ç):=⟨λm s k H D I⟨h,e,E,q,b⟩=>by refine cL (lC t.h n) p.h m s k H D I ⟨h,E,?_⟩;unfold mO at b;match i:y h with|none=>rw[i]at b;exact b.elim|some (.exc c)=>rw[i]at b;exact b|some (.ok f)=>rw[i]at b;exactλv u j r=>⟨h,e,E.mono j,q,ą.mono j b⟩⟩
theorem F7(w:FE a g y):Ē a d [.Return (Z g) o] (qE d y):=⟨λq s n H D I⟨i,f,E,t,b⟩=>by refine ku (pJ w.h) q s n H D I ⟨i,E,?_⟩;unfold qE at b;match j:y i with|none=>rw[j]at b;exact b.elim|some (.exc c)=>rw[j]at b;exact b|some (.ok e)=>rw[j]at b;match h:i[d]? with|some (Z p)=>rw[h]at b;obtain⟨u,k,z⟩:=E.at' d p h;rw[t]at k;cases k;exactλv A m r=>b v A (.of m) r (Ó.mono m _ _ z)|none=>rw[h]at b;exact b.elim|some Y=>rw[h]at b;exact b.elim⟩
theorem F8(c:CK a.K Β e)(f':(Ď Β)[r]?=Z i)(ho:PE a (.Name b ω) (mJ d))(he:FE a g y)(hr:Ē a d Ξ Ç)(hs:Q8 g (Z (.Attribute (.Name b ω) i w)) o.line a.env=pure L:=by lk):Ē a d (.Assign [.Attribute (.Name b ω) i w] g o::Ξ) (wa d Β r y Ç):=⟨λj' s σ H D I⟨ρ,h,E,hi,f⟩=>by refine cL (Im ho he.h hs) hr.h j' s σ H D I ⟨ρ,E,?_⟩;unfold wa at f;match hq:y ρ with
 |none=>rw[hq]at f;exact f.elim|some (.exc c)=>rw[hq]at f;exact f|some (.ok k)=>rw[hq]at f;match A:ρ[d]? with
 |none=>rw[A]at f;exact f.elim|some Y=>rw[A]at f;exact f.elim|some (Z ob)=>
 rw[A]at f;dsimp only at f;by_cases p:Ă k=U/\Ę Β ob=U/\ň d ρ=U/\ZB ob=U
 · rw[if_pos p]at f;obtain⟨m',i',p',l'⟩:=p;obtain⟨t,rfl⟩:=nK i';intro j H1 e1 ry;refine⟨_,hi,?_⟩;obtain⟨u,h1,h2⟩:=E.at' d _ A;rw[hi]at h1;cases h1;obtain⟨a',C',dx,q,ea,hh,hn,rs,hl⟩:=h2.objE;cases ea;rw[vI c hn]at hh;have P:=e1 _ _ hh;have lv:=rs.length;refine⟨h,e,dx,_,rfl,P,c.c,c.a i (Q0 f'),?_,?_⟩
   · have:(Ď Β).length<1000:=by unfold Ď;split<;>decide
     rw[List.length_zip];omega
   ·match hp:N4 r k (.obj Β t)with
     |none=>rw[hp]at f;exact f.elim|some o'=>
     rw[hp]at f;have h':=O.mono e1 t q rs;have eB:í h H1 (Ý H1 h (.ins e dx (lf i j ((Ď Β).zip q)))):=λm u nb hb=>by rw[ay nb];exact hb
     have c':=Ó.but P eB k j m' ry;have d':=O.but P eB t q (show ù t=U from l') h';have g':r<=q.length->∀n,(if r<q.length then n=t.set r k else n=t++[k])->n.length<=(Ď Β).length->Ó a.K (Ý H1 h (.ins e dx (lf i j ((Ď Β).zip q)))) (.obj Β n) (.ref h):=λe' n b' n'=>by
      refine⟨h,e,dx,(if r<q.length then q.set r j else q++[j]),rfl,?_,c.n,?_,n'⟩;·rw[aw,uI (DG Β) f' e' (by omega)]
      · split at b';·rename_i z;rw[if_pos z,b'];exact O.set c' r d'
        ·rename_i z;rw[if_neg z,b'];exact d'.append (.cons c' .nil)
     have go:∀n,o'=.obj Β n->Ó a.K (Ý H1 h (.ins e dx (lf i j ((Ď Β).zip q)))) (.obj Β n) (.ref h)->tCh a d Ç D σ (Ý H1 h (.ins e dx (lf i j ((Ď Β).zip q)))):=λn k' rr=>by subst k';exact⟨ρ.set d (Z (.obj Β n)),h,uH (E.mono e1) p' hi P eB rr,hi,ą.later ((í.of e1).trans eB) f⟩
     have v:(if r<t.length then Z (N.obj Β (t.set r k))else if r=t.length/\t.length<(Ď Β).length then Z (.obj Β (t++[k]))else Y)=Z o':=hp;split at v;·rename_i z;cases v;refine go _ rfl (g' (by omega) _ (by rw[if_pos (by omega)]) (by rw[Q5];exact hl))
     · rename_i z;split at v;·rename_i e';cases v;refine go _ rfl (g' (by omega) _ (by rw[if_neg (by omega)]) (by rw[Ry];simp;omega))
       ·cases v
 ·rw[if_neg p]at f;exact f.elim⟩
inductive Đ where|ok(d o:N)|exc(c:Nat)
noncomputable def Ae(m:Nat)(e:ò):List N->Option Đ:=λa=>match e (a.map Z++L_ (m-a.length) Y)with|some (.nx b)=>(match b[0]? with|some (Z o)=>Z (.ok .non o)|_=>Y)|some (.rt d o)=>Z (.ok d o)|some (.exc c)=>Z (.exc c)|none=>Y
def Ů(K:d_)(F:List N->Option Đ)(n:Nat):Sp:=λf H Q E=>∃e a g,f=.ref a::g/\O K H e f/\e.length=n/\match F e with|some (.ok d o)=>∀v b,í a H b->Ó K b d v->Ó K b o (.ref a)->Q v b|some (.exc c)=>∀C b,Rq K z_ (ğ c)=Z (Z (.ref C))->Í H b->E (.ref C) Y b|none=>False
theorem DI{F:List N->Option Đ}(f ps:List Str)(fb:ò)(hF:F=Ae f.length fb)(hn:r=ps.length)(Fn:ġ u b i τ e Â)(S:dO f ps (ah τ))(hb:∀(w:D)(A:xy)(t:List Env)(s:g_)(H:Hp)(E:XK),Ø d (A.deeper (Sq i (ah τ) s.heap.objs.size e w))->Ē (kq (ĥ p m) p m u Α I f i (ah τ) e w A t s H E) 0 (bB τ) fb):è p m u Α I (ĥ p m) (d+1) e Â ps (Ů u F r):=by
 subst hF hn;obtain⟨oc,od,kV,d',pm,an,w,ct,c',rfl,lk,a'⟩:=Fn.ex;refine vf lk a' S (λvs H Q E h=>?_) λA t s H vs Q E hr h=>?_;·obtain⟨y,a,us,_,g,hl,_⟩:=h;rw[g.length,hl]
 · obtain⟨y,a,us,hv,g,hl,q⟩:=h;have E0:=dH (z:=f) g;have h0:(L2.start f vs)[0]?=Z (Z (.ref a)):=by rw[hv];rfl
   refine⟨_,(hb w A t s H E hr).h,y.map Z++L_ (f.length-y.length) Y,a,E0,h0,?_⟩;unfold Ae at q;match P:fb (y.map Z++L_ (f.length-y.length) Y)with|none=>rw[P]at q;exact q.elim|some (.exc c)=>rw[P]at q;exact EQ q|some (.rt n o)=>rw[P]at q;exactλv H' j r1 r2=>q v H' j r1 r2|some (.nx ρ)=>rw[P]at q;dsimp only at q;match z:ρ[0]? with|none=>rw[z]at q;exact q.elim|some Y=>rw[z]at q;exact q.elim|some (Z ob)=>rw[z]at q;refineλb' H' j hi E'=>q .non H' j rfl ?_;obtain⟨k,h1,h2⟩:=E'.at' 0 ob z;rw[hi]at h1;cases h1;exact h2
structure yP(P:n_)(w:w_)(K:d_)(mg:Str->Option D)(base:J_)(k:Nat)(C:B)(m:Str)(lv n:Nat)(F:List N->Option Đ):Prop where
 c:CK K k C
 h:m∉Ď k
 f:∃f fd ps,CZ K C m f/\è P w K mg base (ĥ P w) lv f fd ps (Ů K F (n+1))/\ë K fd ps []
def qF(i k:Nat)(F:List N->Option Đ)(n:Nat)(f:Û)(g:N->ò):ò:=λa=>match a[i]? with|some (Z o)=>if Ę k o=U/\ň i a=U then(match f a with|none=>Y|some (.exc c)=>Z (.exc c)|some (.ok b)=>if b.length=n then(match F (o::b)with|none=>Y|some (.exc c)=>Z (.exc c)|some (.ok d e)=>nox (g d (a.set i (Z e))))else Y)else Y|_=>Y
theorem yQ{lv:Nat}{F:List N->Option Đ}{g:N->ò}{D:mI}(j:yP a.prog a.w a.K a.mg a.base r e b lv Β F)(E:Ú a.K h Λ H)(z:Λ[d]?=Z (Z (.ref v)))(o:ą a d v h (qF d r F Β ε g H) D)(hQ:∀i q f w,Ó a.K w i f->Ú a.K w Λ (H.set d (Z q))->ą a d v w (g i (H.set d (Z q))) D->Ê f w):ve e b (Ů a.K F (Β+1)) [] (EX a) (mJ d) (tA a ε) Λ h Ê:=by unfold qF at o;match m:H[d]? with
 |none=>rw[m]at o;exact o.elim|some Y=>rw[m]at o;exact o.elim|some (Z ob)=>
 rw[m]at o;dsimp only at o;by_cases k:Ę r ob=U/\ň d H=U;·rw[if_pos k]at o;obtain⟨b',c'⟩:=k;obtain⟨p,rfl⟩:=nK b';obtain⟨u,h1,h2⟩:=E.at' d _ m;rw[z]at h1;cases h1;obtain⟨a',C',dx,d',ea,A,hn,e',f'⟩:=h2.objE;cases ea;rw[vI j.c hn]at A;refine⟨_,z,v,dx,_,rfl,A,iL j.h,H,E,?_⟩;match I:ε H with
 |none=>rw[I]at o;exact o.elim|some (.exc c)=>rw[I]at o;exact o|some (.ok ds)=>
  rw[I]at o;dsimp only at o;by_cases y:ds.length=Β
  ·rw[if_pos y]at o;intro us H2 n rs;show Ů a.K F (Β+1) (.ref v::(us++[])) H2 Ê (EX a);rw[RB];refine⟨.obj r p::ds,v,us,rfl,.cons (Ó.mono n _ _ h2) rs,by rw[Q1,y],?_⟩;match P:F (.obj r p::ds)with|none=>rw[P]at o;exact o.elim|some (.exc c)=>rw[P]at o;exactλe H3 hC t=>⟨c,e,rfl,hC,XW.mono o (n.trans t)⟩|some (.ok i q)=>rw[P]at o;dsimp only at o;intro f H3 t rd ro;exact hQ i q f H3 rd (uH (E.mono n) c' z (n _ _ A) t ro) (ą.later ((í.of n).trans t) o)
  ·rw[if_neg y]at o;exact o.elim
 ·rw[if_neg k]at o;exact o.elim
theorem Pg{p j:Nat}{F:List N->Option Đ}{n:Sem Bool}(h:yP a.prog a.w a.K a.mg a.base r e i p Β F)(u:Ø j a.A)(z:p<=j)(m:a.ex=[])(v:PE a (.Name b w) (mJ d))(H:FA a (g::t) ε)(q:MC a (.Name b w) i (g::t) o ω n)(A:k_ (g::t) a.env=(L,eval g a.env)::k_ t a.env)(k:(O_ ω (k_ t a.env)).any (·.1)=L):PE a (.Call (.Attribute (.Name b w) i o) (g::t) [] ω) (ve e i (Ů a.K F (Β+1)) [] (EX a) (mJ d) (tA a ε)):=by obtain⟨f,P,I,y,G,E⟩:=h.f;exact wK (p:=n) v h.c.c y (G.mono z) u E .nil (vp m) H.h A k q
theorem sr{n z:Nat}{F:List N->Option Đ}(h:yP a.prog a.w a.K a.mg a.base Β e i z n F)(hp:PE a g (ve e i (Ů a.K F (n+1)) [] (EX a) (mJ d) (tA a ε)))(hN:a.N.Nodup)(hj:a.N[r]?=Z b)(P:Ļ a.env.scope b)(p:r≠d)(hr:Ē a d Ξ Ç)(hs:Q8 g (Z (.Name b w)) o.line a.env=pure L)(hf:a.fn b=U):Ē a d (.Assign [.Name b w] g o::Ξ) (qF d Β F n ε λf m=>Ç (m.set r (Z f))):=⟨λA s t H D I⟨m,k,E,q,j⟩=>by refine cL (mY hN hj P hp hs (.inl hf)) hr.h A s t H D I ?_;exact yQ h E q j λf y v H' rd E' u=>⟨(m.set d (Z y)).set r (Z f),k,E'.set rd,by rw[I_ p];exact q,u⟩⟩
structure HG(P:n_)(w:w_)(K:d_)(mg:Str->Option D)(base:J_)(k:Nat)(C:B)(lv n:Nat)(F:List N->Option Đ):Prop where
 c:CK K k C
 g:mg (Ľ k)=Z (.ref C)f:∃f fd ps,Mk K C f/\è P w K mg base (ĥ P w) lv f fd ps (Ů K F (n+1))/\ë K fd ps []
noncomputable def vJ(i k:Nat)(F:List N->Option Đ)(n:Nat)(f:Û)(g:ò):Ö:=λb=>match f b with|none=>Y|some (.exc c)=>Z (.exc c)|some (.ok e)=>if e.length=n then(match F (.obj k []::e)with|none=>Y|some (.exc c)=>Z (.exc c)|some (.ok .non o)=>(match g (b.set i (Z o))with|some (.nx a)=>Z (.nx a)|some (.rt d _)=>Z (.rt d)|_=>Y)|some (.ok _ _)=>Y)else Y
theorem BQ{lv A:Nat}{F:List N->Option Đ}(h:HG a.prog a.w a.K a.mg a.base r e lv Β F)(b':Ø A a.A)(hk:lv+1<=A)(e':a.ex=[])(hg:Gl a (Ľ r))(z:FA a (g::t) ε)(hN:a.N.Nodup)(hi:a.N[d]?=Z b)(hx:Ļ a.env.scope b)(hr:Ē a d Ξ Ç)(g':(Ľ r==("__debug__":Str))=L)(he:k_ (g::t) a.env=(L,eval g a.env)::k_ t a.env)(c':(O_ Ψ (k_ t a.env)).any (·.1)=L)(hs:Q8 (.Call (.Name (Ľ r) ω) (g::t) [] Ψ) (Z (.Name b w)) o.line a.env=pure L)(hf:a.fn b=U):ć a (.Assign [.Name b w] (.Call (.Name (Ľ r) ω) (g::t) [] Ψ) o::Ξ) (vJ d r F Β ε Ç):=by
 obtain⟨f,fd,ps,M,G,n⟩:=h.f;refine⟨λj' s σ H D I⟨P,E,i⟩=>?_⟩;have d':d<σ.length:=by rw[I.len];exact(D_.mp hi).1
 refine cL (mY hN hi hx (Ed M G (b'.mono hk) hg h.g n .nil (vp e') z.h g' he c') hs (.inl hf)) hr.h j' s σ H D I ⟨P,E,?_⟩;unfold vJ at i;match y:ε P with
 |none=>rw[y]at i;exact i.elim|some (.exc c)=>rw[y]at i;exact i|some (.ok ds)=>
 rw[y]at i;dsimp only at i;by_cases hl:ds.length=Β
 · rw[if_pos hl]at i;intro us H1 e1 rs k dx z f' i';have e2:Í H1 (Ý (Ý H1 dx (.own k)) k (.ins e dx [])):=λj u n=>by rw[ay (au n z),ay (au n f')];exact n
   refine⟨.obj r []::ds,k,us++[],rfl,?_,by rw[Q1,hl],?_⟩;·rw[RB];exact .cons ⟨k,e,dx,[],rfl,by rw[aw];simp,h.c.n,rfl,QZ _⟩ (O.mono e2 ds us rs)
   ·match hF:F (.obj r []::ds)with
   |none=>rw[hF]at i;exact i.elim|some (.exc c)=>rw[hF]at i;exactλe H3 hC e3=>⟨c,e,rfl,hC,XW.mono i ((e1.trans e2).trans e3)⟩|some (.ok m ob)=>
   rw[hF]at i;intro v H3 e3 rd ro;have e4:Í H H3:=λj u n=>by have h1:=e1 j u n;exact e3 j u (au h1 z) (e2 j u h1)
   have e5:∀p,í k H3 p->Í H p:=λp g j u n=>g j u (au (e1 j u n) z) (e4 j u n);cases m with
   |non=>refine⟨rd,P.set d (Z ob),k,(E.mono e4).set ro,QH d',?_⟩;dsimp only at i;match q:Ç (P.set d (Z ob))with|none=>rw[q]at i;exact i.elim|some (.exc c)=>rw[q]at i;exact i.elim|some (.nx h')=>rw[q]at i;exactλa' p g k' E'=>i a' p (e5 p g) E'|some (.rt d2 o2)=>rw[q]at i;exactλv2 p g r1 r2=>i v2 p (e5 p g) r1
   |_=>exact i.elim
 ·rw[if_neg hl]at i;exact i.elim
def vK(i k:Nat)(F:List N->Option Đ)(n:Nat)(f:Û)(j:ã)(h:Ò)(e:N)(g:ò):ò:=λb=>match j b with|none=>Y|some (.exc c)=>Z (.exc c)|some (.ok U)=>qE i (fC e) b|some (.ok L)=>qF i k F n f (λd a=>if Ă d=U then(match h a with|some (.ok y)=>(match Ě d y with|some (.ok (.bl U))=>qE i (fC e) a|some (.ok (.bl L))=>g a|_=>Y)|_=>Y)else Y) b
theorem BR{lv:Nat}{k n:u_}{F:List N->Option Đ}(ha:FT a g Μ)(h:yP a.prog a.w a.K a.mg a.base r e b lv Β F)(hp:PE a P (ve e b (Ů a.K F (Β+1)) [] (EX a) (mJ d) (tA a ε)))(hb:FE a k y)(hd:FE a n (fC j))(hr:Ē a d Ξ Ç)(hu:a.A.units+64<cLine)(hm:QR .NotEq k=L):Ē a d (.If (.BoolOp .Or [g,.Compare P [.NotEq] [k] ω] w) [.Return (Z n) Ψ] [] o::Ξ) (vK d r F Β ε Μ y j Ç):=⟨λj' s σ H D I⟨ρ,ad,E,hi,f⟩=>by
 have hw:=HX (o:=w) ha.h (CU (wC (o:=ω) (Jl hu) hp hb.h hm));have f':PT a (.BoolOp .Or [g,.Compare P [.NotEq] [k] ω] w) _:=λj' s σ H Q I h=>hw _ j' s σ H Q I h;have e':∀{H':Hp}{A:Ev},í ad H H'->Ú a.K H' σ A->ą a d ad H' (qE d (fC j) A) D->OO (tF a (fC j)) D σ H':=λ{H' A}_ E' o'=>by unfold qE at o';match ho:A[d]? with|none=>rw[ho]at o';exact o'.elim|some Y=>rw[ho]at o';exact o'.elim|some (Z ob)=>rw[ho]at o';obtain⟨u,h1,h2⟩:=E'.at' d ob ho;rw[hi]at h1;cases h1;exact⟨A,E',λv H1 e1 rv=>o' v H1 (.of e1) rv (Ó.mono e1 _ _ h2)⟩
 refine cL (wp f' (ku (pJ hd.h)) lB) hr.h j' s σ H D I ⟨ρ,E,?_⟩;unfold vK at f;match a':Μ ρ with
 |none=>rw[a']at f;exact f.elim|some (.exc c)=>rw[a']at f;exact f|some (.ok U)=>rw[a']at f;intro H1 e1;refine wU ?_;exact(e' (.of e1) (E.mono e1) (ą.mono e1 f))|some (.ok L)=>
 rw[a']at f;intro H1 e1;refine wT ?_;refine yQ h (E.mono e1) hi (ą.mono e1 f) λi o' v H2 rd E2 q=>?_;by_cases hn:Ă i=U
 ·rw[if_pos hn]at q;refine⟨_,E2,?_⟩;match c':y (ρ.set d (Z o'))with
 |none=>rw[c']at q;exact q.elim|some (.exc c)=>rw[c']at q;exact q.elim|some (.ok m)=>rw[c']at q;dsimp only at q;intro u H3 e3 ry;refine Jn i m v u H3 _ (Ó.mono e3 i v rd) ry ?_;match b':Ě i m with|none=>rw[b']at q;exact q.elim|some (.exc c)=>rw[b']at q;exact q.elim|some (.ok z)=>rw[b']at q;cases z with
 |bl t=>intro p H4 e4 d';have E4:=E2.mono (e3.trans e4);cases t with
  |true=>refine⟨U,d',?_⟩;refine wU ?_;have o3:=ą.mono (e3.trans e4) q;unfold qE at o3;match ho:(ρ.set d (Z o'))[d]? with|none=>rw[ho]at o3;exact o3.elim|some Y=>rw[ho]at o3;exact o3.elim|some (Z ob)=>rw[ho]at o3;obtain⟨u5,h1,h2⟩:=E4.at' d ob ho;rw[hi]at h1;cases h1;exact⟨_,E4,λv5 H5 e5 rv=>o3 v5 H5 (.of e5) rv (Ó.mono e5 _ _ h2)⟩
  |false=>refine⟨L,d',?_⟩;refine wT ?_;exact⟨_,ad,E4,hi,ą.mono (e3.trans e4) q⟩
 |_=>exact q.elim
 ·rw[if_neg hn]at q;exact q.elim⟩
theorem yR(hc:FT a g Μ)(he:FE a P y)(A:Ē a d Ξ Ç):Ē a d (.If g [.Return (Z P) w] [] o::Ξ) (ź Μ (qE d y) Ç):=⟨λz s q H D I⟨i,ad,E,m,b⟩=>by refine cL (wp hc.h (ku (pJ he.h)) lB) A.h z s q H D I ⟨i,E,?_⟩;unfold ź at b;match f:Μ i with
 |none=>rw[f]at b;exact b.elim|some (.exc c)=>rw[f]at b;exact b|some (.ok U)=>rw[f]at b;intro H1 h;refine wU ?_;unfold qE at b;refine⟨i,E.mono h,?_⟩;match k:y i with|none=>rw[k]at b;exact b.elim|some (.exc c)=>rw[k]at b;exact XW.mono b h|some (.ok e)=>rw[k]at b;match j:i[d]? with|none=>rw[j]at b;exact b.elim|some Y=>rw[j]at b;exact b.elim|some (Z t)=>rw[j]at b;obtain⟨u,n,h2⟩:=E.at' d t j;rw[m]at n;cases n;exactλv H2 p r=>b v H2 (.of (h.trans p)) r (Ó.mono (h.trans p) _ _ h2)
 |some (.ok L)=>rw[f]at b;intro H1 h;refine wT ?_;exact⟨i,ad,E.mono h,m,ą.mono h b⟩⟩
def Ŀ(X:C)(i:List (B×Obj))(g:L2.St)(H:Hp)(r:Option Fl)(D:mI):Prop:=match r with|none=>False|some (.exc c)=>∀a f e,Í H a->Ì X i g a f->wV X a c e f->X.xe e f|some (.nx h)=>∀b a,Í H a->Ú X.K a b h->D.nx b a|some (.rt d)=>∀v a,Í H a->Ó X.K a d v->D.rt v a
theorem Ŀ.mono{r:Option Fl}{D:mI}(e:Í h Ζ)(b:Ŀ a ζ Λ h r D):Ŀ a ζ Λ Ζ r D:=by match r,b with|none,b=>exact b|some (.exc c),b=>exactλg j x f=>b g j x (e.trans f)|some (.nx k),b=>exactλi g f=>b i g (e.trans f)|some (.rt d),b=>exactλv g f=>b v g (e.trans f)
structure ſ(X:C)(sts:List Re)(f:Ö):Prop where h:∀(j':List (B×Obj))(s:g_)(σ:L2.St)(H:Hp)(D:mI),Ì X j' σ H s->(∃ρ,Ú X.K H σ ρ/\Ŀ X j' σ H (f ρ) D)->uk (x_ X.prog X.w) X.A (execs sts X.env) (SP X j' D) X.xe s
noncomputable def KF(r:Option (Rs Bool)):Option Bool:=match r with|some (.ok b)=>Z b|_=>Y
def Ń(c:ã)(f g:Ö):Ö:=λa=>match KF (c a)with|some U=>f a|some L=>g a|none=>Y
theorem oM{D:mI}(h:uk (x_ a.prog a.w) a.A (exec τ a.env) (SP a ζ D) a.xe f):uk (x_ a.prog a.w) a.A (execs [τ] a.env) (SP a ζ D) a.xe f:=by refine Wm (â h λd i q=>?_);cases d with|next=>obtain⟨b,g,e,q⟩:=q;exact Ux ⟨b,g,e,q⟩|brk=>exact q|cont=>exact q|ret u=>exact q
theorem N5{q:List Re}{f:Ö}(u:FT a g Μ)(w:ſ a Ξ Ο)(v:ſ a q f):ſ a [.If g Ξ q o] (Ń Μ Ο f):=⟨λm s k H D I⟨i,E,e⟩=>by
 refine oM (wpAny_If (â (u.h m s k H (λb j=>Í H j/\Μ i=Z (.ok b)) I ⟨i,E,?_⟩) λd n⟨j,r,h,t⟩=>?_))
 ·unfold Ń KF at e;match p:Μ i with|none=>rw[p]at e;exact e.elim|some (.exc c)=>rw[p]at e;exact e.elim|some (.ok b)=>exactλj h=>⟨h,rfl⟩
 ·unfold Ń at e;rw[t]at e;cases d with|true=>exact w.h m n k j D r ⟨i,E.mono h,Ŀ.mono h e⟩|false=>exact v.h m n k j D r ⟨i,E.mono h,Ŀ.mono h e⟩⟩
theorem yS{n:Ĵ}{m:Sp}{E:XK}(F:è a.prog a.w a.K a.mg a.base n d e Â z m)(p:Ø d a.A)(t:ë a.K Â z [])(o:∀b k,n a.stack h f E b k->a.xe b k)(I:Ì a ζ Λ h f)(r:Ð μ ξ)(g:m μ h Ê E):uk (x_ a.prog a.w) a.A (call (.ref e) ξ) (EP a ζ Λ Ê) a.xe f:=by
 have q:ξ.length=z.length:=by rw[<-r.length];exact F.len _ _ _ _ g
 have j:=t f ξ I.kIn (by rw[RB];exact q);rw[RB]at j;refine Ue (RT (F.run a.A a.stack f h ⟨ξ,[]⟩ ξ μ Ê E p I.env0 j r g) λr k i=>?_);cases r with|error b=>exact o b k i|ok v=>cases v with|ret u=>exact I.after i|next=>exact QN i|brk=>exact QN i|cont=>exact QN i
def EXc(K:d_)(c:Nat)(H:Hp):XK:=λa _ b=>∃C,a=.ref C/\nsIn K z_ (ğ c)=Z (Z (.ref C))/\Í H b
theorem KG{k:g_}(t:a.ex=[])(I:Ì a ζ Λ h f)(i:ĥ a.prog a.w a.stack h f (EXc a.K d Ζ) Ε k)(w:∀m k e,Í Ζ m->Ì a ζ Λ m k->wV a m d e k->a.xe e k):a.xe Ε k:=by
 obtain⟨e,P,m,A,os,n,un,r,F,j,u,hC,E⟩:=i;have H:Ì a ζ Λ m k:=I.call' (ch:=[]) os un r n λb z=>absurd z (by simp);refine w m k Ε E H ⟨e,j,A,hC,u▸F.imp λg v=>⟨?_,λp y z=>?_⟩⟩;·cases q:a.s₀.heap.get? g with|none=>rfl|some o=>obtain⟨o',z⟩:=I.base.there g o q (by rw[t];simp);rw[v]at z;cases z
 ·have:=(I.pin p (G_ _ y)).1;rw[z,v]at this;cases this
def jI(k:Nat)(F:Ï)(n:Nat)(d:Ò)(g:Û):Ö:=λa=>match d a,g a with|some (.ok x),Z (.ok b)=>if Ę k x=U/\b.length=n then(match F (x::b)with|some (.exc c)=>Z (.exc c)|_=>Y)else Y|_,_=>Y
theorem F9{q:Nat}{pl:Sem Bool}(h:DH a.prog a.w a.K a.mg a.base d e b Β r ψ)(hr:Ø q a.A)(hk:Β<=q)(c':a.ex=[])(ho:FE a g y)(ha:FA a (P::t) ε)(ht:MC a g b (P::t) w ω pl)(he:k_ (P::t) a.env=(L,eval P a.env)::k_ t a.env)(b':(O_ ω (k_ t a.env)).any (·.1)=L)(hs:Q8 (.Call (.Attribute g b w) (P::t) [] ω) Y o.line a.env=pure L):ſ a [.Expr (.Call (.Attribute g b w) (P::t) [] ω) o] (jI d ψ r y ε):=by obtain⟨f,fd,ps,hm,G,hb⟩:=h.f;refine⟨λj' s A H D I⟨ρ,E,m⟩=>oM ?_⟩;unfold jI at m;match n:y ρ,h2:ε ρ with
 |some (.ok x),Z (.ok ds)=>
 rw[n,h2]at m;dsimp only at m;by_cases hc:Ę d x=U/\ds.length=r
 ·rw[if_pos hc]at m;match hF:ψ (x::ds)with
 |none=>rw[hF]at m;exact m.elim|some (.ok k)=>rw[hF]at m;exact m.elim|some (.exc c)=>rw[hF]at m;have o2:∀H' s' P,Í H H'->Ì a j' A H' s'->wV a H' c P s'->a.xe P s':=m;refine Xg ?_ I.quiet hs;refine QX (S3 (Q:=EP a j' A λ_ _=>False) (pl:=pl) (â (ho.h j' s A H (λv p=>Í H p/\Ó a.K p x v) I ⟨ρ,E,by rw[n];exactλv p e1 j=>⟨e1,j⟩⟩) λu s1⟨v,p,I1,rv,e1,r1⟩=>?_) ht) (λu s9⟨_,_,_,_,z⟩=>z.elim) λ_ _ z=>z;obtain⟨i,dx,fs,rfl,hh,hl⟩:=yO h hc.1 r1;obtain rfl:u=y_ i:=rv;refine gE I1 hh h.c.c hm hl ?_;refine TH (first:=[.ref i]) (h₀:=a.base) I.ok.mod.kin hm.kp (â (ha.h ω j' s1 A p (λvs H2=>Í p H2/\O a.K H2 ds vs) I1 ⟨ρ,E.mono e1,by rw[h2];exactλvs H2 e2 j=>⟨e2,j⟩⟩) λus s2⟨vs,H2,I2,a',e2,rs⟩=>⟨I2.kIn,?_⟩) he b';refine yS (E:=EXc a.K c H) (ξ:=.ref i::us) (μ:=.ref i::vs) (G.mono hk) hr hb (λev s' z=>KG c' I2 z o2) I2 (.cons rfl a') ?_;refine⟨x::ds,.cons (Ó.mono e2 _ _ r1) rs,by rw[Q1,hc.2],?_⟩;rw[hF];exactλe H3 hC e3=>⟨e,rfl,hC,(e1.trans e2).trans e3⟩
 ·rw[if_neg hc]at m;exact m.elim|none,_=>rw[n]at m;exact m.elim|some (.exc c),_=>rw[n]at m;exact m.elim|some (.ok x),Y=>rw[n,h2]at m;exact m.elim|some (.ok x),Z (.exc c)=>rw[n,h2]at m;exact m.elim
noncomputable def yT(m:Nat)(f:Ö)(g:Ò):Ö:=λa=>match f a with|some (.exc c)=>if c<m then(match g a with|some (.ok d)=>Z (.rt d)|_=>Y)else Y|r=>r
theorem Ga(m:Nat)(a':a.ex=[])(n':a.stack=a.env::a.outer)(p':a.env.frame=Z a.env.locals)(o':Gl a b)(d':a.mg b=Z (.ref e))(KJ:excIn a.K e ņ "ValueError.__new__"=U)(xk:∀c k,c<m->nsIn a.K z_ (ğ c)=Z (Z (.ref k))->excIn a.K k ņ "ValueError.__new__"=U/\mroIn a.K k (.ref e)=Z U)(hb:∀pl E',ſ (Hw a pl E') Ξ Ο)(hh:∀pl i,FE (rX a pl i) g y)(r':(b==("__debug__":Str))=L:=by lk):FS a (.Try Ξ [.ExceptHandler (Z (.Name b o)) Y [.Return (Z g) w] ω] [] [] Ψ) (yT m Ο y):=by
 constructor;intro t s σ H D I⟨ρ,E,f⟩;refine wpAny_Try_except ?_;have c':=λE'(h:Ŀ (Hw a t E') [] σ H (Ο ρ) D)=>(hb t E').h [] s σ H D (ES I) ⟨ρ,E,h⟩;refine QX (c' (λi i'=>uk (x_ a.prog a.w) a.A (Ys i a.env) (λ_ h'=>uk (x_ a.prog a.w) a.A (setFlight i Y) (λ_ g'=>uk (x_ a.prog a.w) a.A (handleBy i a.env [.ExceptHandler (Z (.Name b o)) Y [.Return (Z g) w] ω]) (SP a t D) a.xe g') a.xe h') a.xe i') ?_) (λfl s1 A=>?_) λi s1 A=>A
 ·unfold yT at f;match hf:Ο ρ with
  |none=>rw[hf]at f;exact f.elim|some (.nx s')=>rw[hf]at f;exact f|some (.rt d)=>rw[hf]at f;exact f|some (.exc c)=>
  rw[hf]at f;dsimp only at f;by_cases b':c<m
  · rw[if_pos b']at f;intro H1 s1 ev same I1⟨i,k,he,hC,F⟩;subst he;obtain⟨xC,xm⟩:=xk c k b' hC;have fe:H1 i=Y:=F.1;have fn:=F.2.1;refine AZ (a:=Hw a t _) I1 a' n' p' F (E1:=a.xe) (E2:=a.xe) λh2 Ts a0 k1 k2 k3 k4 k5=>?_;have f':=I1.pins_of (pins':=[]) λp hp=>absurd hp (by simp);have e':∀j,j=i\/j∈Ts->H1 j=Y/\a.s₀.heap.get? j=Y/\(∀p∈(a.pn++t)++[],p.1≠j)/\∃f vs,s1.heap.get? j=Z f/\f.data=.fields vs:=λj hb=>⟨(k5 j hb).1,(k5 j hb).2.1.1,λp hp=>(k5 j hb).2.1.2 p (by simpa using hp),(k5 j hb).2.2⟩;have I2:=Ì.aft f' (uj I1 k1 k4) a' e';have J2:Ì (rX a t i) [] σ H1 {s1 with heap:=h2}:=ul (gI I2);have m':=k3;obtain⟨oe,vs,T,oT,ts,t1,⟨t2,t3⟩,t4,_⟩:=m';refine wpAny_handleBy_cons (codeAny_handlers_test (kt (a:=rX a t i) J2 o' d' ?_ r')) (by intro z;cases z);refine xz (Α:=λ_=>Z (.ref k)) (b:=b) J2.kIn (xx J2.kIn rfl xC) (xx J2.kIn d' KJ) t1 t2 xm ?_;show Ta _ _ (.handlers (.ref i) [.ExceptHandler Y Y [.Return (Z g) w] ω] a.env) _ _;refine codeAny_handlers_suite ?_;refine U8 (s:={s1 with heap:=h2}) k1 k2 k3.at λh3 m1 m2 m3 m4=>?_;have A3:V' (Hw a t _) i Ts s1.heap h3:=uj I1 m1 λj f q d=>by obtain⟨sl,q'⟩:=k4 j f q d;exact⟨sl,m4 j _ q' d⟩
    have I3:=Ì.aft f' A3 a' e';have J4:Ì (rX a t i) [] σ H1 {s1 with heap:=h3}:=ul (gI I3);have E5:Ú a.K H1 σ ρ:=E.mono same;match hg:y ρ with|none=>rw[hg]at f;exact f.elim|some (.exc c2)=>rw[hg]at f;exact f.elim|some (.ok d)=>rw[hg]at f;have k':=(wY (Db (o:=w) (hh t i))).h [] _ _ _ {nx:=λ_ _=>False,rt:=D.rt} J4 ⟨_,E5,(by unfold aH;rw[hg];exactλv P e1 r=>f v P (same.trans e1) r)⟩;refine QX k' (λfl s6 A=>?_) λ_ _ z=>z.elim;cases fl with|ret u=>obtain⟨v,l',H6,J6,rv,q6⟩:=A;have J7:Ì a t l' H6 s6:=vq I.ok J6;exact⟨v,_,H6,J7,rv,q6⟩|next=>obtain⟨_,_,_,z⟩:=A;exact QN z|brk=>obtain⟨_,_,_,z⟩:=A;exact QN z|cont=>obtain⟨_,_,_,z⟩:=A;exact QN z
  ·rw[if_neg b']at f;exact f.elim
 ·cases fl with|ret u=>obtain⟨v,n,P,I',rv,q⟩:=A;exact⟨v,n,P,gI I',rv,q⟩|next=>obtain⟨n,P,I',q⟩:=A;exact Ux ⟨n,P,gI I',q⟩|brk=>obtain⟨n,P,I',q⟩:=A;exact⟨n,P,gI I',q⟩|cont=>obtain⟨n,P,I',q⟩:=A;exact⟨n,P,gI I',q⟩
def ť(r:Option Fl)(D:mI):Prop:=match r with|some (.rt (.bl b))=>∀a,D.rt (.bl b) a|_=>False
structure Ż(X:C)(sts:List Re)(f:Ö):Prop where h:ķ X sts λD σ H=>∃ρ,Ú X.K H σ ρ/\ť (f ρ) D
theorem ť.s{r:Option Fl}{D:mI}(d:ť r D):ï a h r D:=by match r,d with|some (.rt (.bl b)),d=>exactλv f _ e=>by cases(show v=.bl b from e);exact d f
theorem KH(h:ć a Ξ Ο):Ż a Ξ Ο:=⟨λe s b H D I⟨d,E,o⟩=>h.h e s b H D I ⟨d,E,o.s⟩⟩
theorem BS{g:Ö}(m:FS a τ Ο)(k:Ż a Ξ g):Ż a (τ::Ξ) (aA Ο g):=⟨λj s i H D I⟨h,E,o⟩=>by refine cL m.h k.h j s i H D I ⟨h,E,?_⟩;unfold aA at o;match b:Ο h with|none=>rw[b]at o;exact o.elim|some (.exc c)=>rw[b]at o;exact o.elim|some (.rt d)=>rw[b]at o;exact ť.s (r:=Z (.rt d)) o|some (.nx f)=>rw[b]at o;exactλp q e n=>⟨f,n,o⟩⟩
mutual
def Ĭ:N->Bool|.tup a=>þ a|.lst _=>L|.obj _ _=>L|.scr _=>L|_=>U
def þ:List N->Bool|[]=>U|d::a=>Ĭ d&&þ a
end
mutual
theorem Ó.keep{K:d_}{H j:Hp}{A:B->Prop}(hA:∀b,A b->∃f,H b=Z (.lst f))(e:∀b u,¬A b->H b=Z u->j b=Z u):∀(d:N)(v:V),Ĭ d=U->Ó K H d v->Ó K j d v|.non,_,_,h=>h|.bl _,_,_,h=>h|.int _,_,_,h=>h|.str _,_,_,h=>h|.tup a,v,i,h=>by obtain⟨b,m,r,h,q⟩:=h.tupE;exact⟨b,m,r,e _ _ (λz=>by obtain⟨f,z⟩:=hA b z;rw[h]at z;cases z) h,O.keep hA e a m (by simpa[Ĭ]using i) q⟩|.lst a,v,i,h=>by simp[Ĭ]at i|.scr t,v,i,h=>by simp[Ĭ]at i|.exn c,v,_,h=>by obtain⟨b,o,u,p,r,h,q⟩:=h.exnE;exact⟨b,o,u,p,r,e _ _ (λz=>by obtain⟨f,z⟩:=hA b z;rw[h]at z;cases z) h,q⟩|.obj _ _,_,i,_=>by simp[Ĭ]at i
theorem O.keep{K:d_}{H j:Hp}{A:B->Prop}(hA:∀b,A b->∃f,H b=Z (.lst f))(e:∀b u,¬A b->H b=Z u->j b=Z u):∀(a:List N)(k:List V),þ a=U->O K H a k->O K j a k
 |[],_,_,h=>h|d::a,k,i,h=>by
  obtain⟨v,g,r,h,q⟩:∃v g,k=v::g/\Ó K H d v/\O K H a g:=h;have n:Ĭ d=U/\þ a=U:=by simpa[þ]using i
  exact⟨v,g,r,Ó.keep hA e d v n.1 h,O.keep hA e a g n.2 q⟩end
noncomputable def Zt:N->Bool|.scr _=>U|d=>Ĭ d
theorem Ó.keepS{A:B->Prop}(i:∀b,A b->∃g,h b=Z (.lst g))(e:∀b f,¬A b->h b=Z f->Ζ b=Z f){d:N}{v:V}(a:Zt d=U)(r:Ó u h d v):Ó u Ζ d v:=by cases d with|scr j=>obtain⟨b,r,a⟩:∃b,v=.ref b/\ţ u h b (j.map V.int):=r;exact⟨b,r,a.imp (λ⟨o,a⟩=>⟨o,e _ _ (λz=>by obtain⟨g,z⟩:=i b z;rw[a]at z;cases z) a⟩) id⟩|_=>exact Ó.keep i e _ v a r
noncomputable def wb:N->Bool|.lst a=>þ a&&A_ (a.length<=100000)|_=>L
theorem qG{K:d_}{H y:Hp}{A:B->Prop}(q:∀b,A b->∃h,H b=Z (.lst h))(e:∀b u,¬A b->H b=Z u->y b=Z u):∀(a:List N)(f:List V),(∀d∈a,wb d=U)->O K H a f->(∀u∈f,∀b,u=.ref b->¬A b)->O K y a f
 |[],_,_,r,_=>r|w::g,f,o,E,p=>by
  obtain⟨v0,k,ev,ł,m⟩:∃v n,f=v::n/\Ó K H w v/\O K H g n:=E;subst ev;refine .cons ?_ (qG q e g k (λd P=>o d (on _ P)) m λu I=>p u (on _ I));have i:=o w (by simp);unfold wb at i;split at i
  · rename_i j;have t:þ j=U/\j.length<=100000:=by simpa using i
    obtain⟨b,h,rfl,hb,z⟩:=ł.lstE;exact⟨b,h,rfl,e _ _ (p _ (by simp) b rfl) hb,O.keep q e j h t.1 z⟩
  ·cases i
def Mx(i:Nat)(a:Ev):Bool:=(rl a.length).all λj=>j==i||(match a[j]? with|some (Z d)=>Zt d|_=>U)
theorem Gb(h:Mx d H=U)(a:H[r]?=Z (Z j))(b:r≠d):Zt j=U:=by have e:=(D_.mp a).1;have:=Q2.mp h r (Rt.mpr e);rw[a]at this;simpa[b]using this
def vL(i j k:Nat)(g:Ö):Ö:=λb=>match b[i]? with|some (Z (.lst a))=>if a.length<=1000/\a.all wb=U/\Mx i b=U/\j<b.length/\j≠i/\k≠i/\k≠j then g (((b.set i Y).set j (Z (.lst a))).set k Y)else Y|_=>Y
def KI(X:C)(i j:Nat):TS:=λD f H=>∃g b,Ú X.K H f g/\g[i]?=Z (Z (.lst b))/\b.length<=1000/\b.all wb=U/\∀p e d,Í H d->H p=Y->d p=Z (.lst e)->O X.K d b e->(∀u∈e,∀a,u=.ref a->H a=Y)->D.nx (f.set j (Z (.ref p))) d
theorem yU:∀(a:List N)(b:Ev){e:Ò},(∀d∈a,e (b.set 0 (Z d))=Z (.ok d))->jY (gN 0) Y e b a=Z a|[],_,_,_=>rfl|d::i,b,e,h=>by have g:=h d (by simp);have f:=yU i b λj m=>h j (on _ m);simp only[jY,gN,g,f]
theorem BU(hg:Gl a "list")(hm:a.mg "list"=Y)(ha:FA a [g] ε)(he:k_ [g] a.env=(L,eval g a.env)::k_ [] a.env)(a':(O_ w (k_ [] a.env)).any (·.1)=L){k:Hp}{t:List (B×Obj)}{s:g_}{m:L2.St}{H:Hp}{n:Ev}{p:N}(I:Ì a t m H s)(E:Ú a.K H m n)(e0:Í k H)(e:ß Be ε n=Z (.ok p))(hx:a.xe=λ_ _=>False):uk (x_ a.prog a.w) a.A (eval (.Call (.Name "list" o) [g] [] w) a.env) (EP a t m λv h=>Í H h/\Ó a.K h p v/\∀d,v=.ref d->k d=Y) (λ_ _=>False) s:=by
 have:=(jS (o:=o) pR hg hm (by decide+kernel) ha.h (by decide) (by decide) he a') t s m H (λv h=>Í H h/\Ó a.K h p v/\∀d,v=.ref d->k d=Y) I ⟨n,E,by unfold ß at e;match i:ε n with
 |none=>rw[i]at e;cases e|some (.exc c)=>rw[i]at e;cases e|some (.ok ds)=>
 rw[i]at e;have e:Be ds=Z (.ok p):=e;intro vs h P rs;have nn:∀l,h l=Y->k l=Y:=λl f=>by cases q:k l with|none=>rfl|some u=>have:=P _ _ (e0 _ _ q);rw[f]at this;cases this
 unfold Be at e;split at e;·rename_i xs;cases e;obtain⟨v,rfl,r⟩:=dq rs;obtain⟨d,j,rfl,z,y⟩:=r.lstE;exact⟨d,j,rfl,.inl (ô.of z),λl f=>⟨P.trans (aD f _),⟨l,j,rfl,aw,O.mono (aD f _) _ _ y⟩,λb A=>by cases A;exact nn l f⟩⟩
 ·rename_i xs;cases e;obtain⟨v,rfl,r⟩:=dq rs;obtain⟨d,j,rfl,z,y⟩:=r.tupE;exact⟨d,j,rfl,.inr (ü.of z),λl f=>⟨P.trans (aD f _),⟨l,j,rfl,aw,O.mono (aD f _) _ _ y⟩,λb A=>by cases A;exact nn l f⟩⟩
 ·cases e⟩;rw[hx]at this;exact this
theorem Gc{p5 a' py P:Pos}{z:List (Str×Nat)}(hN:ė a.N=U)(w':a.N[r]?=Z i)(p':jA a.env.scope i=U)(y':a.fn i=U)(hz:FE a (.Name θ ω) (X d))(i':∀f s H y,FA (aq a (b::z.map (·.1)) η f s H y) [.Name b w] (aK (X 0) cM))(x':∀f s H y,Gl (aq a (b::z.map (·.1)) η f s H y) "list")(hm:a.mg "list"=Y)(u':DE a.env.scope η z a.N=U)(A':SV η a.env=pure (kx η.names a.env []))(hc:a.calm=U)(v':ė (b::z.map (·.1))=U)(hl:jA η b=U)(he:∀f s H y,k_ [.Name b w] (aq a (b::z.map (·.1)) η f s H y).env=(L,eval (.Name b w) (aq a (b::z.map (·.1)) η f s H y).env)::k_ [] (aq a (b::z.map (·.1)) η f s H y).env)(t':∀f s H y,(O_ Ψ (k_ [] (aq a (b::z.map (·.1)) η f s H y).env)).any (·.1)=L)(r':Q8 (.ListComp (.Call (.Name "list" o) [.Name b w] [] Ψ) [⟨.Name b p5,.Name θ ω,[],0⟩] η a') (Z (.Name i py)) P.line a.env=pure U)(hs:∀b,QT (.Name θ ω) a.env b=pure b):PS a (.Assign [.Name i py] (.ListComp (.Call (.Name "list" o) [.Name b w] [] Ψ) [⟨.Name b p5,.Name θ ω,[],0⟩] η a') P) (KI a d r):=by
 intro j' s σ H D0 I h;obtain⟨ρ,t,E,hr,J',f',B'⟩:=h;have h':∀g∈t,∃ds,g=.lst ds:=λg hd=>by
  have:=Q2.mp f' g hd;unfold wb at this;split at this;·exact⟨_,rfl⟩
  ·cases this
 have ok:=uC u';have q':∀f s H y,FG (aq a (b::z.map (·.1)) η f s H y) (.Name b p5) (gN 0):=λf s H y=>fgA f s H y v' rfl hl;have e':BG (X d) ρ=Z (.ok t):=by simp[BG,X,hr,Ù,yD]
 rw[W_ _ _ _ _ r'];refine e_ (We (e_ ?_));show uk _ a.A (do let _<-comprehension (.ListComp (.Call (.Name "list" o) [.Name b w] [] Ψ) [⟨.Name b p5,.Name θ ω,[],0⟩] η a') η a.env _ (Yb []) L (eval (.Name θ ω) a.env) (Z (S4 (.Name i py) a.env))) _ _ s;refine e_ (QX (Uu (use:=Z (S4 (.Name i py) a.env)) (Q:=λ_ s'=>SP a j' D0 .next s') rfl hs A' ok.kind ok.names (â ((FV (g:=.Name b p5) hz).h j' s σ H (λJ H'=>Í H H'/\WkV a.K J t H') I ⟨ρ,E,by rw[e'];exactλJ H' e m=>⟨e,m⟩⟩) λv s1 h1=>â h1 λO' s2 h2=>?_)) (λ_ s' hq=>m_ (m_ hq)) λ_ _ e=>e);obtain⟨it,y,tn,J,H2,e,I2,T,n',Q,b',wk⟩:=h2;subst e;have m':ų a.K J t H2:=⟨wk.go,wk.stop,λn H3 b H4 e hi yl=>by obtain⟨rfl,g,h1,h2⟩:=wk.yld n H3 b H4 e hi yl;exact⟨.refl _,g,h1,Ó.mono e _ _ h2⟩⟩;have g':jY (gN 0) Y (ß Be (aK (X 0) cM)) (gW 1 z ρ) t=Z t:=yU t _ λg hd=>by
  obtain⟨ds,rfl⟩:=h' g hd;have h0:((gW 1 z ρ).set 0 (Z (N.lst ds)))[0]?=Z (Z (.lst ds)):=by simp[gW]
  have h1:X 0 ((gW 1 z ρ).set 0 (Z (N.lst ds)))=Z (.ok (.lst ds)):=by unfold X;rw[h0]
  unfold ß;rw[ac h1 aj];rfl
 refine nG (A:=[b]) (js:=[0]) (f':=Y) z ok hc q' (λH v=>∀k,v=.ref k->H k=Y) (λf s9 H9 A hI I' s8 k' H8 N' y8 I8 E8 e8 z'=>?_) (λf s H y _=>uD f s H y) (EI _) (E.mono b') I2 T n' Q m' (by omega) (by omega) g' (RR:=λD' f=>compPost (x_ a.prog a.w) a.A a.xe (Z (S4 (.Name i py) a.env)) (λ_ s'=>SP a j' D0 .next s') D' f) λD f s6 H5 vs m6 I6 D5 e5 r5 p5 n6 C6 CD hC=>?_;·exact BU (a:=aq a (b::z.map λc:Str×Nat=>c.1) η f s9 H9 A) (x' f s9 H9 A) hm (i' f s9 H9 A) (he f s9 H9 A) (t' f s9 H9 A) I8 E8 e8 z' rfl
 · have Cn:(Ý H5 D (.lst vs)) f=Y:=by rw[ay CD];exact C6
   have FC:=I2.fpOk hC Cn;obtain⟨oC,es,ep,c',d',rC⟩:=id n6;have F':=I6.pinned (fp:=[f]) (λj hb=>by
   have e:j=f:=by simpa using hb
   subst e;exact FC) (λj hb=>by
   have e:j=f:=by simpa using hb
   subst e;exact⟨oC,c',λv θ=>by rw[d']at θ;cases θ⟩);refine â (gX (iI hN) w' (eU p') (.inl y') _ s6 σ _ (.ref D) (.ref D) (λl' H'=>l'=σ.set r (Z (.ref D))/\H'=Ý H5 D (.lst vs)) F' rfl ⟨rfl,rfl⟩) λ_ s8⟨k',H8,I8,e1,e2⟩=>?_;subst e1 e2;have C':=(I8.pin (f,oC) (o_ _ (o_ _ (cZ (by simp) c')))).1;refine⟨m6,⟨oC,es,ep,C',d',rC⟩,λh9 o'=>?_⟩;have E':Ì a j' (σ.set r (Z (.ref D))) (Ý H5 D (.lst vs)) s8:=I8.unpinned;obtain⟨q0,q1,q2,q3,q4,q5⟩:=FC;have I9:Ì a j' (σ.set r (Z (.ref D))) (Ý H5 D (.lst vs)) {s8 with heap:=h9}:=E'.turned (t':=s8.toks) (λj p hb e=>o'.extBut j p hb e) q0 q1 q3 q4 q5;have nn:∀l,H2 l=Y->H l=Y:=λl hl=>by cases q:H l with|none=>rfl|some u=>have:=b' _ _ q;rw[hl]at this;cases this
   have n5:∀l,H5 l=Y->H2 l=Y:=λl hl=>by cases q:H2 l with|none=>rfl|some u=>have:=e5 _ _ q;rw[hl]at this;cases this
   exact⟨_,_,I9,B' D vs _ ((b'.trans e5).trans (aD D5 _)) (nn _ (n5 _ D5)) aw (O.mono (aD D5 _) _ _ r5) λu hu k ea=>nn _ (p5 u hu k ea)⟩
theorem BV{ap cp o' n' a1 q1 q2:Pos}(q':PS a τ (KI a d r))(hp:UI (x_ a.prog a.w) a.A a.env a.xe)(hc:a.calm=U)(hz:PE a (.Name i o) (mJ d))(I':a.N[Β]?=Z b)(hg:PG a (.Name b w) (wt Β))(h1:PE a (.Name b ω) (mJ Β))(h2:PE a (.Name b Ψ) (mJ Β))(he:PE a g (L2.tC (.str θ)))(p':Ż a Ξ Ο)(a0:Rx (.Name b ω) "append" a.env (eval (.Name b ω) a.env)=eval (.Name b ω) a.env)(y':((O_ cp (k_ [g] a.env)).all (λb=>!b.1)&&(RM cp (Rc [] a.env)).all (λb=>b.1.isSome)&&A_ ([g].length+([]:List SI).length+(if([]:List SI).isEmpty then 0 else 1)<30))=U)(F':(ap.endLine==cp.line)=U)(hs:k_ [g] a.env=(L,eval g a.env)::k_ [] a.env)(g':(O_ cp (k_ [] a.env)).any (·.1)=L)(D':Q8 (.Call (.Attribute (.Name b ω) "append" ap) [g] [] cp) Y q1.line a.env=pure L)(U':Rx (.Name b Ψ) "reverse" a.env (eval (.Name b Ψ) a.env)=eval (.Name b Ψ) a.env)(E':(o'.endLine==n'.line)=U)(v':Q8 (.Call (.Attribute (.Name b Ψ) "reverse" o') [] [] n') Y q2.line a.env=pure L)(Q':∀b,QT (.Name i o) a.env b=pure b):Ż a (τ::.For (.Name b w) (.Name i o) [.Expr (.Call (.Attribute (.Name b ω) "append" ap) [g] [] cp) q1,.Expr (.Call (.Attribute (.Name b Ψ) "reverse" o') [] [] n') q2] [] a1::Ξ) (vL d r Β Ο):=⟨λj' s σ H D I⟨ρ,E,f⟩=>by refine cL q' (cL (tY hp hc (D4 hz) hg (cL (lC (wQ SE TY Wh pS h1 (oh he wI hs) a0 y' F' hs g') D') (ku (lC (Ix SE WP PySem.F.type_list_reverse vj h2 U' E') v'))) Q') p'.h) j' s σ H D I ?_;unfold vL at f;match hi:ρ[d]? with
 |none=>rw[hi]at f;exact f.elim|some Y=>rw[hi]at f;exact f.elim|some (Z (.lst A))=>
 rw[hi]at f;dsimp only at f;by_cases a':A.length<=1000/\A.all wb=U/\Mx d ρ=U/\r<ρ.length/\r≠d/\Β≠d/\Β≠r
 · rw[if_pos a']at f;obtain⟨x',c',w',hj,N',a8,a7⟩:=a';refine⟨ρ,A,E,hi,x',c',λp vs H1 e1 hp B' rs T'=>?_⟩;obtain⟨v,hv,rv⟩:=E.at' d _ hi;obtain⟨k,xs,rfl,ha,h'⟩:=rv.lstE;have a5:=h'.length;have f':∀e,V.ref e∈xs->∃ds y,.lst ds∈A/\H e=Z (.lst y)/\O a.K H ds y/\þ ds=U/\y.length<=100000:=λe P=>by
    obtain⟨n,hn⟩:=U_.mp P;obtain⟨j,hd,rd⟩:=h'.get hn;have z:=Q0 hd;have:=Q2.mp c' j z;unfold wb at this;split at this
    · rename_i ds;obtain⟨b',y,eb,e',ry⟩:=rd.lstE;cases eb;have t:þ ds=U/\ds.length<=100000:=by simpa using this
      exact⟨ds,y,z,e',ry,t.1,by rw[ry.length];exact t.2⟩
    ·cases this
   have A':∀u∈xs,∃e,u=.ref e:=λu hu=>by
    obtain⟨n,hn⟩:=U_.mp hu;obtain⟨j,hd,rd⟩:=h'.get hn;have:=Q2.mp c' j (Q0 hd);unfold wb at this;split at this;·obtain⟨b',y,eb,_⟩:=rd.lstE;exact⟨b',eb⟩
    ·cases this
   have na:V.ref k∉xs:=λP=>by
    obtain⟨ds,y,_,h3,ry,im,_⟩:=f' k P;rw[ha]at h3;cases h3;obtain⟨n,hn⟩:=U_.mp P;obtain⟨j,hd,rd⟩:=ry.get hn;have u':∀(ds:List N)(n:Nat)(j:N),þ ds=U->ds[n]?=Z j->Ĭ j=U:=λds=>by induction ds with|nil=>intro n j _ h;simp at h|cons d0 ds ih=>
      intro n j h1 h2;have t':Ĭ d0=U/\þ ds=U:=by simpa[þ]using h1
      cases n with|zero=>simp at h2;subst h2;exact t'.1|succ n=>exact ih n j t'.2 (by simpa using h2)
    have:=u' ds n j im hd;cases j with|non=>cases rd|bl e=>cases rd|int e=>cases rd|str e=>cases rd|tup ds=>obtain⟨e,ws,eb,P,_⟩:=rd.tupE;cases eb;rw[ha]at P;cases P|lst ds=>simp[Ĭ]at this|scr ns=>simp[Ĭ]at this|exn θ=>obtain⟨e,f,u,C',eb,P,_⟩:=rd.exnE;cases eb;rw[ha]at P;cases P|obj Β ds=>simp[Ĭ]at this
   have O':(σ.set r (Z (.ref p)))[d]?=Z (Z (.ref k)):=by rw[I_ N'];exact hv
   have a6:Β<(σ.set r (Z (.ref p))).length\/¬Β<(σ.set r (Z (.ref p))).length:=Nat.lt_or_ge _ _|>.imp id Nat.not_lt.mpr;refine⟨_,O',k,rfl,⟨xs,ô.of (e1 _ _ ha)⟩,?_⟩;refine As (μ:=xs) (λn d' H'=>d'.length=σ.length/\(∀m,m≠Β->d'[m]?=(σ.set r (Z (.ref p)))[m]?)/\(∀e u,V.ref e∉xs->H1 e=Z u->H' e=Z u)/\∀e,V.ref e∈xs->∃y,H' e=Z (.lst y)/\y.length<=100000+n) ⟨by simp,λ_ _=>rfl,λ_ _ _ h=>h,λe P=>by obtain⟨_,y,_,h3,_,_,h4⟩:=f' e P;exact⟨y,e1 _ _ h3,h4⟩⟩ (λn d' H' _ q=>ô.of (q.2.2.1 k _ na (e1 _ _ ha))) (λn u d' H' hn q=>?_) λd' H' q=>?_
   · obtain⟨e,rfl⟩:=A' u (Q0 hn);have P:=Q0 hn;obtain⟨l1,s1,q1,q2⟩:=q;obtain⟨y,hy,a2⟩:=q2 e P;have J':Β<a.N.length:=(D_.mp I').1;have s':(d'.set Β (Z (V.ref e)))[Β]?=Z (Z (.ref e)):=QH (by rw[l1,I.len];exact J');have a3:n<xs.length:=(D_.mp hn).1;have hz:y.length<sizeLine:=by have:=UH;omega
     refine⟨_,s',.inl ⟨rfl,y,ô.of hy⟩,e,y,.str θ,rfl,rfl,hy,hz,?_⟩;refine⟨_,s',.inl ⟨rfl,_,ô.of aw⟩,e,_,rfl,rfl,aw,?_⟩;refine⟨by rw[Q5];exact l1,λm z=>by rw[I_ (SM z)];exact s1 m z,λb' u e' h3=>?_,λb' e'=>?_⟩;·have:b'≠e:=λi=>e' (i▸P);rw[ay this,ay this];exact q1 b' u e' h3
     · by_cases m':b'=e;·subst m';exact⟨_,aw,by rw[XS,Ry];simp;omega⟩
       ·rw[ay m',ay m'];obtain⟨z',h3,h4⟩:=q2 b' e';exact⟨z',h3,by omega⟩
   · obtain⟨l1,s1,q1,q2⟩:=q;refine⟨_,⟨?_,λm j z=>?_⟩,f⟩;·rw[l1,E.len];simp
     · have kA:∀e,V.ref e∈xs->∃y,H1 e=Z (.lst y):=λe P=>by obtain⟨_,y,_,h3,_⟩:=f' e P;exact⟨y,e1 _ _ h3⟩
       have kb:∀e u,¬V.ref e∈xs->H1 e=Z u->H' e=Z u:=q1;by_cases k':m=Β
       · subst k';by_cases i':m<((ρ.set d Y).set r (Z (N.lst A))).length;·rw[QH i']at z;cases z
         ·rw[RW (by rw[Q5];omega)]at z;cases z
       · rw[I_ (SM k')]at z;rw[s1 m k'];by_cases r':m=r;·subst r';rw[QH (by rw[Q5];exact hj)]at z;cases z;refine⟨_,QH (by rw[E.len];exact hj),p,vs,rfl,q1 _ _ (λi=>by obtain⟨_,y,_,h3,_⟩:=f' p i;rw[hp]at h3;cases h3) B',?_⟩;exact qG kA kb A vs (Q2.mp c') rs λu hu e eb P=>by obtain⟨_,y,_,h3,_⟩:=f' e P;rw[T' u hu e eb]at h3;cases h3
         · rw[I_ (SM r')]at z⊢;by_cases l':m=d
           · subst l';by_cases i':m<ρ.length;·rw[QH i']at z;cases z
             ·rw[RW (by rw[Q5];omega)]at z;cases z
           ·rw[I_ (SM l')]at z;obtain⟨v,h3,h4⟩:=E.at' m j z;exact⟨v,h3,Ó.keepS kA kb (Gb w' z l') (Ó.mono e1 _ _ h4)⟩
 ·rw[if_neg a']at f;exact f.elim|some (Z .non)=>rw[hi]at f;exact f.elim|some (Z (.bl _))=>rw[hi]at f;exact f.elim|some (Z (.int _))=>rw[hi]at f;exact f.elim|some (Z (.str _))=>rw[hi]at f;exact f.elim|some (Z (.tup _))=>rw[hi]at f;exact f.elim|some (Z (.scr _))=>rw[hi]at f;exact f.elim|some (Z (.exn _))=>rw[hi]at f;exact f.elim|some (Z (.obj _ _))=>rw[hi]at f;exact f.elim⟩
abbrev Ag(o:u_)(a:Env):Sem Bool:=do return(<-importBound o a).getD U
abbrev pI:=List (Str×Nat×Nat×(Ï))
structure ģ(P:n_)(w:w_)(K:d_)(mg:Str->Option D)(base:J_)(k:Nat)(C:B)(T:pI):Prop where h:∀m e,T.lookup m=Z e->DH P w K mg base k C m e.1 e.2.1 e.2.2
structure BW(P:n_)(w:w_)(K:d_)(mg:Str->Option D)(base:J_)(k:Nat)(C:B)(m:Str)(lv:Nat)(F:Ï):Prop where
 c:CK K k C
 h:m∉Ď k
 f:∃f fd,CZ K C m f/\FnM P w K mg base lv f fd ["self"] F/\ë K fd ["self"] []
structure Ah(P:n_)(w:w_)(K:d_)(mg:Str->Option D)(base:J_)(k:Nat)(C:B)(T:pI):Prop where h:∀m e,T.lookup m=Z e->BW P w K mg base k C m e.1 e.2.2
structure BX(P:n_)(w:w_)(K:d_)(mg:Str->Option D)(base:J_)(Pt:B)(q:Str)(k:Nat)(C:B)(m:Str)(lv n:Nat)(F:Ï):Prop where
 c:CK K k C
 h:m∉Ď k
 f:∃f fd ps,CZ K C m f/\è P w K mg base (ĥ P w) lv f fd ps (Mw Pt q K F (n+1))/\ë K fd ps []
theorem Ge:ģ p m u Α I d e []:=⟨λ_ _ h=>by cases h⟩
theorem jh{T:pI}(h:DH p m u Α I d e b r Β ψ)(t:ģ p m u Α I d e T):ģ p m u Α I d e ((b,r,Β,ψ)::T):=⟨λx a z=>by
 rcases fD z with⟨rfl,rfl⟩|z;·exact h
 ·exact t.h x a z⟩
theorem BY:Ah p m u Α I d e []:=⟨λ_ _ h=>by cases h⟩
theorem qH{T:pI}(h:BW p m u Α I d e b r ψ)(t:Ah p m u Α I d e T):Ah p m u Α I d e ((b,r,Β,ψ)::T):=⟨λx a z=>by
 rcases fD z with⟨rfl,rfl⟩|z;·exact h
 ·exact t.h x a z⟩
def yV(k:Nat)(F:List N->Option Đ):Ï|d::a=>if Ę k d=U then(match F (d::a)with|some (.exc c)=>Z (.exc c)|_=>Y)else Y|[]=>Y
theorem Gf{F:List N->Option Đ}(h:yP p m u Α I d e b r Β F):DH p m u Α I d e b r Β (yV d F):=by
 obtain⟨f,fd,ps,hm,G,hb⟩:=h.f;have key:∀j H Q E,ũ u (yV d F) (Β+1) j H Q E->Ů u F (Β+1) j H Q E:=λj H Q E z=>by obtain⟨w,g,hl,q⟩:=z;cases w with|nil=>cases hl|cons i w=>
  by_cases y:Ę d i=U;·unfold yV at q;dsimp only at q;rw[if_pos y]at q;obtain⟨v,n,rfl,rv,rs⟩:∃v n,j=v::n/\Ó u H i v/\O u H w n:=g;obtain⟨b',rfl⟩:=nK y;obtain⟨a,C',dx,c',rfl,hh⟩:=rv.objE;refine⟨_,a,n,rfl,.cons rv rs,hl,?_⟩;match P:F (.obj d b'::w)with|none=>rw[P]at q;exact q.elim|some (.ok i o)=>rw[P]at q;exact q.elim|some (.exc c)=>rw[P]at q;exact q
  ·unfold yV at q;dsimp only at q;rw[if_neg y]at q;exact q.elim
 exact⟨h.c,h.h,f,fd,ps,hm,⟨λj H Q E z=>G.len j H Q E (key j H Q E z),λA k s H t n j Q E hr e0 a' g z=>G.run A k s H t n j Q E hr e0 a' g (key j H Q E z)⟩,hb⟩
theorem Gg(c:CK a.K d e)(f:FE a g y)(h:(Ď d)[r]?=Z b:=by lk)(i:Rx g b a.env (eval g a.env)=eval g a.env:=by lk):FE a (.Attribute g b o) (f1 (kJ d r) y):=KC c h f i
theorem BZ{T:pI}(z:ģ a.prog a.w a.K a.mg a.base d e T)(n:Ø Β a.A)(h:(T.lookup b).map (λq=>q.2.2)=Z ψ)(k:a.ex=[])(p:FE a g y)(v:FA a (P::t) ε)(f:((T.lookup b).all λq=>TM q.1 Β&&SO r q.2.1)=U:=by lk)(m:MC a g b (P::t) w o (Ag g a.env):=by delta MC;lk)(u:k_ (P::t) a.env=(L,eval P a.env)::k_ t a.env:=by lk)(j:(O_ o (k_ t a.env)).any (·.1)=L:=by lk):FE a (.Call (.Attribute g b w) (P::t) [] o) (gq d ψ r y ε):=by cases i:T.lookup b with|none=>rw[i]at h;cases h|some q=>rw[i]at h f;cases h;rw[Sa,p_]at f;obtain rfl:=QM f.2;exact F4 (z.h b q i) n (QP f.1) k p v m u j
theorem yW{T:pI}(t:ģ a.prog a.w a.K a.mg a.base d e T)(n:Ø r a.A)(i:(T.lookup b).map (λq=>q.2.2)=Z ψ)(k:a.ex=[])(p:FE a g y)(f:((T.lookup b).all λq=>TM q.1 r&&SO 0 q.2.1)=U:=by lk)(m:MC a g b [] w o (Ag g a.env):=by delta MC;lk):FE a (.Call (.Attribute g b w) [] [] o) (gq d ψ 0 y cM):=by cases j:T.lookup b with|none=>rw[j]at i;cases i|some q=>rw[j]at i f;cases i;rw[Sa,p_]at f;have h:=t.h b q j;rw[<-QM f.2]at h;exact BO h n (QP f.1) k p m
def nM(k:Nat)(F:Ï)(b:Ò):Ò:=λa=>Ù (b a) λx=>if Ę k x=U then(match F [x]with|some (.ok d)=>Z (.ok d)|_=>Y)else Y
theorem B0(h:BW a.prog a.w a.K a.mg a.base d e b r ψ)(hr:ñ Β a.A)(hk:r<=Β)(ho:FE a g y)(ht:MC a g b [] w o (Ag g a.env)):FE a (.Call (.Attribute g b w) [] [] o) (nM d ψ y):=by
 obtain⟨f,fd,hm,G,hb⟩:=h.f;constructor;intro j' s σ H Q I⟨ρ,E,o1⟩;refine S3 (pl:=Ag g a.env) (â (ho.h j' s σ H (λv H1=>∃i t,Ó a.K H1 i v/\Ę d i=U/\ψ [i]=Z (.ok t)/\∀u H2,Í H1 H2->Ó a.K H2 t u->Q u H2) I ⟨ρ,E,ê.bind o1 λi v H1 e1 k n=>?_⟩) λu s1⟨v,H1,I1,rv,i,t,r1,P,p,q⟩=>?_) ht
 · by_cases P:Ę d i=U
   ·rw[if_pos P]at n;match p:ψ [i]with|none=>rw[p]at n;exact n.elim|some (.exc c)=>rw[p]at n;exact n.elim|some (.ok t)=>rw[p]at n;exact⟨i,t,k,P,p,n⟩
   ·rw[if_neg P]at n;exact n.elim
 · obtain⟨ds,rfl⟩:=nK P;obtain⟨j,C',dx,vs,rfl,hh,hn,_⟩:=r1.objE;rw[vI h.c hn]at hh;obtain rfl:u=y_ j:=rv;refine gE I1 hh h.c.c hm (iL h.h) ?_;have a':WR s1 fd ⟨[.ref j],[]⟩ ([("self":Str)].zip [y_ j]):=by have z:=hb s1 [.ref j] I1.kIn rfl;rw[RB]at z;exact z
   refine XM (first:=[.ref j]) I1.kIn hm.kp (Ue (RT (G.run a.A a.stack s1 H1 ⟨[.ref j],[]⟩ [.ref j] [.ref j] [.obj d ds] t Q (hr.mono hk) I1.env0 a' (.cons rfl .nil) (.cons r1 .nil) rfl p q) λk s' A=>?_));cases k with|error m=>exact A.elim|ok fl=>cases fl with|ret u=>exact I1.after A|next=>exact QN A|brk=>exact QN A|cont=>exact QN A
theorem yX{T:pI}(n:Ah a.prog a.w a.K a.mg a.base d e T)(k:ñ r a.A)(f:(T.lookup b).map (λq=>q.2.2)=Z ψ)(m:FE a g y)(i:((T.lookup b).all λq=>TM q.1 r)=U:=by lk)(j:MC a g b [] w o (Ag g a.env):=by delta MC;lk):FE a (.Call (.Attribute g b w) [] [] o) (nM d ψ y):=by cases h:T.lookup b with|none=>rw[h]at f;cases f|some q=>rw[h]at f i;cases f;rw[Sa]at i;exact B0 (n.h b q h) k (QP i) m j
theorem B1{T:pI}(A:ģ a.prog a.w a.K a.mg a.base d e T)(p:Ø Β a.A)(h:(T.lookup b).map (λq=>q.2.2)=Z ψ)(k:a.ex=[])(u:FE a g y)(z:FA a (P::t) ε)(f:((T.lookup b).all λq=>TM q.1 Β&&SO r q.2.1)=U:=by lk)(m:MC a g b (P::t) w ω (Ag g a.env):=by delta MC;lk)(v:k_ (P::t) a.env=(L,eval P a.env)::k_ t a.env:=by lk)(j:(O_ ω (k_ t a.env)).any (·.1)=L:=by lk)(n:Q8 (.Call (.Attribute g b w) (P::t) [] ω) Y o.line a.env=pure L:=by lk):ſ a [.Expr (.Call (.Attribute g b w) (P::t) [] ω) o] (jI d ψ r y ε):=by cases i:T.lookup b with|none=>rw[i]at h;cases h|some q=>rw[i]at h f;cases h;rw[Sa,p_]at f;obtain rfl:=QM f.2;exact F9 (A.h b q i) p (QP f.1) k u z m v j n
theorem B4(k:FE a g y)(h:Ē a d Ξ Ç)(m:ė a.N=U:=by lk)(i:a.N[r]?=Z b:=by lk)(e:jA a.env.scope b=U:=by lk)(f:Q8 g (Z (.Name b w)) o.line a.env=pure L:=by lk)(j:a.fn b=U:=by lk):Ē a d (.Assign [.Name b w] g o::Ξ) (Ad d r y Ç):=F6 (iI m) i (eU e) k h f (.inl j)
theorem B5(c:CK a.K d e)(k:PE a (.Name b ω) (mJ r))(m:FE a g y)(j:Ē a r Ξ Ç)(f:(Ď d)[Β]?=Z i:=by lk)(h:Q8 g (Z (.Attribute (.Name b ω) i w)) o.line a.env=pure L:=by lk):Ē a r (.Assign [.Attribute (.Name b ω) i w] g o::Ξ) (wa r d Β y Ç):=F8 c f k m j h
theorem qI{n f j:Nat}{m:Pos}{F:List N->Option Đ}(h:yP a.prog a.w a.K a.mg a.base d e b Β r F)(p:Ø n a.A)(v:a.ex=[])(I:PE a (.Name i m) (mJ f))(ha:FA a (g::t) ε)(H:Ē a f Ξ Ç)(P:TM Β n=U:=by lk)(hN:ė a.N=U:=by lk)(hj:a.N[j]?=Z θ:=by lk)(z:jA a.env.scope θ=U:=by lk)(u:SO j f=L:=by lk)(hf:a.fn θ=U:=by lk)(A:MC a (.Name i m) b (g::t) w ω (Ag (.Name i m) a.env):=by delta MC;lk)(he:k_ (g::t) a.env=(L,eval g a.env)::k_ t a.env:=by lk)(q:(O_ ω (k_ t a.env)).any (·.1)=L:=by lk)(E:Q8 (.Call (.Attribute (.Name i m) b w) (g::t) [] ω) (Z (.Name θ Ψ)) o.line a.env=pure L:=by lk):Ē a f (.Assign [.Name θ Ψ] (.Call (.Attribute (.Name i m) b w) (g::t) [] ω) o::Ξ) (qF f d F r ε λk y=>Ç (y.set j (Z k))):=sr h (Pg h p (QP P) v I ha A he q) (iI hN) hj (eU z) (Sl u) H E hf
theorem yY{n f:Nat}{k m:u_}{E A z:Pos}{F:List N->Option Đ}(h:yP a.prog a.w a.K a.mg a.base d e b Β r F)(q:Ø n a.A)(v:a.ex=[])(ho:PE a (.Name i Ψ) (mJ f))(H:a.A.units+64<cLine)(p:FT a P Μ)(ha:FA a (g::t) ε)(hb:FE a k y)(hd:FE a m (fC j))(hr:Ē a f Ξ Ç)(hk:TM Β n=U:=by lk)(hm:QR .NotEq k=L:=by lk)(I:MC a (.Name i Ψ) b (g::t) w ω (Ag (.Name i Ψ) a.env):=by delta MC;lk)(he:k_ (g::t) a.env=(L,eval g a.env)::k_ t a.env:=by lk)(u:(O_ ω (k_ t a.env)).any (·.1)=L:=by lk):Ē a f (.If (.BoolOp .Or [P,.Compare (.Call (.Attribute (.Name i Ψ) b w) (g::t) [] ω) [.NotEq] [k] A] E) [.Return (Z m) z] [] o::Ξ) (vK f d F r ε Μ y j Ç):=BR p h (Pg h q (QP hk) v ho ha I he u) hb hd hr H hm
theorem yZ{f i:Nat}{F:List N->Option Đ}(h:HG a.prog a.w a.K a.mg a.base d e Β r F)(j:Ø f a.A)(m:a.ex=[])(H:FA a (g::t) ε)(u:Ē a i Ξ Ç)(v:TM (Β+1) f=U:=by lk)(z:a.env.kindOf (Ľ d)=Z .globalImplicit:=by lk)(I:ė a.N=U:=by lk)(y:a.N[i]?=Z b:=by lk)(p:jA a.env.scope b=U:=by lk)(n:(Ľ d==("__debug__":Str))=L:=by lk)(E:k_ (g::t) a.env=(L,eval g a.env)::k_ t a.env:=by lk)(k:(O_ w (k_ t a.env)).any (·.1)=L:=by lk)(q:Q8 (.Call (.Name (Ľ d) Ψ) (g::t) [] w) (Z (.Name b ω)) o.line a.env=pure L:=by lk)(A:a.fn b=U:=by lk):ć a (.Assign [.Name b ω] (.Call (.Name (Ľ d) Ψ) (g::t) [] w) o::Ξ) (vJ i d F r ε Ç):=BQ h j (QP v) m (ī z) H (iI I) y (eU p) u n E k q A
theorem B6{a':Nat}(h:BX a.prog a.w a.K a.mg a.base v i d e b Β r ψ)(hT:Ĝ v i a.H₀)(hr:Ø a' a.A)(d':a.ex=[])(ho:FE a g y)(ha:FA a (P::t) ε)(hk:TM Β a'=U:=by lk)(ht:MC a g b (P::t) w ω (Ag g a.env):=by delta MC;lk)(he:k_ (P::t) a.env=(L,eval P a.env)::k_ t a.env:=by lk)(c':(O_ ω (k_ t a.env)).any (·.1)=L:=by lk)(hs:Q8 (.Call (.Attribute g b w) (P::t) [] ω) Y o.line a.env=pure L:=by lk):ſ a [.Expr (.Call (.Attribute g b w) (P::t) [] ω) o] (jI d ψ r y ε):=by obtain⟨f,fd,ps,hm,G,hb⟩:=h.f;refine⟨λj' s σ H D I⟨ρ,E,p⟩=>oM ?_⟩;unfold jI at p;match q:y ρ,h2:ε ρ with
 |some (.ok x),Z (.ok ds)=>
 rw[q,h2]at p;dsimp only at p;by_cases hc:Ę d x=U/\ds.length=r
 ·rw[if_pos hc]at p;match hF:ψ (x::ds)with
 |none=>rw[hF]at p;exact p.elim|some (.ok n)=>rw[hF]at p;exact p.elim|some (.exc c)=>rw[hF]at p;have o2:∀H' s' P,Í H H'->Ì a j' σ H' s'->wV a H' c P s'->a.xe P s':=p;refine Xg ?_ I.quiet hs;refine QX (S3 (Q:=EP a j' σ λ_ _=>False) (pl:=Ag g a.env) (â (ho.h j' s σ H (λk A=>Í H A/\Ó a.K A x k) I ⟨ρ,E,by rw[q];exactλk A e1 m=>⟨e1,m⟩⟩) λu s1⟨k,A,I1,rv,e1,r1⟩=>?_) ht) (λu s9⟨_,_,_,_,z⟩=>z.elim) λ_ _ z=>z;obtain⟨f',rfl⟩:=nK hc.1;obtain⟨j,C',dx,e',rfl,hh,hn,_⟩:=r1.objE;rw[vI h.c hn]at hh;obtain rfl:u=y_ j:=rv;refine gE I1 hh h.c.c hm (iL h.h) ?_;refine TH (first:=[.ref j]) (h₀:=a.base) I.ok.mod.kin hm.kp (â (ha.h ω j' s1 σ A (λvs H2=>Í A H2/\O a.K H2 ds vs) I1 ⟨ρ,E.mono e1,by rw[h2];exactλvs H2 e2 m=>⟨e2,m⟩⟩) λus s2⟨vs,H2,I2,b',e2,rs⟩=>⟨I2.kIn,?_⟩) he c';refine yS (E:=EXc a.K c H) (ξ:=.ref j::us) (μ:=.ref j::vs) (G.mono (QP hk)) hr hb (λev s' z=>KG d' I2 z o2) I2 (.cons rfl b') ?_;refine⟨hT.now I2,_,.cons (Ó.mono e2 _ _ r1) rs,by rw[Q1,hc.2],?_⟩;rw[hF];exactλe H3 hC e3=>⟨e,rfl,hC,(e1.trans e2).trans e3⟩
 ·rw[if_neg hc]at p;exact p.elim|none,_=>rw[q]at p;exact p.elim|some (.exc c),_=>rw[q]at p;exact p.elim|some (.ok x),Y=>rw[q,h2]at p;exact p.elim|some (.ok x),Z (.exc c)=>rw[q,h2]at p;exact p.elim
structure Am(K:d_)(C:B)(q m:Str)(st:Re)(f:B):Prop where
 t:CZ K C m f
 F:∃fd,ġ K m q st f fd
def Zp(x q:Str)(b:Re)(f:List Str):Prop:=∀(kV d g:D)(i:Option B)(e h:D)(a:List D),a.length=f.length->VR (Sv x q (hU b) (bB b) (ah b) .none kV d g i e h) ⟨a,[]⟩=pure (f.zip a)
def L'(k:Nat)(m:Str):Bool:=!(Ď k).contains m
theorem B7(h:L' d b=U):b∉Ď d:=λz=>by simp[L',z]at h
theorem lY(c:CK u d e)(N f:List Str)(h:Ö)(A:Am u e i b τ v)(j:Zp b i τ f)(t:∀(g:D)(A:xy)(a:List Env)(s:g_)(H:Hp)(E:XK),Ø r (A.deeper (Sq i (ah τ) s.heap.objs.size v g))->ć (kq (ĥ p m) p m u Α I N i (ah τ) v g A a s H E) (bB τ) h)(w:ψ=dL N.length h:=by lk)(n:Ŋ N f (ah τ)=U:=by lk)(o:Β+1=f.length:=by lk)(q:L' d b=U:=by lk):DH p m u Α I d e b (r+1) Β ψ:=let⟨_,k⟩:=A.F;⟨c,B7 q,_,_,f,A.t,Do N f h w o k (yC n) t,k.binds j⟩
theorem uJ(c:CK u d e)(N:List Str)(g:Ö)(A:Am u e i b τ v)(h:Zp b i τ ["self"])(o:∀(f:D)(A:xy)(a:List Env)(s:g_)(H:Hp),ñ r (A.deeper (Sq i (ah τ) s.heap.objs.size v f))->ć (Zz p m u Α I N i (ah τ) v f A a s H) (bB τ) g)(q:ψ=bt N.length g:=by lk)(k:Ŋ N ["self"] (ah τ)=U:=by lk)(n:L' d b=U:=by lk):BW p m u Α I d e b (r+1) ψ:=let⟨_,j⟩:=A.F;⟨c,B7 n,_,_,A.t,JG N _ g q j (yC k) o,j.binds h⟩
theorem Gh{o:List N->Option Đ}(c:CK u d e)(a g:List Str)(j:ò)(A:Am u e i b τ v)(k:Zp b i τ g)(y:∀(h:D)(A:xy)(f:List Env)(s:g_)(H:Hp)(E:XK),Ø r (A.deeper (Sq i (ah τ) s.heap.objs.size v h))->Ē (kq (ĥ p m) p m u Α I a i (ah τ) v h A f s H E) 0 (bB τ) j)(z:o=Ae a.length j:=by lk)(q:Ŋ a g (ah τ)=U:=by lk)(t:Β+1=g.length:=by lk)(w:L' d b=U:=by lk):yP p m u Α I d e b (r+1) Β o:=let⟨_,n⟩:=A.F;⟨c,B7 w,_,_,g,A.t,DI a g j z t n (yC q) y,n.binds k⟩
theorem Gi{n:List N->Option Đ}(z:u.In É)(P:É.Ns z_ Α)(c:CK u d e)(M:Mk u e v)(a g:List Str)(i:ò)(A:∃y,ġ u "__init__" b τ v y)(j:Zp "__init__" b τ g)(t:∀(h:D)(A:xy)(f:List Env)(s:g_)(H:Hp)(E:XK),Ø r (A.deeper (Sq b (ah τ) s.heap.objs.size v h))->Ē (kq (ĥ p m) p m u Α I a b (ah τ) v h A f s H E) 0 (bB τ) i)(w:n=Ae a.length i:=by lk)(o:Ŋ a g (ah τ)=U:=by lk)(q:Β+1=g.length:=by lk):HG p m u Α I d e (r+1) Β n:=let⟨_,k⟩:=A;⟨c,SQ z P c.n,_,_,g,M,DI a g i w q k (yC o) t,k.binds j⟩
theorem B8(c:CK u d e)(N f:List Str)(h:Ö)(A:Am u e i b τ v)(j:Zp b i τ f)(t:∀(g:D)(A:xy)(a:List Env)(s:g_)(H:Hp)(E:XK),True->Ĝ Ι θ H->Ø r (A.deeper (Sq i (ah τ) s.heap.objs.size v g))->ć (kq (ĥ p m) p m u Α I N i (ah τ) v g A a s H E) (bB τ) h)(w:ψ=dL N.length h:=by lk)(n:Ŋ N f (ah τ)=U:=by lk)(o:Β+1=f.length:=by lk)(q:L' d b=U:=by lk):BX p m u Α I Ι θ d e b (r+1) Β ψ:=let⟨_,k⟩:=A.F;⟨c,B7 q,_,_,f,A.t,yK (CT:=λ_=>True) N f h w o k (yC n) trivial t,k.binds j⟩
noncomputable def KM(f:B)(e:Str)(K:d_)(F:Ï)(n:Nat):Sp:=λd H Q _=>Ĝ f e H/\∃a,O K H a d/\a.length=n/\match F a with|some (.ok (.bl b))=>∀g,Q (.bl b) g|_=>False
theorem Gj(N q:List Str)(t:Ö)(hF:ψ=bt N.length t)(hn:r=q.length)(Fn:ġ u i θ τ e Â)(S:dO N q (ah τ))(hb:∀(k:D)(A:xy)(j:List Env)(s:g_)(H:Hp)(E:XK),Ĝ v b H->Ø d (A.deeper (Sq θ (ah τ) s.heap.objs.size e k))->Ż (kq ċ p m u Α I N θ (ah τ) e k A j s H E).nox (bB τ) t):è p m u Α I ċ (d+1) e Â q (KM v b u ψ r):=by
 subst hF hn;obtain⟨oc,od,kV,b',pm,an,k,ct,a',rfl,lk,w⟩:=Fn.ex;refine vf lk w S (λP H Q E h=>?_) λA j s H P Q E hr h=>?_;·obtain⟨_,n,a,y,_⟩:=h;rw[a.length,y]
 ·obtain⟨ht,n,a,y,z⟩:=h;refine⟨_,(hb k A j s H E ht hr).h.nox,n.map Z++L_ (N.length-n.length) Y,dH a,?_⟩;unfold bt at z;match o:t (n.map Z++L_ (N.length-n.length) Y)with|none=>rw[o]at z;exact z.elim|some (.exc c)=>rw[o]at z;exact z.elim|some (.nx ρ)=>rw[o]at z;exact z.elim|some (.rt f)=>rw[o]at z;cases f with|bl g=>exact z|_=>exact z.elim
theorem y3{c:Str}{p4 p5 b' t q y py h ap v m k t' p q2 j:Pos}{u:Nat}(hm:a.mg "list"=Y)(hp:UI (x_ a.prog a.w) a.A a.env a.xe)(c':PE a (.Name θ ω) (mJ d))(A:PE a (.Name θ Ψ) (mJ d))(h1:PE a (.Name b t) (mJ Β))(h2:PE a (.Name b q) (mJ Β))(a':∀e s H f,FA (aq a (b::([]:List (Str×Nat)).map (·.1)) η e s H f) [.Name b w] (aK (X 0) cM))(n:Ż a Ξ Ο)(f':Q8 (.ListComp (.Call (.Name "list" o) [.Name b w] [] p4) [⟨.Name b p5,.Name θ ω,[],0⟩] η y) (Z (.Name i py)) h.line a.env=pure U:=by lk)(hN:ė a.N=U:=by lk)(m':a.N[r]?=Z i:=by lk)(d':jA a.env.scope i=U:=by lk)(o':a.fn i=U:=by lk)(z:a.N[Β]?=Z b:=by lk)(e':jA a.env.scope b=U:=by lk)(p':a.fn b=U:=by lk)(n':∀e s H f,(aq a (b::([]:List (Str×Nat)).map (·.1)) η e s H f).env.kindOf "list"=Z .globalImplicit:=by intros;lk)(j':DE a.env.scope η [] a.N=U:=by lk)(q':SV η a.env=pure (kx η.names a.env []):=by lk)(hc:a.calm=U:=by lk)(hl:jA η b=U:=by lk)(he:∀e s H f,k_ [.Name b w] (aq a (b::([]:List (Str×Nat)).map (·.1)) η e s H f).env=(L,eval (.Name b w) (aq a (b::([]:List (Str×Nat)).map (·.1)) η e s H f).env)::k_ [] (aq a (b::([]:List (Str×Nat)).map (·.1)) η e s H f).env:=by intros;lk)(i':∀e s H f,(O_ p4 (k_ [] (aq a (b::([]:List (Str×Nat)).map (·.1)) η e s H f).env)).any (·.1)=L:=by intros;lk)(hs:∀b,QT (.Name θ ω) a.env b=pure b:=by intro _;lk)(h':∀b,QT (.Name θ Ψ) a.env b=pure b:=by intro _;lk)(s':Rx (.Name b t) "append" a.env (eval (.Name b t) a.env)=eval (.Name b t) a.env:=by lk)(P:((O_ v (k_ [.Constant (.str c) u p] a.env)).all (λb=>!b.1)&&(RM v (Rc [] a.env)).all (λb=>b.1.isSome)&&A_ ([Expr.Constant (.str c) u p].length+([]:List SI).length+(if([]:List SI).isEmpty then 0 else 1)<30))=U:=by lk)(l':(ap.endLine==v.line)=U:=by lk)(g':k_ [.Constant (.str c) u p] a.env=(L,eval (.Constant (.str c) u p) a.env)::k_ [] a.env:=by lk)(g:(O_ v (k_ [] a.env)).any (·.1)=L:=by lk)(I:Q8 (.Call (.Attribute (.Name b t) "append" ap) [.Constant (.str c) u p] [] v) Y j.line a.env=pure L:=by lk)(r':Rx (.Name b q) "reverse" a.env (eval (.Name b q) a.env)=eval (.Name b q) a.env:=by lk)(k':(m.endLine==k.line)=U:=by lk)(E:Q8 (.Call (.Attribute (.Name b q) "reverse" m) [] [] k) Y q2.line a.env=pure L:=by lk):Ż a (.Assign [.Name i py] (.ListComp (.Call (.Name "list" o) [.Name b w] [] p4) [⟨.Name b p5,.Name θ ω,[],0⟩] η y) h::.For (.Name b b') (.Name θ Ψ) [.Expr (.Call (.Attribute (.Name b t) "append" ap) [.Constant (.str c) u p] [] v) j,.Expr (.Call (.Attribute (.Name b q) "reverse" m) [] [] k) q2] [] t'::Ξ) (vL d r Β Ο):=BV (Gc (z:=[]) hN m' d' o' (Ej d c') a' (λe s H f=>ī (n' e s H f)) hm j' q' hc (by rfl) hl he i' f' hs) hp hc A z (gX (iI hN) z (eU e') (.inl p')) h1 h2 CS n s' P l' g' g I r' k' E h'
theorem y4{q f:Nat}{F:List N->Option Đ}(h:HG a.prog a.w a.K a.mg a.base r e q Β F)(j:Ø f a.A)(m:a.ex=[])(P:FA a (g::t) ε)(y:Ē a d Ξ Ç)(p:Ľ r=i:=by lk)(z:TM (q+1) f=U:=by lk)(E:a.env.kindOf i=Z .globalImplicit:=by lk)(hN:ė a.N=U:=by lk)(A:a.N[d]?=Z b:=by lk)(u:jA a.env.scope b=U:=by lk)(n:(i==("__debug__":Str))=L:=by lk)(I:k_ (g::t) a.env=(L,eval g a.env)::k_ t a.env:=by lk)(k:(O_ w (k_ t a.env)).any (·.1)=L:=by lk)(v:Q8 (.Call (.Name i ω) (g::t) [] w) (Z (.Name b Ψ)) o.line a.env=pure L:=by lk)(H:a.fn b=U:=by lk):ć a (.Assign [.Name b Ψ] (.Call (.Name i ω) (g::t) [] w) o::Ξ) (vJ d r F Β ε Ç):=by subst p;exact yZ h j m P y z E hN A u n I k v H
noncomputable def Ph:Option (Option D)->Bool|some Y=>U|_=>L
theorem ck_mk(n:Rq u z_ (Ľ d)=Z (Z (.ref e)))(i:Uo u e Str.empty=U)(k:UR u e=U)(g:V_ u e=U)(b:RF u (.ref e) "__setattr__"=Z (Z (.builtin "object.__setattr__")))(a:((Ď d).all λf=>Ph (RF u (.ref e) f))=U):CK u d e:=⟨n,⟨i,k,g,b⟩,λf j=>by
 have h:=Q2.mp a f j;unfold Ph at h;split at h;·assumption
 ·cases h⟩
theorem y6{mb:Str->Option D}{CX:Ĵ}{sp:Sp}{ns:List Int}(KX:u.In f.heap)(i':f.heap.Ns z_ Α)(y:f.heap.Ns builtinsNs mb)(v':∀i:Str,i≠"__name__"->mb i=R_ i)(n':f.heap.NoLimit)(hg:f.gens=#[])(ha:f.heap.get? v=Z {cls:=.type "list",data:=.seq ξ.toArray})(hi:WV ξ ns)(hl:ns.length<=sizeLine)(hr:Ø d XG)(c':f.heap.get? Ι=Z {cls:=.none,data:=.fields #[]})(u':Xm f.heap Ι)(x':u.lookup Ι=Y)(F:∀a':J_,u.In a'->a'.Ns z_ Α->è p m u Α a' CX d e Â [i] sp)(g':∀(s:g_)(j:D),WR s Â ⟨[j],[]⟩ [(i,j)])(t':∀H:Hp,ţ u H v (ns.map V.int)->Ĝ Ι b H->sp [.ref v] H (λt _=>t=.bl U) λ_ _ _=>False)(y':∀H g P,CX [] H f (λ_ _ _=>False) g P->False):Ta (x_ p m) XG (.call (.ref e) ⟨[.ref v],[]⟩) (λr P=>r=.ok (.ret (.bool U))/\OldK f.heap P.heap/\P.os=f.os/\VM P.gens) f:=by
 have rv:=jT hi;have m':=hi.length;have j':v≠Ι:=λz=>by rw[z,c']at ha;cases ha
 have f':∀H:Hp,H Ι=Z (.tbl #[.str b 0])->(∀a,a≠Ι->H a=Y\/∃o xs,H a=Z (.frz o (.lst xs)))->ţ u H v (ns.map V.int)->Ċ p m H f.heap->(∀a,H a≠Y->a=v\/a=Ι)->(H v≠Y->u.lookup v=Y)->Ta (x_ p m) XG (.call (.ref e) ⟨[.ref v],[]⟩) (λr P=>r=.ok (.ret (.bool U))/\OldK f.heap P.heap/\P.os=f.os/\VM P.gens) f:=by
  intro H hT hO hS h' hA hK;have E:∀{a:B}{o:Obj},f.heap.get? a=Z o->H a=Y->(Ao f.heap H).get? a=Z o:=λg n=>Ap g n;have p':∀{a:B}{o:Obj}{es:Array DictEntry}{ep:Nat},f.heap.get? a=Z o->o.data=.dict es ep->H a=Y:=λ{a o es ep}g k=>by cases q:H a with|none=>rfl|some j=>
    rcases hA a (by rw[q];simp)with rfl|rfl;·rw[ha]at g;cases g;have d':Data.seq ξ.toArray _=S7 es ep:=k;cases d'
    ·rw[c']at g;cases g;have d':Sz #[]=S7 es ep:=k;cases d'
  have b':∀{a:B}{w:Str->Option D},f.heap.Ns a w->(Ao f.heap H).Ns a w:=λ{a w}⟨o,es,ep,g,k,r⟩=>⟨o,es,ep,E g (p' g k),k,r⟩;have k':u.In (Ao f.heap H):=λa o g=>E (KX a o g) (by cases q:H a with|none=>rfl|some j=>
    rcases hA a (by rw[q];simp)with rfl|rfl;·rw[hK (by rw[q];simp)]at g;cases g
    ·rw[x']at g;cases g);have hM:Mod u Α (Ao f.heap H):=⟨k',b' i',⟨mb,b' y,v'⟩,let⟨mc,h1,h2⟩:=n';⟨mc,b' h1,h2⟩⟩;have e0:ĕ p m u Α (Ao f.heap H) XG [] f H:=⟨rfl,hM,λa o g=>DW g,UZ (wj _ _),trivial,λa y=>absurd (show a∈([]:List B)from y) (by simp),h',.of_eq hg⟩;refine RT ((F _ k' (b' i')).run XG [] f H ⟨[.ref v],[]⟩ [.ref v] [.ref v] _ _ hr e0 (g' f (.ref v)) (.cons rfl .nil) (t' H hS ⟨_,0,hT,rfl⟩)) λr P h=>?_;cases r with|error g=>exact(y' H g P h).elim|ok fl=>cases fl with|next=>exact QN h|brk=>exact QN h|cont=>exact QN h|ret j=>
    obtain⟨t,H',os,o',un,e',r',q⟩:=h;have q':t=.bl U:=q;subst q';obtain rfl:j=QQ U:=r';have kp:∀a o,a≠Ι->f.heap.get? a=Z o->P.heap.get? a=Z o:=λa o I g=>by cases q:H a with|none=>exact un.keep a o g q (by intro z;exact absurd (show a∈([]:List B)from z) (by simp)) (by simp)|some j=>
      rcases hO a I with z|⟨ob,xs,z⟩;·rw[q]at z;cases z
      ·have z2:=un.frzs a ob _ z;obtain⟨e1,_⟩:=h' a _ z;obtain⟨e2,_⟩:=e' a _ z2;rw[g]at e1;cases e1;exact e2
    obtain⟨A',w'⟩:=un.tbls Ι _ hT;obtain⟨qs,l',_⟩:=e' Ι _ w';refine⟨rfl,⟨λa o g=>?_,λa o g=>?_⟩,os,o'⟩
    · by_cases I:a=Ι;·subst I;rw[c']at g;cases g;exact .inr (.inl ⟨u',rfl,#[],qs,rfl,by rw[l'];simp⟩)
      ·exact .inl (kp a o I g)
    · by_cases I:a=Ι;·subst I;exact⟨_,l'⟩
      ·exact⟨o,kp a o I g⟩
 have Ř:∀H:Hp,é p m H f.heap Ι (.tbl #[.str b 0]):=λH=>⟨#[],c',trivial,λpos t hv=>by cases hv⟩;cases hk:u.lookup v with
 |some o=>
  have g:=KX v o hk;rw[ha]at g;cases g;refine f' (λa=>if a=Ι then Z (.tbl #[.str b 0])else Y) (if_pos rfl) (λa y=>.inl (if_neg y)) (.inr ⟨_,ξ.toArray,_,hk,rfl,rfl,rfl,by rw[E_,m'];exact hl,by simpa using rv⟩) (λa j z=>?_) (λa z=>?_) λz=>absurd (if_neg j') z
  · by_cases y:a=Ι;·have z':=(if_pos y).symm.trans z;cases z';subst y;exact Ř _
    ·have z':=(if_neg y).symm.trans z;cases z'
  · by_cases y:a=Ι;·exact .inr y
    ·exact absurd (if_neg y) z|none=>
  refine f' (λa=>if a=Ι then Z (.tbl #[.str b 0])else if a=v then Z (.frz {cls:=.type "list",data:=.seq ξ.toArray} (.lst (ns.map V.int)))else Y) (if_pos rfl) (λa y=>?_) (.inl ⟨{cls:=.type "list",data:=.seq ξ.toArray},(if_neg j').trans (if_pos rfl)⟩) (λa j z=>?_) (λa z=>?_) λ_=>hk
  · by_cases A:a=v;·exact .inr ⟨_,_,by rw[if_neg y,if_pos A]⟩
    ·exact .inl (by rw[if_neg y,if_neg A])
  · by_cases y:a=Ι;·have z':=(if_pos y).symm.trans z;cases z';subst y;exact Ř _
    · have z1:=(if_neg y).symm.trans z;by_cases A:a=v;·have z':=(if_pos A).symm.trans z1;cases z';subst A;exact⟨ha,by rw[QL];exact hl,ξ,_,rv,ha⟩
      ·have z':=(if_neg A).symm.trans z1;cases z'
  · by_cases y:a=Ι;·exact .inr y
    · by_cases A:a=v;·exact .inl A
      ·exact absurd (by rw[if_neg y,if_neg A]) z
theorem B9{l:W3}{XP:(Str->Option D)->J_->Prop}{YP:w_->J_->Prop}{j:DefRec}{K:Vz->d_}{CX:w_->Ĵ}{sp:w_->Sp}(hn:l.most=Z d)(b':d<=sizeLine)(d':j.params.defaults=[])(hr:Ø r XG)(hY:∀(w:w_)(h:J_),YP w h->(K w.params).In h)(e':∀(w:w_)(h:J_),YP w h->h.get? e=Z {cls:=.none,data:=.fields #[]}/\Xm h e/\(K w.params).lookup e=Y)(F:∀(w:w_)(t:Str->Option D)(I:B)(h:J_),(K w.params).In h->h.Ns z_ t->t j.name=Z (.ref I)->∃fd:Rj,(∀(s:g_)(u:D),WR s fd ⟨[u],[]⟩ [(b,u)])/\∀m:J_,(K w.params).In m->m.Ns z_ t->è l.prog w (K w.params) t m (CX w) r I fd [b] (sp w))(a':∀(w:w_)(H:Hp)(a:B)(E:List Int),E.length<=d->ţ (K w.params) H a (E.map V.int)->Ĝ e i H->sp w [.ref a] H (λv _=>v=.bl U) λ_ _ _=>False)(f':∀(w:w_)(H:Hp)(s:g_)(g:D)(P:g_),CX w [] H s (λ_ _ _=>False) g P->False):Ze p z XP YP l.row.toRowW j [] (λf vs=>Y4 f vs):=by refine Att.attach_call hn d' λw g' y t mb I o pm cd i' a vs E G k ho hd h' c' A q n hg=>?_;have KX:=hY w _ k;obtain⟨fd,hb,hF⟩:=F w t I _ KX G.T.g c';obtain⟨t1,t2,t3⟩:=e' w _ k;exact y6 KX G.T.g G.T.b G.T.builtins G.T.nolimit hg A q (QV n b') hr t1 t2 t3 hF hb (λH hS hT=>a' w H a E n hS hT) λH g P=>f' w H y g P
theorem lZ{i:Nat}{j:List Nat}{f:Ö}{g:Ev}:∀{k:List N},(∀d∈k,∃b,f (g.set i (Z d))=Z (.nx b)/\fgt j b=g)->∀a,fgt j a=g->lO i j f k a=Z (.nx g)|[],_,a,e=>by unfold lO;rw[e]|d::k,h,a,e=>by obtain⟨b,o,n⟩:=h d q_;unfold lO;rw[e,o];exact lZ (λp m=>h p (on _ m)) b n
theorem Ca{g:Ö}(h:Μ H=Z (.ok U)):ba Μ Ο g H=Ο H:=by unfold ba;rw[h];rfl
theorem aS{p:υ->Bool}{l:List υ}(h:l.all p=U){x:υ}(a:x∈l):p x=U:=Q2.mp h x a
end FD
variable{θ:Str}{Ç:FD.ò}
namespace G
open L2 FD
noncomputable def Ô(i:Nat):Re:=p9_.main.body.getD i (.Pass ⟨0,0,0,0⟩)
section
variable{X:C}{a b c o e:u_}{es:List u_}{fa fb fc fo:Ò}{ga:Û}{pos p pt apos cpos:Pos}
theorem KN(e:FE X a fa)(d:FE X b fb):FE X (.BinOp a .Add b pos) (Q cR fa fb):=vk Ÿ IW e d
theorem KO(e:FE X a fa)(d:FE X b fb):FE X (.BinOp a .Add b pos) (Q cK fa fb):=vk JL JM e d
theorem KP(e:FE X a fa)(d:FE X b fb):FE X (.BinOp a .Sub b pos) (Q xg fa fb):=vk Ig Ni e d
theorem KQ(e:FE X a fa)(d:FE X b fb):FE X (.BinOp a .Mult b pos) (Q k9 fa fb):=vk Ih Nj e d
theorem KR(e:FE X a fa)(d:FE X b fb):FE X (.BinOp a .Mod b pos) (Q jQ fa fb):=vk Ii Nk e d
theorem Gk(e:FE X a fa)(d:FE X b fb):FE X (.BinOp a .FloorDiv b pos) (Q jW fa fb):=vk D6 IX e d
theorem KS(d:X.A.units+64<cLine)(g:FE X a fa)(f:FE X b fb)(e:QR .Eq b=L:=by lk):FT X (.Compare a [.Eq] [b] pos) (fB (Q Þ fa fb)):=jU (Jk d) Jm g f e
theorem KT(d:X.A.units+64<cLine)(g:FE X a fa)(f:FE X b fb)(e:QR .NotEq b=L:=by lk):FT X (.Compare a [.NotEq] [b] pos) (fB (Q Ě fa fb)):=jU (Jl d) Jn g f e
theorem KU(f:FE X a fa)(e:FE X b fb)(d:QR .Lt b=L:=by lk):FT X (.Compare a [.Lt] [b] pos) (fB (Q Ţ fa fb)):=jU Jo Jp f e d
theorem KW(f:FE X a fa)(e:FE X b fb)(d:QR .Gt b=L:=by lk):FT X (.Compare a [.Gt] [b] pos) (fB (Q ō fa fb)):=jU Ik (IZ _) f e d
theorem KY(f:FE X a fa)(e:FE X b fb)(d:QR .Is b=L:=by lk):FT X (.Compare a [.Is] [b] pos) (fB (Q Ą fa fb)):=jU CY Ja f e d
theorem Gm(f:FE X a fa)(e:FE X b fb)(d:QR .IsNot b=L:=by lk):FT X (.Compare a [.IsNot] [b] pos) (fB (Q lP fa fb)):=jU wB Dg f e d
theorem Go(d:X.A.units<cLine)(g:FE X a fa)(f:FE X b fb)(e:QR .Eq b=L:=by lk):FT X (.Compare a [.Eq] [b] pos) (fB (Q Mm fa fb)):=jU (Np d) Nq g f e
theorem KZ(f:FE X a fa)(e:FE X b fb)(d:QR .In b=L:=by lk):FT X (.Compare a [.In] [b] pos) (fB (Q ŋ fa fb)):=jU O2 O3 f e d
theorem y9(d:X.A.units+64<cLine)(g:FE X a fa)(f:FE X b fb)(e:QR .NotIn b=L:=by lk):FT X (.Compare a [.NotIn] [b] pos) (fB (Q jy fa fb)):=jU (Bf d) Bg g f e
theorem K0(d:X.A.units+64<cLine)(g:FE X a fa)(f:FE X b fb)(e:QR .Eq b=L:=by lk):FE X (.Compare a [.Eq] [b] pos) (Q Þ fa fb):=kY (Jk d) Jm g f e
theorem K1(f:FE X a fa)(e:FE X b fb)(d:QR .Lt b=L:=by lk):FE X (.Compare a [.Lt] [b] pos) (Q Ţ fa fb):=kY Jo Jp f e d
theorem K2(f:FE X a fa)(e:FE X b fb)(d:QR .LtE b=L:=by lk):FE X (.Compare a [.LtE] [b] pos) (Q į fa fb):=kY NH NI f e d
theorem K3(f:FE X a fa)(e:FE X b fb)(d:QR .Gt b=L:=by lk):FE X (.Compare a [.Gt] [b] pos) (Q ō fa fb):=kY Ik (IZ _) f e d
theorem K4(f:FE X a fa)(e:FE X b fb)(d:QR .Is b=L:=by lk):FE X (.Compare a [.Is] [b] pos) (Q Ą fa fb):=kY CY Ja f e d
theorem Gp(f:FE X a fa)(e:FE X b fb)(d:QR .IsNot b=L:=by lk):FE X (.Compare a [.IsNot] [b] pos) (Q lP fa fb):=kY wB Dg f e d
theorem K5(f:FE X a fa)(e:FE X b fb)(d:QR .In b=L:=by lk):FE X (.Compare a [.In] [b] pos) (Q ŋ fa fb):=kY O2 O3 f e d
theorem za(f:FE X a fa)(e:FE X b fb)(d:QR .NotIn b=L:=by lk):FE X (.Compare a [.NotIn] [b] pos) (Q pW fa fb):=kY Ł xj f e d
theorem K6(h:X.mg "isinstance"=Y)(g:X.mg "int"=Y)(j:FE X a fa)(i:X.env.kindOf (b_ "isinstance")=Z .globalImplicit:=by lk)(f:X.env.kindOf (b_ "int")=Z .globalImplicit:=by lk)(d:k_ [a,.Name (b_ "int") pt] X.env=(L,eval a X.env)::k_ [.Name (b_ "int") pt] X.env:=by lk)(b:k_ [.Name (b_ "int") pt] X.env=(L,eval (.Name (b_ "int") pt) X.env)::k_ [] X.env:=by lk)(e:(O_ pos (k_ [.Name (b_ "int") pt] X.env)).any (·.1)=L:=by lk):FE X (.Call (.Name "isinstance" p) [a,.Name (b_ "int") pt] [] pos) (f1 (jt oA) fa):=uh (T:="int") Fe JW (by decide+kernel) (by lk) i h f g j d b e
theorem K7(h:X.mg "isinstance"=Y)(g:X.mg "str"=Y)(j:FE X a fa)(i:X.env.kindOf (b_ "isinstance")=Z .globalImplicit:=by lk)(f:X.env.kindOf (b_ "str")=Z .globalImplicit:=by lk)(d:k_ [a,.Name (b_ "str") pt] X.env=(L,eval a X.env)::k_ [.Name (b_ "str") pt] X.env:=by lk)(b:k_ [.Name (b_ "str") pt] X.env=(L,eval (.Name (b_ "str") pt) X.env)::k_ [] X.env:=by lk)(e:(O_ pos (k_ [.Name (b_ "str") pt] X.env)).any (·.1)=L:=by lk):FE X (.Call (.Name "isinstance" p) [a,.Name (b_ "str") pt] [] pos) (f1 (jt pX) fa):=uh (T:="str") Ey Jh (by decide+kernel) (by lk) i h f g j d b e
theorem Cb(h:X.mg "isinstance"=Y)(g:X.mg "tuple"=Y)(j:FE X a fa)(i:X.env.kindOf (b_ "isinstance")=Z .globalImplicit:=by lk)(f:X.env.kindOf (b_ "tuple")=Z .globalImplicit:=by lk)(d:k_ [a,.Name (b_ "tuple") pt] X.env=(L,eval a X.env)::k_ [.Name (b_ "tuple") pt] X.env:=by lk)(b:k_ [.Name (b_ "tuple") pt] X.env=(L,eval (.Name (b_ "tuple") pt) X.env)::k_ [] X.env:=by lk)(e:(O_ pos (k_ [.Name (b_ "tuple") pt] X.env)).any (·.1)=L:=by lk):FE X (.Call (.Name "isinstance" p) [a,.Name (b_ "tuple") pt] [] pos) (f1 (jt rW) fa):=uh (T:="tuple") Ez AO (by decide+kernel) (by lk) i h f g j d b e
theorem Gq(h:X.mg "isinstance"=Y)(g:X.mg "bool"=Y)(j:FE X a fa)(i:X.env.kindOf (b_ "isinstance")=Z .globalImplicit:=by lk)(f:X.env.kindOf (b_ "bool")=Z .globalImplicit:=by lk)(d:k_ [a,.Name (b_ "bool") pt] X.env=(L,eval a X.env)::k_ [.Name (b_ "bool") pt] X.env:=by lk)(b:k_ [.Name (b_ "bool") pt] X.env=(L,eval (.Name (b_ "bool") pt) X.env)::k_ [] X.env:=by lk)(e:(O_ pos (k_ [.Name (b_ "bool") pt] X.env)).any (·.1)=L:=by lk):FE X (.Call (.Name "isinstance" p) [a,.Name (b_ "bool") pt] [] pos) (f1 (jt ez) fa):=uh (T:="bool") AM EC (by decide+kernel) (by lk) i h f g j d b e
theorem oN(a:FE X o fo)(b:FA X (e::es) ga)(h:Ų X o "startswith" e es apos cpos:=by exact⟨by lk,by lk,by lk,by lk,by lk⟩):FE X (.Call (.Attribute o "startswith" apos) (e::es) [] cpos) (fM (pY Q6) fo ga):=qA PySem.F.slot_str_startswith PySem.F.type_str_startswith Nn Di a b h
theorem su(a:FE X o fo)(b:FA X (e::es) ga)(h:Ų X o "endswith" e es apos cpos:=by exact⟨by lk,by lk,by lk,by lk,by lk⟩):FE X (.Call (.Attribute o "endswith" apos) (e::es) [] cpos) (fM (pY VI) fo ga):=qA PySem.F.slot_str_endswith PySem.F.type_str_endswith No Di a b h
theorem Cc(a:FE X o fo)(b:FA X (e::es) ga)(h:Ų X o "split" e es apos cpos:=by exact⟨by lk,by lk,by lk,by lk,by lk⟩):FE X (.Call (.Attribute o "split" apos) (e::es) [] cpos) (fM (gG) fo ga):=qA UO PySem.F.type_str_split AQ ED a b h
theorem Gr(a:FE X o fo)(b:FA X (e::es) ga)(h:Ų X o "join" e es apos cpos:=by exact⟨by lk,by lk,by lk,by lk,by lk⟩):FE X (.Call (.Attribute o "join" apos) (e::es) [] cpos) (fM (mL) fo ga):=qA PySem.F.slot_str_join PySem.F.type_str_join EE Jt a b h
theorem qJ(a:FE X o fo)(b:FA X (e::es) ga)(h:Ų X o "partition" e es apos cpos:=by exact⟨by lk,by lk,by lk,by lk,by lk⟩):FE X (.Call (.Attribute o "partition" apos) (e::es) [] cpos) (fM (ow) fo ga):=qA Wv PySem.F.type_str_partition EG Jv a b h
theorem Cd(a:FE X o fo)(b:FA X (e::es) ga)(h:Ų X o "strip" e es apos cpos:=by exact⟨by lk,by lk,by lk,by lk,by lk⟩):FE X (.Call (.Attribute o "strip" apos) (e::es) [] cpos) (fM (lR) fo ga):=qA PySem.F.slot_str_strip PySem.F.type_str_strip Ba ET a b h
theorem Ce(a:FE X o fo)(b:FA X (e::es) ga)(h:Ų X o "rfind" e es apos cpos:=by exact⟨by lk,by lk,by lk,by lk,by lk⟩):FE X (.Call (.Attribute o "rfind" apos) (e::es) [] cpos) (fM (Ml Zl) fo ga):=qA PySem.F.slot_str_rfind PySem.F.type_str_rfind AN Jg a b h
theorem K8(a:FE X o fo)(b:FA X (e::es) ga)(h:Ų X o "index" e es apos cpos:=by exact⟨by lk,by lk,by lk,by lk,by lk⟩):FE X (.Call (.Attribute o "index" apos) (e::es) [] cpos) (fM JN fo ga):=qA PySem.F.slot_str_index PySem.F.type_str_index JO NA a b h
theorem dN{x:Str}(h:FE X (.Name x p) fa):FE X (.Name x p) fa:=h
theorem dC{k:Const}{n:Nat}(h:FE X (.Constant k n p) fa):FE X (.Constant k n p) fa:=h
theorem dA(h:FA X es ga):FA X es ga:=h
theorem dK{x:Str}{a:List SI}(h:FE X (.Call (.Name x p) es a pos) fa):FE X (.Call (.Name x p) es a pos) fa:=h
theorem dM{x:Str}{a:List SI}(h:FE X (.Call (.Attribute o x p) es a pos) fa):FE X (.Call (.Attribute o x p) es a pos) fa:=h
theorem dB{d:Operator}(h:FE X (.BinOp a d b pos) fa):FE X (.BinOp a d b pos) fa:=h
theorem dQ{b:List CmpOp}(h:FE X (.Compare a b es pos) fa):FE X (.Compare a b es pos) fa:=h
theorem dT{fb:ã}(h:FT X a fb):FT X a fb:=h
theorem dW{fb:ã}(h:FW X a fb):FW X a fb:=h
theorem dE(h:FE X a fa):FE X a fa:=h
theorem dSs{a:List Re}{f:Ö}(h:ć X a f):ć X a f:=h
theorem dS{a:Re}{f:Ö}(h:FS X a f):FS X a f:=h
end
local macro_rules|`(tactic|walk_at"x")=>`(tactic|(first|with_reducible((fail_if_success(fail_if_success refine dN ?_));first|exact M9 _ (by lk) (by kernel_rfl!)|exact Na _ (by lk) (by kernel_rfl!)|exact NT (by room) (by kernel_rfl!)|exact NU (by room) (by kernel_rfl!))|with_reducible((fail_if_success(fail_if_success refine dC ?_));first|exact IB|exact ID|exact Nb|exact IC)|with_reducible((fail_if_success(fail_if_success refine dA ?_));first|exact wX|refine rR ?_ ?_)|with_reducible((fail_if_success(fail_if_success refine dK ?_));first|refine yI (z:=["note"]) (by room) (by room) (by room) (by room) (by room) ?_ ?_|refine BB (by room) (by room) (by kernel_rfl!) ?_|refine yB (by room) (by room) (by kernel_rfl!) (by lk) ?_|refine yH (by room) (by room) (by room) (by kernel_rfl!) ?_|refine nJ (by room) (by room) (by room) (by kernel_rfl!) (by lk) ?_|refine xZ ?_ (by lk) (ī (by lk)) ?_ (ī (by lk)) ?_ ?_|refine vz (by lk) (ī (by lk)) ?_ (ī (by lk)) ?_ ?_|refine yF (by room) (by room) (by room) (by kernel_rfl!) ?_|refine yN (by room) (by room) (by kernel_rfl!) ?_|refine FE.callN (nJ (by room) (by room) (by room) (by kernel_rfl!) (by lk) ?_)|refine Jc (ī (by lk)) ?_ ?_|refine AR (ī (by lk)) ?_ ?_|refine Bs (ī (by lk)) ?_ ?_|refine Ft (ī (by lk)) ?_ ?_|refine Je (by lk) (ī (by lk)) ?_ ?_|refine Fv (by lk) (ī (by lk)) ?_ ?_|refine Kf (by lk) (ī (by lk)) ?_ ?_|refine JY (by lk) (ī (by lk)) ?_ ?_|refine JZ (by lk) (ī (by lk)) ?_ ?_|refine K6 ?_ ?_ ?_|refine K7 ?_ ?_ ?_|refine Cb ?_ ?_ ?_|refine Gq ?_ ?_ ?_)|with_reducible((fail_if_success(fail_if_success refine dM ?_));first|refine oN ?_ ?_|refine su ?_ ?_|refine Cc ?_ ?_|refine Gr ?_ ?_|refine qJ ?_ ?_|refine Cd ?_ ?_|refine Ce ?_ ?_|refine K8 ?_ ?_|refine A0 ?_ ?_|refine AT ?_ ?_|refine yW (by room) (by room) (by kernel_rfl!) (by lk) ?_|refine BZ (by room) (by room) (by kernel_rfl!) (by lk) ?_ ?_|refine yX (by room) (by with_unfolding_all(first|assumption|exact ñ.of (by assumption)|exact FR (by assumption))) (by kernel_rfl!) ?_)|with_reducible((fail_if_success(fail_if_success refine dB ?_));first|refine KN ?_ ?_|refine KO ?_ ?_|refine KP ?_ ?_|refine KQ ?_ ?_|refine KR ?_ ?_|refine Gk ?_ ?_)|with_reducible((fail_if_success(fail_if_success refine dQ ?_));first|refine K0 ?_ ?_ ?_|refine K1 ?_ ?_|refine K2 ?_ ?_|refine K3 ?_ ?_|refine K4 ?_ ?_|refine Gp ?_ ?_|refine K5 ?_ ?_|refine za ?_ ?_)|with_reducible((fail_if_success(fail_if_success refine dT ?_));first|refine KS ?_ ?_ ?_|refine KT ?_ ?_ ?_|refine KU ?_ ?_|refine KW ?_ ?_|refine KY ?_ ?_|refine Gm ?_ ?_|refine Go ?_ ?_ ?_|refine KZ ?_ ?_|refine y9 ?_ ?_ ?_|refine FW.ft (Da ?_ ?_)|refine FW.ft (IG ?_ ?_)|refine IH ?_|refine IE ?_)|with_reducible((fail_if_success(fail_if_success refine dW ?_));first|refine Da ?_ ?_|refine IG ?_ ?_|refine Em ?_|refine IF ?_)|with_reducible((fail_if_success(fail_if_success refine dE ?_));first|refine Kt ?_ ?_|refine IN ?_|refine IM ?_|refine II ?_|refine IJ ?_ ?_|refine Nc ?_ ?_|refine IK ?_|refine IY ?_|refine Nd ?_ ?_ ?_|refine Jb ?_ ?_ ?_|refine EU ?_ ?_ ?_|refine NV ?_ ?_ ?_|refine NY ?_ ?_ ?_|refine Gg (by room) ?_)|with_reducible((fail_if_success(fail_if_success refine dSs ?_));first|exact Eo|refine wY ?_|refine BD ?_ ?_|refine AD ?_ ?_|refine y4 (by room) (by room) (by lk) ?_ ?_|exact wZ)|with_reducible((fail_if_success(fail_if_success refine dS ?_));first|refine Db ?_|refine Ng ?_ ?_ ?_|refine Ep ?_|refine NX ?_ ?_ ?_ (by kernel_rfl!)|refine FL ?_|refine JB (by lk) ?_ ?_|refine FN ?_ ?_ ?_|refine BE ?_ ?_ ?_|refine AY _ (by with_unfolding_all exact Ė.xc (by assumption) _ (by decide)) (by lk) (by with_unfolding_all exact CA.c (by assumption) (by decide) rfl) (by lk) (by lk) (ī (by lk)) ?_|refine Ga _ (by lk) (by lk) (by lk) (ī (by lk)) (by with_unfolding_all exact CA.j (by assumption)) (by with_unfolding_all exact Ė.exJ (by assumption)) (by with_unfolding_all exact CA.xk (by assumption)) ?_ ?_)|with_reducible exact Eu|with_reducible refine Ew ?_|with_reducible exact uD|with_reducible refine BC ?_|with_reducible intro _ _ _ _|with_reducible refine w8 (ī (by lk)) ?_ ?_|with_reducible refine w9 (ī (by lk)) ?_ ?_|with_reducible refine IS ?_|with_reducible refine AV (ī (by lk)) ?_ ?_|with_reducible refine Fp (ī (by lk)) ?_ ?_|with_reducible refine FI.toG ?_|with_reducible refine BF ?_|with_reducible exact Jx|with_reducible intro _ _|with_reducible exact Fb|with_reducible refine Fc ?_|with_reducible refine Bi ?_ ?_|with_reducible refine JR ?_|with_reducible refine JQ ?_ ?_ ?_|with_reducible refine NF (by lk) ?_ ?_ ?_|with_reducible refine FQ ?_ (hZ (by lk) (by lk) (by lk) (by lk))|with_reducible refine Br (by lk) (hZ (by lk) (by lk) (by lk) (by lk)) ?_ ?_|with_reducible refine FM ?_|with_reducible refine FP ?_ ?_ ?_|assumption|exact MA.no (by assumption) (by lk)|exact Ø.units (by assumption)|exact ñ.units (by assumption)|exact Ø.units0 (by assumption)|exact PassesOwn.never|exact PassesOwn.leaving|with_reducible exact F5|with_reducible refine qI (by room) (by room) (by lk) (hZ (by lk) (by lk) (by lk) (by lk)) ?_ ?_|with_reducible refine B4 ?_ ?_|with_reducible refine BP ?_ ?_|with_reducible refine F7 ?_|with_reducible refine B5 (by room) (hZ (by lk) (by lk) (by lk) (by lk)) ?_ ?_|with_reducible refine yY (by room) (by room) (by lk) (hZ (by lk) (by lk) (by lk) (by lk)) ?_ ?_ ?_ ?_ ?_ ?_|with_reducible refine yR ?_ ?_ ?_|with_reducible refine N5 ?_ ?_ ?_|with_reducible refine B1 (by room) (by room) (by kernel_rfl!) (by lk) ?_ ?_|with_reducible refine B6 (by room) (by room) (by room) (by lk) ?_ ?_|with_unfolding_all exact vH (by assumption)|with_reducible refine y3 ?_ ?_ (hZ (by lk) (by lk) (by lk) (by lk)) (hZ (by lk) (by lk) (by lk) (by lk)) (hZ (by lk) (by lk) (by lk) (by lk)) (hZ (by lk) (by lk) (by lk) (by lk)) ?_ ?_|with_reducible refine BS ?_ ?_|with_reducible refine KH ?_)<;>walk_at"x")
local macro_rules|`(tactic|fin2)=>`(tactic|(intros;(conv=>arg 2;whnf);walk_at"x"))
local macro_rules|`(tactic|walk_at"q")=>`(tactic|(intros;(conv=>arg 3;whnf);walk_at"x"))
def CC:DD:=[cN "all",cN "any",cN "bool",cN "enumerate",cN "int",cN "isinstance",cN "len",cN "list",cN "max",cN "min",cN "range",cN "set",cN "sorted",cN "str",cN "tuple",cN "zip",cI "ASK_HOUSE" 1,cI "ASK_ORIGIN" 3,cI "ASK_PARTS" 4,cI "ASK_PATH" 2,cI "ASK_SAFE" 0,cS "FIGURES" "0123456789",cI "GIVEN_HOUSE" 2,cI "GIVEN_LASTS" 5,cI "GIVEN_NAME" 0,cI "GIVEN_PARTS" 8,cI "GIVEN_PATH" 3,cI "GIVEN_REACH" 7,cI "GIVEN_SAFE" 6,cI "GIVEN_UNTIL" 4,cI "GIVEN_WORTH" 1,cS "LABEL_SIGNS" "abcdefghijklmnopqrstuvwxyz0123456789-",cI "LARGEST_ROOM" 20,cI "LAST_MOMENT" 9999,cI "LONGEST_LABEL" 8,cI "LONGEST_NOTE_NAME" 10,cI "LONGEST_PATH" 20,cI "LONGEST_WORTH" 12,cI "MOST_FIGURES" 4,cI "MOST_LABELS" 5,cI "MOST_NOTES" 20,cI "MOST_RULES" 8,cI "NOTE_ENDS" 5,cI "NOTE_EXACT" 3,cI "NOTE_HOUSE" 2,cI "NOTE_MADE" 8,cI "NOTE_NAME" 0,cS "NOTE_NAME_SIGNS" "abcdefghijklmnopqrstuvwxyzABCDEFGHIJKLMNOPQRSTUVWXYZ0123456789-_",cI "NOTE_PARTS" 10,cI "NOTE_PATH" 4,cI "NOTE_REACH" 7,cI "NOTE_SAFE" 6,cI "NOTE_USED" 9,cI "NOTE_WORTH" 1,cS "NO_WORTH_SIGNS" ";,=",cS "PATH_SIGNS" "abcdefghijklmnopqrstuvwxyz0123456789-_./"]
noncomputable def qL:Str:="sent.<locals>.<lambda>"
section
variable{P:n_}{w:w_}{K:d_}{mg:Str->Option D}{base h:J_}{f:B}{Pt:B}{cls:Nat->B}{CJ:B}{C:B}(ck:CK K 0 C)(XI:K.In h)(Gn:h.Ns z_ mg)(M:MA mg CC)(bi:Ky K mg)(xa:Ė K [0,1,2,3,4,5,6] cls CJ)(ca:CA K mg cls CJ [0,1,2,3,4,5,6] 7)
include XI Gn M bi xa ca ck
noncomputable def TO0:pI:=[]
noncomputable def TQ0:pI:=[]
noncomputable def T0:bL:=[]
noncomputable def TE0:bL:=[]
noncomputable def TL0:bL:=[]
noncomputable def TU0:bL:=[]
def aY:Ö:=(aA (ba (ÿ (cg (fB (f1 (jt oA) (X 0)))) (fB (f1 (jt ez) (X 0)))) (aH (fC (.bl L))) (λa=>Z (.nx a))) (aH (iD (Q į (X 1) (X 0)) (Q į (X 0) (X 2)))))
def aF:Ï:=bt 3 aY
def T1:bL:=("is_whole_number",1,["thing","least","most"],aF)::T0
theorem ka(A:Af K "is_whole_number" (Ô 11) f)(t:HA P w K mg base T0):HA P w K mg base T1:=az (aO XI Gn ["thing","least","most"] ["thing","least","most"] aY A (aJ (by lk)) (by delta aY;fin2)) t
def gc:Ö:=(ba (cg (fB (ae aF 3 (bT (X 0) (R 0) (R 20))))) (eC 6 (Ñ "this is no room")) (λa=>Z (.nx a)))
def cV:Ï:=dL 1 gc
def TE1:bL:=("need_room",2,["thing"],cV)::TE0
theorem qK(A:Af K "need_room" (Ô 124) f)(t:HA P w K mg base T1)(a:î P w K mg base TE0):î P w K mg base TE1:=br (bM XI Gn ["thing"] ["thing"] gc A (aJ (by lk)) (by delta gc;fin2)) a
def iM:Ö:=(aA (ba (cg (fB (f1 (jt pX) (X 0)))) (aH (fC (.bl L))) (λa=>Z (.nx a))) (aA (ba (ÿ (fB (Q Ţ (ß iC (ax (X 0))) (X 2))) (fB (Q ō (ß iC (ax (X 0))) (X 3)))) (aH (fC (.bl L))) (λa=>Z (.nx a))) (aH (ß mK (ax (bU [("signs",1)] (da (X 0)) Y (Q ŋ (X 0) (X 1))))))))
def dI:Ï:=bt 4 iM
def T2:bL:=("is_text_of",1,["thing","signs","least","most"],dI)::T1
theorem oO(A:Af K "is_text_of" (Ô 10) f)(t:HA P w K mg base T1):HA P w K mg base T2:=az (aO XI Gn ["thing","signs","least","most"] ["thing","signs","least","most"] iM A (aJ (by lk)) (by delta iM;fin2)) t
def kK:Ö:=(aA (ba (cg (fB (ae dI 4 (iE (X 0) (Ñ "abcdefghijklmnopqrstuvwxyz0123456789-") (R 1) (R 8))))) (aH (fC (.bl L))) (λa=>Z (.nx a))) (aH (iD (Mi (fM (pY Q6) (X 0) (ax (Ñ "-")))) (Mi (fM (pY VI) (X 0) (ax (Ñ "-")))))))
def nN:Ï:=bt 1 kK
def T3:bL:=("is_label",2,["thing"],nN)::T2
theorem sx(A:Af K "is_label" (Ô 19) f)(t:HA P w K mg base T2):HA P w K mg base T3:=az (aO XI Gn ["thing"] ["thing"] kK A (aJ (by lk)) (by delta kK;fin2)) t
def l4:Ö:=(aA (ba (cg (fB (f1 (jt pX) (X 0)))) (aH (fC (.bl L))) (λa=>Z (.nx a))) (aA (bI 1 (fM (gG) (X 0) (ax (Ñ ".")))) (aA (ba (ÿ (fB (Q ō (ß iC (ax (X 1))) (R 5))) (cg (fB (ß mK (ax (bU [] (da (X 1)) Y (ae nN 1 (ax (X 0))))))))) (aH (fC (.bl L))) (λa=>Z (.nx a))) (aH (Mi (ae dI 4 (iE (Q Î (X 1) (f1 AG (R 1))) (Ñ "0123456789") (R 1) (R 8))))))))
def bW:Ï:=bt 2 l4
def T4:bL:=("is_name",3,["thing"],bW)::T3
theorem vM(A:Af K "is_name" (Ô 20) f)(t:HA P w K mg base T3):HA P w K mg base T4:=az (aO XI Gn ["thing","parts"] ["thing"] l4 A (aJ (by lk)) (by delta l4;fin2)) t
def l7:Ö:=(aA (ba (cg (fB (f1 (jt pX) (X 0)))) (aH (fC (.bl L))) (λa=>Z (.nx a))) (aA (ba (fB (fM (pY Q6) (X 0) (ax (Ñ "*.")))) (aH (ae bW 1 (ax (v8 (X 0) (dk (R 2)) fA)))) (λa=>Z (.nx a))) (aA (ba (fB (fM (pY Q6) (X 0) (ax (Ñ "!")))) (aH (iD (Q ŋ (Ñ ".") (X 0)) (ae bW 1 (ax (v8 (X 0) (dk (R 1)) fA))))) (λa=>Z (.nx a))) (aH (ae bW 1 (ax (X 0)))))))
def qM:Ï:=bt 1 l7
def T5:bL:=("is_rule",4,["thing"],qM)::T4
theorem vN(A:Af K "is_rule" (Ô 21) f)(t:HA P w K mg base T4):HA P w K mg base T5:=az (aO XI Gn ["thing"] ["thing"] l7 A (aJ (by lk)) (by delta l7;fin2)) t
def kL:Ö:=(aA (ba (ÿ (cg (fB (f1 (jt rW) (X 0)))) (fB (Q ō (ß iC (ax (X 0))) (R 8)))) (aH (fC (.bl L))) (λa=>Z (.nx a))) (aA (ba (cg (fB (ß mK (ax (bU [] (da (X 0)) Y (ae qM 1 (ax (X 0)))))))) (aH (fC (.bl L))) (λa=>Z (.nx a))) (aH (ß mK (ax (bU [("thing",0)] (λa=>Ù ((bA (R 1) (ß iC (ax (X 0)))) a) Ab) Y (Q Ţ (Q Î (X 1) (Q xg (X 0) (R 1))) (Q Î (X 1) (X 0)))))))))
def cD:Ï:=bt 1 kL
def T6:bL:=("is_table",5,["thing"],cD)::T5
theorem sy(A:Af K "is_table" (Ô 22) f)(t:HA P w K mg base T5):HA P w K mg base T6:=az (aO XI Gn ["thing"] ["thing"] kL A (aJ (by lk)) (by delta kL;fin2)) t
def fk:Ö:=(ba (cg (fB (ae cD 1 (ax (X 0))))) (eC 1 (Ñ "this is no table")) (λa=>Z (.nx a)))
def aL:Ï:=dL 1 fk
def ZC:bL:=("need_table",6,["thing"],aL)::TE1
theorem oP(A:Af K "need_table" (Ô 24) f)(t:HA P w K mg base T6)(a:î P w K mg base TE1):î P w K mg base ZC:=br (bM XI Gn ["thing"] ["thing"] fk A (aJ (by lk)) (by delta fk;fin2)) a
def bu:ò:=(mO (av aL 1 (ax (X 1))) (mO (av cV 1 (ax (X 2))) (mO (av cV 1 (ax (X 3))) (wa 0 0 0 (X 1) (wa 0 0 1 (X 2) (wa 0 0 2 (X 3) (wa 0 0 3 (fW cM) (wa 0 0 4 (R 0) cNx))))))))
def cP:List N->Option Đ:=Ae 4 bu
theorem kc(A:∃b,ġ K "__init__" "Keeper.__init__" (cG (Ô 132) 0) f b)(a:Mk K C f)(d:î P w K mg base ZC):HG P w K mg base 0 C 7 3 cP:=Gi XI Gn ck a ["self","table","each","most"] ["self","table","each","most"] bu A (aJ (by lk)) (by delta bu;walk_at"q")
def fE:Ö:=(aH (f1 (kJ 0 4) (X 0)))
def bX:Ï:=dL 1 fE
def TO1:pI:=("clock",1,0,bX)::TO0
theorem l8(A:Am K C "Keeper.clock" "clock" (cG (Ô 132) 2) f)(a:ģ P w K mg base 0 C TO0):ģ P w K mg base 0 C TO1:=jh (lY ck ["self"] ["self"] fE A (aJ (by lk)) (by delta fE;fin2)) a
def bf:Ö:=(ba (fB (Q Ţ (X 1) (f1 (kJ 0 4) (X 0)))) (eC 6 (Ñ "a later moment was told already")) (λa=>Z (.nx a)))
def aE:Ï:=dL 2 bf
def ZJ:pI:=("need_no_earlier",1,1,aE)::TO1
theorem gu(A:Am K C "Keeper.need_no_earlier" "need_no_earlier" (cG (Ô 132) 3) f)(a:ģ P w K mg base 0 C TO1):ģ P w K mg base 0 C ZJ:=jh (lY ck ["self","now"] ["self","now"] bf A (aJ (by lk)) (by delta bf;fin2)) a
def dh:Ö:=(aA (bI 1 (fM (gG) (X 0) (ax (Ñ ".")))) (aH (bU [("parts",1)] (λa=>Ù ((ax (ß iC (ax (X 1)))) a) v7) Y (fM (mL) (Ñ ".") (ax (v8 (X 1) (dk (X 0)) fA))))))
def di:Ï:=bt 2 dh
def T7:bL:=("ends_longest_first",1,["name"],di)::T6
theorem iN(A:Af K "ends_longest_first" (Ô 27) f)(t:HA P w K mg base T6):HA P w K mg base T7:=az (aO XI Gn ["name","parts"] ["name"] dh A (aJ (by lk)) (by delta dh;fin2)) t
def dP:Ö:=(aH (Q Î (fM (ow) (X 0) (ax (Ñ "."))) (R 2)))
def dR:Ï:=bt 1 dP
def T8:bL:=("behind_first_dot",1,["end"],dR)::T7
theorem jJ(A:Af K "behind_first_dot" (Ô 28) f)(t:HA P w K mg base T7):HA P w K mg base T8:=az (aO XI Gn ["end"] ["end"] dP A (aJ (by lk)) (by delta dP;fin2)) t
def gx:Ö:=(aA (ba (fB (Q ŋ (X 1) (X 0))) (aH (fC (.bl U))) (λa=>Z (.nx a))) (aH (iD (Q ŋ (Ñ ".") (X 1)) (Q ŋ (Q cR (Ñ "*.") (ae dR 1 (ax (X 1)))) (X 0)))))
def jC:Ï:=bt 2 gx
def T9:bL:=("is_told_open",2,["table","end"],jC)::T8
theorem mf(A:Af K "is_told_open" (Ô 29) f)(t:HA P w K mg base T8):HA P w K mg base T9:=az (aO XI Gn ["table","end"] ["table","end"] gx A (aJ (by lk)) (by delta gx;fin2)) t
def gK:Ö:=(ba (fB (Q ŋ (Q cR (Ñ "!") (X 3)) (X 0))) (aH (ae dR 1 (ax (X 3)))) (λa=>Z (.nx a)))
def gL:Ö:=(ba (fB (ae jC 2 (bA (X 0) (X 3)))) (aH (X 3)) (λa=>Z (.nx a)))
def fF:Ö:=(aA (bI 2 (ae di 1 (ax (X 1)))) (aA (Dc 3 [] (da (X 2)) gK) (aA (Dc 3 [3] (da (X 2)) gL) (aH (Q Î (X 2) (f1 AG (R 1)))))))
def cW:Ï:=bt 4 fF
def T10:bL:=("find_open_end",3,["table","name"],cW)::T9
theorem la(A:Af K "find_open_end" (Ô 30) f)(t:HA P w K mg base T9):HA P w K mg base T10:=az (aO XI Gn ["table","name","ends","end"] ["table","name"] fF A (aJ (by lk)) (by delta fF gK gL;fin2)) t
def gz:Ö:=(aA (bI 2 (ae cW 2 (bA (X 0) (X 1)))) (aA (bI 3 (ae di 1 (ax (X 1)))) (aA (bI 4 (ZD Nr (X 3) (ax (X 2)))) (aA (ba (fB (Q Þ (X 4) (R 0))) (aH (fC .non)) (λa=>Z (.nx a))) (aH (Q Î (X 3) (Q xg (X 4) (R 1))))))))
def bO:Ï:=bt 5 gz
def T11:bL:=("find_own_end",4,["table","name"],bO)::T10
theorem mh(A:Af K "find_own_end" (Ô 31) f)(t:HA P w K mg base T10):HA P w K mg base T11:=az (aO XI Gn ["table","name","end","ends","place"] ["table","name"] gz A (aJ (by lk)) (by delta gz;fin2)) t
def gM:Ö:=(aA (bI 2 (ae bO 2 (bA (X 0) (Q Î (X 1) (R 2))))) (aA (ba (fB (Q Ą (X 2) (fC .non))) (aH (Q Î (X 1) (R 2))) (λa=>Z (.nx a))) (aH (X 2))))
def bJ:Ï:=bt 3 gM
def T12:bL:=("group_of",5,["table","note"],bJ)::T11
theorem sE(A:Af K "group_of" (Ô 125) f)(t:HA P w K mg base T11):HA P w K mg base T12:=az (aO XI Gn ["table","note","own"] ["table","note"] gM A (aJ (by lk)) (by delta gM;fin2)) t
def zb:Ö:=(aH (fW (bA (Q Î (X 0) (R 6)) (Q Î (X 0) (R 9)))))
def nO:Ï:=bt 1 zb
def T13:bL:=("rank",1,["note"],nO)::T12
theorem Gs(A:Af K "rank" (Ô 129) f)(t:HA P w K mg base T12):HA P w K mg base T13:=az (aO XI Gn ["note"] ["note"] zb A (aJ (by lk)) (by delta zb;fin2)) t
def gO:Ö:=(aA (bI 2 (ß (vF nO) (ax (X 0)))) (aH (ju (X 2) fA (dk (ß JX (bA (Q xg (ß iC (ax (X 0))) (X 1)) (R 0)))))))
def fz:Ï:=bt 3 gO
def T14:bL:=("too_many",4,["notes","room"],fz)::T13
theorem sI(A:Af K "too_many" (Ô 128) f)(t:HA P w K mg base T13):HA P w K mg base T14:=az (aO XI Gn ["notes","room","in_order"] ["notes","room"] gO A (aJ (by lk)) (by delta gO;fin2)) t
def iO:Ö:=(aH (ß fX (ax (bU [("dropped",1)] (da (X 0)) (Z (fB (Q jy (X 0) (X 1)))) (X 0)))))
def gQ:Ï:=bt 2 iO
def T15:bL:=("without",1,["notes","dropped"],gQ)::T14
theorem vO(A:Af K "without" (Ô 130) f)(t:HA P w K mg base T14):HA P w K mg base T15:=az (aO XI Gn ["notes","dropped"] ["notes","dropped"] iO A (aJ (by lk)) (by delta iO;fin2)) t
def mi:Ö:=(aA (bI 6 (cq 1 [("table",0),("group",5)] (da (X 1)) (gN 0) (Z (fB (Q Þ (ae bJ 2 (bA (X 1) (X 0))) (X 2)))) (X 0))) (bI 4 (ae gQ 2 (bA (X 4) (ae fz 2 (bA (X 6) (X 2)))))))
def zc:Ö:=(aA (bI 4 (X 1)) (aA (Dc 5 [5,6] (da (ß iH (ax (bU [("table",0)] (da (X 1)) Y (ae bJ 2 (bA (X 1) (X 0))))))) mi) (aH (ae gQ 2 (bA (X 4) (ae fz 2 (bA (X 4) (X 3))))))))
def zd:Ï:=bt 7 zc
def T16:bL:=("fit",6,["table","notes","each","most"],zd)::T15
theorem K9(A:Af K "fit" (Ô 127) f)(t:HA P w K mg base T15):HA P w K mg base T16:=az (aO XI Gn ["table","notes","each","most","left","group","members"] ["table","notes","each","most"] zc A (aJ (by lk)) (by delta zc mi;fin2)) t
def gA:Ö:=(aH (ae dI 4 (iE (X 0) (Ñ "abcdefghijklmnopqrstuvwxyzABCDEFGHIJKLMNOPQRSTUVWXYZ0123456789-_") (R 1) (R 10))))
def aP:Ï:=bt 1 gA
def T17:bL:=("is_note_name",2,["thing"],aP)::T16
theorem mj(A:Af K "is_note_name" (Ô 67) f)(t:HA P w K mg base T16):HA P w K mg base T17:=az (aO XI Gn ["thing"] ["thing"] gA A (aJ (by lk)) (by delta gA;fin2)) t
def kN:Ö:=(aA (ba (ÿ (cg (fB (f1 (jt pX) (X 0)))) (fB (Q ō (ß iC (ax (X 0))) (R 12)))) (aH (fC (.bl L))) (λa=>Z (.nx a))) (aH (ß mK (ax (bU [] (da (X 0)) Y (iD (Q į (Ñ "!") (X 0)) (iD (Q į (X 0) (Ñ "~")) (Q pW (X 0) (Ñ ";,=")))))))))
def bS:Ï:=bt 1 kN
def T18:bL:=("is_worth",1,["thing"],bS)::T17
theorem sJ(A:Af K "is_worth" (Ô 68) f)(t:HA P w K mg base T17):HA P w K mg base T18:=az (aO XI Gn ["thing"] ["thing"] kN A (aJ (by lk)) (by delta kN;fin2)) t
def mn:Ö:=(aH (iD (ae dI 4 (iE (X 0) (Ñ "abcdefghijklmnopqrstuvwxyz0123456789-_./") (R 1) (R 20))) (fM (pY Q6) (X 0) (ax (Ñ "/")))))
def cA:Ï:=bt 1 mn
def T19:bL:=("is_path",2,["thing"],cA)::T18
theorem vP(A:Af K "is_path" (Ô 35) f)(t:HA P w K mg base T18):HA P w K mg base T19:=az (aO XI Gn ["thing"] ["thing"] mn A (aJ (by lk)) (by delta mn;fin2)) t
def kO:Ö:=(aH (Ġ (Q Þ (X 0) (Ñ "any")) (Q Þ (X 0) (Ñ "near"))))
def eD:Ï:=bt 1 kO
def T20:bL:=("is_reach",1,["thing"],eD)::T19
theorem sK(A:Af K "is_reach" (Ô 69) f)(t:HA P w K mg base T19):HA P w K mg base T20:=az (aO XI Gn ["thing"] ["thing"] kO A (aJ (by lk)) (by delta kO;fin2)) t
def dz:Ö:=(aH (ae dI 4 (iE (X 0) (Ñ "0123456789") (R 1) (R 4))))
def dD:Ï:=bt 1 dz
def T21:bL:=("is_written_moment",2,["text"],dD)::T20
theorem jw(A:Af K "is_written_moment" (Ô 72) f)(t:HA P w K mg base T20):HA P w K mg base T21:=az (aO XI Gn ["text"] ["text"] dz A (aJ (by lk)) (by delta dz;fin2)) t
def gC:Ö:=(aA (ba (fB (Q Þ (X 0) (Ñ "safe"))) (aH (fW (bA (R 6) (fC (.bl U))))) (λa=>Z (.nx a))) (aA (ba (fB (ae eD 1 (ax (X 0)))) (aH (fW (bA (R 7) (X 0)))) (λa=>Z (.nx a))) (aA (bI 1 (fM (ow) (X 0) (ax (Ñ " ")))) (aA (bI 2 (Q Î (X 1) (R 0))) (aA (bI 3 (Q Î (X 1) (R 2))) (aA (ba (lN (fB (Q Þ (X 2) (Ñ "for"))) (fB (ae bW 1 (ax (X 3))))) (aH (fW (bA (R 2) (X 3)))) (λa=>Z (.nx a))) (aA (ba (lN (fB (Q Þ (X 2) (Ñ "under"))) (fB (ae cA 1 (ax (X 3))))) (aH (fW (bA (R 3) (X 3)))) (λa=>Z (.nx a))) (aA (ba (lN (fB (Q Þ (X 2) (Ñ "until"))) (fB (ae dD 1 (ax (X 3))))) (aH (fW (bA (R 4) (ß Mt (ax (X 3)))))) (λa=>Z (.nx a))) (aA (ba (lN (fB (Q Þ (X 2) (Ñ "lasts"))) (fB (ae dD 1 (ax (X 3))))) (aH (fW (bA (R 5) (ß Mt (ax (X 3)))))) (λa=>Z (.nx a))) (aH (fC .non)))))))))))
def aX:Ï:=bt 4 gC
def ZF:bL:=("what_is_told",4,["part"],aX)::T21
theorem mo(A:Af K "what_is_told" (Ô 73) f)(t:HA P w K mg base T21):HA P w K mg base ZF:=az (aO XI Gn ["part","pieces","word","rest"] ["part"] gC A (aJ (by lk)) (by delta gC;fin2)) t
def bD:j4:=(fw (fY 5 (ae aX 1 (ax (X 4)))) (ZL (fB (Q lP (X 5) (fC .non))) (uu (Q Î (X 5) (R 0)) (Q Î (X 5) (R 1))) Hx))
def dU:Ö:=(aA (ba (cg (fB (f1 (jt pX) (X 0)))) (eC 4 (Ñ "this is no text")) (λa=>Z (.nx a))) (aA (bI 1 (cq 1 [] (da (fM (gG) (X 0) (ax (Ñ ";")))) (gN 0) Y (fM (lR) (X 0) (ax (Ñ " "))))) (aA (bI 2 (fM (ow) (Q Î (X 1) (R 0)) (ax (Ñ "=")))) (aA (ba (ÿ (fB (Q Þ (Q Î (X 2) (R 1)) (Ñ ""))) (ÿ (cg (fB (ae aP 1 (ax (Q Î (X 2) (R 0)))))) (cg (fB (ae bS 1 (ax (Q Î (X 2) (R 2)))))))) (eC 4 (Ñ "the first part is no note's name, = and worth")) (λa=>Z (.nx a))) (xH 3 (aK (Q Î (X 2) (R 0)) (aK (Q Î (X 2) (R 2)) (vm (fC .non) (fC .non) (fC .non) (fC .non) (fC (.bl L)) (Ñ "any")))) (fw (xI 4 [4,5] (da (v8 (X 1) (dk (R 1)) fA)) bD) (xF 3 (ß fX (ax (X 3))))))))))
def aB:Ï:=dL 6 dU
def TE3:bL:=("read_given",5,["text"],aB)::ZC
theorem oQ(A:Af K "read_given" (Ô 74) f)(t:HA P w K mg base ZF)(a:î P w K mg base ZC):î P w K mg base TE3:=br (bM XI Gn ["text","parts","first","given","part","told"] ["text"] dU A (aJ (by lk)) (by delta dU bD;fin2)) a
def Cf:Ö:=(aH (fW (bT (Q Î (X 0) (R 0)) (Q Î (X 0) (R 2)) (Q Î (X 0) (R 4)))))
def fm:Ï:=bt 1 Cf
def Z8:bL:=("key",1,["note"],fm)::ZF
theorem La(A:Af K "key" (Ô 96) f)(t:HA P w K mg base ZF):HA P w K mg base Z8:=az (aO XI Gn ["note"] ["note"] Cf A (aJ (by lk)) (by delta Cf;fin2)) t
def iP:Ö:=(aA (ba (fB (Q Ą (Q Î (X 0) (R 5)) (fC .non))) (aH (Q Î (X 0) (R 4))) (λa=>Z (.nx a))) (aH (ß Ms (bA (Q cR (X 1) (Q Î (X 0) (R 5))) (R 9999)))))
def iQ:Ï:=bt 2 iP
def Z2:bL:=("end_for",1,["given","now"],iQ)::Z8
theorem vQ(A:Af K "end_for" (Ô 94) f)(t:HA P w K mg base Z8):HA P w K mg base Z2:=az (aO XI Gn ["given","now"] ["given","now"] iP A (aJ (by lk)) (by delta iP;fin2)) t
def fG:Ö:=(aA (ba (fB (Q Ą (Q Î (X 1) (R 2)) (fC .non))) (aH (Q Î (X 0) (R 1))) (λa=>Z (.nx a))) (aH (Q Î (X 1) (R 2))))
def fH:Ï:=bt 2 fG
def T25:bL:=("house_for",1,["ask","given"],fH)::Z2
theorem qN(A:Af K "house_for" (Ô 92) f)(t:HA P w K mg base Z2):HA P w K mg base T25:=az (aO XI Gn ["ask","given"] ["ask","given"] fG A (aJ (by lk)) (by delta fG;fin2)) t
def ke:Ö:=(aH (Q Þ (ae cW 2 (bA (X 0) (X 1))) (X 1)))
def fI:Ï:=bt 2 ke
def Z3:bL:=("is_open",4,["table","house"],fI)::T25
theorem vR(A:Af K "is_open" (Ô 87) f)(t:HA P w K mg base T25):HA P w K mg base Z3:=az (aO XI Gn ["table","house"] ["table","house"] ke A (aJ (by lk)) (by delta ke;fin2)) t
def gR:Ö:=(aA (bI 3 (Q Î (X 2) (R 2))) (aA (ba (fB (Q Ą (X 3) (fC .non))) (aH (fC (.bl U))) (λa=>Z (.nx a))) (aH (iD (Q Þ (X 3) (Q Î (X 1) (R 1))) (ae fI 2 (bA (X 0) (X 3)))))))
def db:Ï:=bt 4 gR
def T27:bL:=("is_exact",5,["table","ask","given"],db)::Z3
theorem sL(A:Af K "is_exact" (Ô 88) f)(t:HA P w K mg base Z3):HA P w K mg base T27:=az (aO XI Gn ["table","ask","given","house"] ["table","ask","given"] gR A (aJ (by lk)) (by delta gR;fin2)) t
def h8:Ö:=(aH (iD (f1 (jt rW) (X 0)) (Q Þ (ß iC (ax (X 0))) (X 1))))
def bN:Ï:=bt 2 h8
def T28:bL:=("is_tuple_of",1,["thing","parts"],bN)::T27
theorem mP(A:Af K "is_tuple_of" (Ô 12) f)(t:HA P w K mg base T27):HA P w K mg base T28:=az (aO XI Gn ["thing","parts"] ["thing","parts"] h8 A (aJ (by lk)) (by delta h8;fin2)) t
def ic:Ö:=(aA (ba (cg (fB (ae bN 2 (bA (X 0) (R 4))))) (aH (fC (.bl L))) (λa=>Z (.nx a))) (aH (ß mK (ax (fj (iE (f1 (jt ez) (Q Î (X 0) (R 0))) (ae bW 1 (ax (Q Î (X 0) (R 1)))) (ae cA 1 (ax (Q Î (X 0) (R 2)))) (Ġ (Q Ą (Q Î (X 0) (R 3)) (fC .non)) (ae bW 1 (ax (Q Î (X 0) (R 3)))))))))))
def cy:Ï:=bt 1 ic
def ZI:bL:=("is_ask",4,["thing"],cy)::T28
theorem ze(A:Af K "is_ask" (Ô 49) f)(t:HA P w K mg base T28):HA P w K mg base ZI:=az (aO XI Gn ["thing"] ["thing"] ic A (aJ (by lk)) (by delta ic;fin2)) t
def fJ:Ö:=(ba (cg (fB (ae cy 1 (ax (X 0))))) (eC 3 (Ñ "this is no ask")) (λa=>Z (.nx a)))
def bg:Ï:=dL 1 fJ
def TE4:bL:=("need_ask",5,["thing"],bg)::TE3
theorem sM(A:Af K "need_ask" (Ô 50) f)(t:HA P w K mg base ZI)(a:î P w K mg base TE3):î P w K mg base TE4:=br (bM XI Gn ["thing"] ["thing"] fJ A (aJ (by lk)) (by delta fJ;fin2)) a
def eE:Ö:=(aH (ae aF 3 (bT (X 0) (R 0) (R 9999))))
def bc:Ï:=bt 1 eE
def T30:bL:=("is_moment",2,["thing"],bc)::ZI
theorem qO(A:Af K "is_moment" (Ô 46) f)(t:HA P w K mg base ZI):HA P w K mg base T30:=az (aO XI Gn ["thing"] ["thing"] eE A (aJ (by lk)) (by delta eE;fin2)) t
def bC:Ö:=(aH (Ġ (Q Ą (X 0) (fC .non)) (ae bc 1 (ax (X 0)))))
def aC:Ï:=bt 1 bC
def T31:bL:=("is_moment_or_none",3,["thing"],aC)::T30
theorem jx(A:Af K "is_moment_or_none" (Ô 47) f)(t:HA P w K mg base T30):HA P w K mg base T31:=az (aO XI Gn ["thing"] ["thing"] bC A (aJ (by lk)) (by delta bC;fin2)) t
def ji:Ö:=(aA (ba (cg (fB (ae bN 2 (bA (X 0) (R 8))))) (aH (fC (.bl L))) (λa=>Z (.nx a))) (aH (ß mK (ax (fj (aK (ae aP 1 (ax (Q Î (X 0) (R 0)))) (aK (ae bS 1 (ax (Q Î (X 0) (R 1)))) (vm (Ġ (Q Ą (Q Î (X 0) (R 2)) (fC .non)) (ae bW 1 (ax (Q Î (X 0) (R 2))))) (Ġ (Q Ą (Q Î (X 0) (R 3)) (fC .non)) (ae cA 1 (ax (Q Î (X 0) (R 3))))) (ae aC 1 (ax (Q Î (X 0) (R 4)))) (ae aC 1 (ax (Q Î (X 0) (R 5)))) (f1 (jt ez) (Q Î (X 0) (R 6))) (ae eD 1 (ax (Q Î (X 0) (R 7))))))))))))
def gS:Ï:=bt 1 ji
def Zo:bL:=("is_given",4,["thing"],gS)::T31
theorem sN(A:Af K "is_given" (Ô 70) f)(t:HA P w K mg base T31):HA P w K mg base Zo:=az (aO XI Gn ["thing"] ["thing"] ji A (aJ (by lk)) (by delta ji;fin2)) t
def fq:Ö:=(ba (cg (fB (ae gS 1 (ax (X 0))))) (eC 4 (Ñ "this can't be given")) (λa=>Z (.nx a)))
def dc:Ï:=dL 1 fq
def TE5:bL:=("need_given",5,["thing"],dc)::TE4
theorem oR(A:Af K "need_given" (Ô 71) f)(t:HA P w K mg base Zo)(a:î P w K mg base TE4):î P w K mg base TE5:=br (bM XI Gn ["thing"] ["thing"] fq A (aJ (by lk)) (by delta fq;fin2)) a
def dt:Ö:=(ba (cg (fB (ae bc 1 (ax (X 0))))) (eC 6 (Ñ "this is no moment")) (λa=>Z (.nx a)))
def aT:Ï:=dL 1 dt
def TE6:bL:=("need_moment",3,["thing"],aT)::TE5
theorem mQ(A:Af K "need_moment" (Ô 48) f)(t:HA P w K mg base Zo)(a:î P w K mg base TE5):î P w K mg base TE6:=br (bM XI Gn ["thing"] ["thing"] dt A (aJ (by lk)) (by delta dt;fin2)) a
def iR:Ö:=(ba (cg (fB (ae cA 1 (ax (X 0))))) (eC 2 (Ñ "this is no path")) (λa=>Z (.nx a)))
def k7:Ï:=dL 1 iR
def TE7:bL:=("need_path",3,["thing"],k7)::TE6
theorem qP(A:Af K "need_path" (Ô 36) f)(t:HA P w K mg base Zo)(a:î P w K mg base TE6):î P w K mg base TE7:=br (bM XI Gn ["thing"] ["thing"] iR A (aJ (by lk)) (by delta iR;fin2)) a
def mq:Ö:=(aA (cU (av k7 1 (ax (X 0)))) (aA (bI 1 (fM (Ml Zl) (X 0) (ax (Ñ "/")))) (aA (ba (fB (Q Þ (X 1) (R 0))) (aH (Ñ "/")) (λa=>Z (.nx a))) (aH (v8 (X 0) fA (dk (X 1)))))))
def kf:Ï:=dL 2 mq
def Z0:bL:=("folder",4,["path"],kf)::TE7
theorem zf(A:Af K "folder" (Ô 37) f)(a:î P w K mg base TE7):î P w K mg base Z0:=br (bM XI Gn ["path","place"] ["path"] mq A (aJ (by lk)) (by delta mq;fin2)) a
def fK:Ö:=(aA (ba (fB (Q Ą (Q Î (X 1) (R 3)) (fC .non))) (aH (av kf 1 (ax (Q Î (X 0) (R 2))))) (λa=>Z (.nx a))) (aH (Q Î (X 1) (R 3))))
def eH:Ï:=dL 2 fK
def ZZ:bL:=("path_for",5,["ask","given"],eH)::Z0
theorem sO(A:Af K "path_for" (Ô 93) f)(a:î P w K mg base Z0):î P w K mg base ZZ:=br (bM XI Gn ["ask","given"] ["ask","given"] fK A (aJ (by lk)) (by delta fK;fin2)) a
def aG:Ö:=(aA (bI 2 (Q Î (X 1) (R 1))) (aA (bI 3 (Q Î (X 1) (R 3))) (aA (ba (ÿ (fB (Q Ą (X 3) (fC .non))) (fB (Q Þ (X 3) (X 2)))) (aH (fC (.bl U))) (λa=>Z (.nx a))) (aA (bI 4 (ae bO 2 (bA (X 0) (X 2)))) (aH (iD (Q lP (X 4) (fC .non)) (Q Þ (X 4) (ae bO 2 (bA (X 0) (X 3))))))))))
def al:Ï:=bt 5 aG
def Z5:bL:=("comes_from_near",5,["table","ask"],al)::Zo
theorem kg(A:Af K "comes_from_near" (Ô 51) f)(t:HA P w K mg base Zo):HA P w K mg base Z5:=az (aO XI Gn ["table","ask","house","origin","own"] ["table","ask"] aG A (aJ (by lk)) (by delta aG;fin2)) t
def ce:Ö:=(aA (bI 3 (Q Î (X 2) (R 0))) (aA (ba (fB (fM (pY Q6) (X 3) (ax (Ñ "safe-")))) (aH (Q Î (X 2) (R 6))) (λa=>Z (.nx a))) (aA (ba (fB (fM (pY Q6) (X 3) (ax (Ñ "own-")))) (aH (iD (Q Î (X 2) (R 6)) (iD (ae db 3 (bT (X 0) (X 1) (X 2))) (Q Þ (Q Î (X 2) (R 3)) (Ñ "/"))))) (λa=>Z (.nx a))) (aH (fC (.bl U))))))
def bz:Ï:=bt 4 ce
def T34:bL:=("keeps_its_mark",6,["table","ask","given"],bz)::Z5
theorem kP(A:Af K "keeps_its_mark" (Ô 89) f)(t:HA P w K mg base Z5):HA P w K mg base T34:=az (aO XI Gn ["table","ask","given","name"] ["table","ask","given"] ce A (aJ (by lk)) (by delta ce;fin2)) t
def ie:Ö:=(aH (Ġ (Q Þ (X 0) (X 1)) (fM (pY VI) (X 0) (ax (Q cR (Ñ ".") (X 1))))))
def aI:Ï:=bt 2 ie
def ZA:bL:=("lies_within",1,["one","other"],aI)::T34
theorem mR(A:Af K "lies_within" (Ô 26) f)(t:HA P w K mg base T34):HA P w K mg base ZA:=az (aO XI Gn ["one","other"] ["one","other"] ie A (aJ (by lk)) (by delta ie;fin2)) t
def eN:Ö:=(aA (cU (av aL 1 (ax (X 0)))) (aA (cU (av bg 1 (ax (X 1)))) (aA (cU (av dc 1 (ax (X 2)))) (aA (bI 3 (Q Î (X 2) (R 2))) (aA (ba (lN (fB (Q lP (X 3) (fC .non))) (cg (fB (ae aI 2 (bA (Q Î (X 1) (R 1)) (X 3)))))) (aH (Ñ "foreign")) (λa=>Z (.nx a))) (aA (ba (lN (fB (Q lP (X 3) (fC .non))) (lN (fB (Q Ě (X 3) (Q Î (X 1) (R 1)))) (fB (ae fI 2 (bA (X 0) (X 3)))))) (aH (Ñ "open")) (λa=>Z (.nx a))) (aA (ba (lN (fB (Q Î (X 2) (R 6))) (cg (fB (Q Î (X 1) (R 0))))) (aH (Ñ "unsafe")) (λa=>Z (.nx a))) (aA (ba (cg (fB (ae bz 3 (bT (X 0) (X 1) (X 2))))) (aH (Ñ "marked")) (λa=>Z (.nx a))) (aA (ba (lN (fB (Q Þ (Q Î (X 2) (R 7)) (Ñ "near"))) (cg (fB (ae al 2 (bA (X 0) (X 1)))))) (aH (Ñ "far")) (λa=>Z (.nx a))) (aH (fC .non)))))))))))
def bE:Ï:=dL 4 eN
def N6:bL:=("why_refused",7,["table","ask","given"],bE)::ZZ
theorem mS(A:Af K "why_refused" (Ô 90) f)(t:HA P w K mg base ZA)(a:î P w K mg base ZZ):î P w K mg base N6:=br (bM XI Gn ["table","ask","given","house"] ["table","ask","given"] eN A (aJ (by lk)) (by delta eN;fin2)) a
def oU:Ö:=(aA (cU (av aL 1 (ax (X 0)))) (aA (cU (av bg 1 (ax (X 1)))) (aA (cU (av dc 1 (ax (X 2)))) (aA (cU (av aT 1 (ax (X 3)))) (aA (ba (fB (Q lP (av bE 3 (bT (X 0) (X 1) (X 2))) (fC .non))) (eC 4 (Ñ "this may not be given by this ask")) (λa=>Z (.nx a))) (aH (fW (aK (Q Î (X 2) (R 0)) (aK (Q Î (X 2) (R 1)) (aK (ae fH 2 (bA (X 1) (X 2))) (aK (ae db 3 (bT (X 0) (X 1) (X 2))) (vm (av eH 2 (bA (X 1) (X 2))) (ae iQ 2 (bA (X 2) (X 3))) (Q Î (X 2) (R 6)) (Q Î (X 2) (R 7)) (X 3) (X 3)))))))))))))
def dF:Ï:=dL 4 oU
def N7:bL:=("made",8,["table","ask","given","now"],dF)::N6
theorem Gu(A:Af K "made" (Ô 95) f)(t:HA P w K mg base ZA)(a:î P w K mg base N6):î P w K mg base N7:=br (bM XI Gn ["table","ask","given","now"] ["table","ask","given","now"] oU A (aJ (by lk)) (by delta oU;fin2)) a
def sP:Ö:=(aA (bI 2 (cq 1 [("note",1)] (da (X 0)) (gN 0) (Z (fB (Q Þ (ae fm 1 (ax (X 0))) (ae fm 1 (ax (X 1)))))) (X 0))) (aA (ba (fB (Q Þ (X 2) (fj cM))) (aH (Q cK (X 0) (fW (ax (X 1))))) (λa=>Z (.nx a))) (aA (bI 3 (Q cK (Q cK (ju (X 1) fA (dk (R 8))) (fW (ax (Q Î (Q Î (X 2) (R 0)) (R 8))))) (ju (X 1) (dk (Q cK (R 8) (R 1))) fA))) (aH (ß fX (ax (bU [("note",1),("newer",3)] (da (X 0)) Y (ĺ (fB (Q Þ (ae fm 1 (ax (X 0))) (ae fm 1 (ax (X 1))))) (X 2) (X 0)))))))))
def Cg:Ï:=bt 4 sP
def T36:bL:=("put",2,["jar","note"],Cg)::ZA
theorem Lb(A:Af K "put" (Ô 110) f)(t:HA P w K mg base ZA):HA P w K mg base T36:=az (aO XI Gn ["jar","note","same","newer"] ["jar","note"] sP A (aJ (by lk)) (by delta sP;fin2)) t
def ig:Ö:=(aH (iD (Q lP (Q Î (X 0) (R 5)) (fC .non)) (Q į (Q Î (X 0) (R 5)) (X 1))))
def bh:Ï:=bt 2 ig
def Z7:bL:=("has_ended",1,["note","now"],bh)::T36
theorem qQ(A:Af K "has_ended" (Ô 97) f)(t:HA P w K mg base T36):HA P w K mg base Z7:=az (aO XI Gn ["note","now"] ["note","now"] ig A (aJ (by lk)) (by delta ig;fin2)) t
def cX:Ö:=(aH (ß fX (ax (bU [("now",1)] (da (X 0)) (Z (cg (fB (ae bh 2 (bA (X 0) (X 1)))))) (X 0)))))
def bF:Ï:=bt 2 cX
def T38:bL:=("without_ended",2,["notes","now"],bF)::Z7
theorem lb(A:Af K "without_ended" (Ô 108) f)(t:HA P w K mg base Z7):HA P w K mg base T38:=az (aO XI Gn ["notes","now"] ["notes","now"] cX A (aJ (by lk)) (by delta cX;fin2)) t
def iS:Ö:=(aA (ba (fB (Q Þ (X 0) (X 1))) (aH (fC (.bl U))) (λa=>Z (.nx a))) (aA (ba (cg (fB (fM (pY Q6) (X 0) (ax (X 1))))) (aH (fC (.bl L))) (λa=>Z (.nx a))) (aH (Ġ (fM (pY VI) (X 1) (ax (Ñ "/"))) (Q Þ (Q Î (X 0) (ß iC (ax (X 1)))) (Ñ "/"))))))
def bp:Ï:=bt 2 iS
def T39:bL:=("lies_under",1,["path","top"],bp)::T38
theorem oV(A:Af K "lies_under" (Ô 38) f)(t:HA P w K mg base T38):HA P w K mg base T39:=az (aO XI Gn ["path","top"] ["path","top"] iS A (aJ (by lk)) (by delta iS;fin2)) t
def iT:Ö:=(aA (ba (ÿ (cg (fB (Q Î (X 0) (R 6)))) (ÿ (fB (ae bh 2 (bA (X 0) (X 2)))) (fB (Q Ě (Q Î (X 0) (R 0)) (Q Î (X 1) (R 0)))))) (aH (fC (.bl L))) (λa=>Z (.nx a))) (aA (ba (lN (cg (fB (ae aI 2 (bA (Q Î (X 1) (R 2)) (Q Î (X 0) (R 2)))))) (cg (fB (ae aI 2 (bA (Q Î (X 0) (R 2)) (Q Î (X 1) (R 2))))))) (aH (fC (.bl L))) (λa=>Z (.nx a))) (aH (ae bp 2 (bA (Q Î (X 1) (R 4)) (Q Î (X 0) (R 4)))))))
def iU:Ï:=bt 3 iT
def Zv:bL:=("shadows",2,["old","note","now"],iU)::T39
theorem vS(A:Af K "shadows" (Ô 114) f)(t:HA P w K mg base T39):HA P w K mg base Zv:=az (aO XI Gn ["old","note","now"] ["old","note","now"] iT A (aJ (by lk)) (by delta iT;fin2)) t
def eI:Ö:=(aA (bI 5 (av bE 3 (bT (X 0) (X 2) (X 3)))) (aA (ba (fB (Q lP (X 5) (fC .non))) (aH (X 5)) (λa=>Z (.nx a))) (aA (bI 6 (av dF 4 (iE (X 0) (X 2) (X 3) (X 4)))) (aA (ba (lN (cg (fB (Q Î (X 2) (R 0)))) (fB (ß Fw (ax (bU [("now",4),("note",6)] (da (X 1)) Y (ae iU 3 (bT (X 0) (X 2) (X 1)))))))) (aH (Ñ "shadowed")) (λa=>Z (.nx a))) (aA (ba (fB (ae bh 2 (bA (X 6) (X 4)))) (aH (Ñ "gone")) (λa=>Z (.nx a))) (aH (Ñ "kept")))))))
def bq:Ï:=dL 7 eI
def N8:bL:=("word_of",9,["table","jar","ask","given","now"],bq)::N7
theorem vT(A:Af K "word_of" (Ô 113) f)(t:HA P w K mg base Zv)(a:î P w K mg base N7):î P w K mg base N8:=br (bM XI Gn ["table","jar","ask","given","now","refused","note"] ["table","jar","ask","given","now"] eI A (aJ (by lk)) (by delta eI;fin2)) a
def de:Ö:=(aA (bI 5 (av bq 5 (jf (X 0) (X 1) (X 2) (X 3) (X 4)))) (aA (bI 6 (ae bF 2 (bA (X 1) (X 4)))) (aA (ba (fB (Q Þ (X 5) (Ñ "kept"))) (aH (ae Cg 2 (bA (X 6) (av dF 4 (iE (X 0) (X 2) (X 3) (X 4)))))) (λa=>Z (.nx a))) (aA (ba (fB (Q Þ (X 5) (Ñ "gone"))) (aA (bI 7 (ae fm 1 (ax (av dF 4 (iE (X 0) (X 2) (X 3) (X 4)))))) (aH (ß fX (ax (bU [("ended",7)] (da (X 6)) (Z (fB (Q Ě (ae fm 1 (ax (X 0))) (X 1)))) (X 0)))))) (λa=>Z (.nx a))) (aH (X 6))))))
def bw:Ï:=dL 8 de
def N9:bL:=("take_in",10,["table","jar","ask","given","now"],bw)::N8
theorem vU(A:Af K "take_in" (Ô 116) f)(t:HA P w K mg base Zv)(a:î P w K mg base N8):î P w K mg base N9:=br (bM XI Gn ["table","jar","ask","given","now","word","notes","ended"] ["table","jar","ask","given","now"] de A (aJ (by lk)) (by delta de;fin2)) a
def cf:Ö:=(aA (bI 1 (cq 1 [] (da (X 0)) (gN 0) Y (ae fm 1 (ax (X 0))))) (aH (Q Þ (ß lT (ax (X 1))) (ß iC (ax (X 1))))))
def cQ:Ï:=bt 2 cf
def T41:bL:=("has_no_key_twice",2,["notes"],cQ)::Zv
theorem jK(A:Af K "has_no_key_twice" (Ô 104) f)(t:HA P w K mg base Zv):HA P w K mg base T41:=az (aO XI Gn ["notes","keys"] ["notes"] cf A (aJ (by lk)) (by delta cf;fin2)) t
def iV:Ö:=(aH (ß mK (ax (bU [("notes",0)] (λa=>Ù ((bA (R 1) (ß iC (ax (X 0)))) a) Ab) Y (Q į (Q Î (Q Î (X 1) (Q xg (X 0) (R 1))) (R 8)) (Q Î (Q Î (X 1) (X 0)) (R 8)))))))
def gf:Ï:=bt 1 iV
def T42:bL:=("is_by_made",1,["notes"],gf)::T41
theorem oW(A:Af K "is_by_made" (Ô 103) f)(t:HA P w K mg base T41):HA P w K mg base T42:=az (aO XI Gn ["notes"] ["notes"] iV A (aJ (by lk)) (by delta iV;fin2)) t
def kh:Ö:=(aA (ba (cg (fB (ae bN 2 (bA (X 0) (R 10))))) (aH (fC (.bl L))) (λa=>Z (.nx a))) (aA (ba (ÿ (cg (fB (ae bc 1 (ax (Q Î (X 0) (R 8)))))) (cg (fB (ae bc 1 (ax (Q Î (X 0) (R 9))))))) (aH (fC (.bl L))) (λa=>Z (.nx a))) (aH (ß mK (ax (fj (aK (ae aP 1 (ax (Q Î (X 0) (R 0)))) (aK (ae bS 1 (ax (Q Î (X 0) (R 1)))) (aK (ae bW 1 (ax (Q Î (X 0) (R 2)))) (vm (f1 (jt ez) (Q Î (X 0) (R 3))) (ae cA 1 (ax (Q Î (X 0) (R 4)))) (ae aC 1 (ax (Q Î (X 0) (R 5)))) (f1 (jt ez) (Q Î (X 0) (R 6))) (ae eD 1 (ax (Q Î (X 0) (R 7)))) (Q į (Q Î (X 0) (R 8)) (Q Î (X 0) (R 9)))))))))))))
def fL:Ï:=bt 1 kh
def T43:bL:=("is_note",4,["thing"],fL)::T42
theorem vV(A:Af K "is_note" (Ô 91) f)(t:HA P w K mg base T42):HA P w K mg base T43:=az (aO XI Gn ["thing"] ["thing"] kh A (aJ (by lk)) (by delta kh;fin2)) t
def ki:Ö:=(aA (ba (ÿ (cg (fB (f1 (jt rW) (X 0)))) (fB (Q ō (ß iC (ax (X 0))) (R 20)))) (aH (fC (.bl L))) (λa=>Z (.nx a))) (aA (ba (cg (fB (ß mK (ax (bU [] (da (X 0)) Y (ae fL 1 (ax (X 0)))))))) (aH (fC (.bl L))) (λa=>Z (.nx a))) (aH (iD (ae gf 1 (ax (X 0))) (ae cQ 1 (ax (X 0)))))))
def ii:Ï:=bt 1 ki
def Zr:bL:=("is_jar",5,["thing"],ii)::T43
theorem zg(A:Af K "is_jar" (Ô 102) f)(t:HA P w K mg base T43):HA P w K mg base Zr:=az (aO XI Gn ["thing"] ["thing"] ki A (aJ (by lk)) (by delta ki;fin2)) t
def ij:Ö:=(ba (cg (fB (ae ii 1 (ax (X 0))))) (eC 5 (Ñ "this is no jar")) (λa=>Z (.nx a)))
def aW:Ï:=dL 1 ij
def Oa:bL:=("need_jar",6,["thing"],aW)::N9
theorem sQ(A:Af K "need_jar" (Ô 105) f)(t:HA P w K mg base Zr)(a:î P w K mg base N9):î P w K mg base Oa:=br (bM XI Gn ["thing"] ["thing"] ij A (aJ (by lk)) (by delta ij;fin2)) a
def aM:Ö:=(aA (cU (av aL 1 (ax (X 0)))) (aA (cU (av aW 1 (ax (X 1)))) (aA (cU (av bg 1 (ax (X 2)))) (aA (bI 5 (av aB 1 (ax (X 3)))) (aA (cU (av aT 1 (ax (X 4)))) (aH (X 5)))))))
def ao:Ï:=dL 6 aM
def Ob:bL:=("read_what_is_given",7,["table","jar","ask","text","now"],ao)::Oa
theorem iW(A:Af K "read_what_is_given" (Ô 111) f)(a:î P w K mg base Oa):î P w K mg base Ob:=br (bM XI Gn ["table","jar","ask","text","now","given"] ["table","jar","ask","text","now"] aM A (aJ (by lk)) (by delta aM;fin2)) a
def eM:Ö:=(aA (bI 5 (av ao 5 (jf (X 0) (X 1) (X 2) (X 3) (X 4)))) (aH (av bq 5 (jf (X 0) (X 1) (X 2) (X 5) (X 4)))))
def bd:Ï:=dL 6 eM
def My:bL:=("verdict",10,["table","jar","ask","text","now"],bd)::Ob
theorem vW(A:Af K "verdict" (Ô 112) f)(a:î P w K mg base Ob):î P w K mg base My:=br (bM XI Gn ["table","jar","ask","text","now","given"] ["table","jar","ask","text","now"] eM A (aJ (by lk)) (by delta eM;fin2)) a
def bP:ò:=(Ad 0 4 (av bd 5 (jf (f1 (kJ 0 0) (X 0)) (f1 (kJ 0 3) (X 0)) (X 1) (X 2) (X 3))) (mO (gq 0 aE 1 (X 0) (ax (X 3))) (Ad 0 5 (av bw 5 (jf (f1 (kJ 0 0) (X 0)) (f1 (kJ 0 3) (X 0)) (X 1) (av aB 1 (ax (X 2))) (X 3))) (wa 0 0 3 (ae zd 4 (iE (f1 (kJ 0 0) (X 0)) (X 5) (f1 (kJ 0 1) (X 0)) (f1 (kJ 0 2) (X 0)))) (wa 0 0 4 (X 3) (qE 0 (X 4)))))))
def aU:List N->Option Đ:=Ae 6 bP
theorem mT(A:Am K C "Keeper.hear" "hear" (cG (Ô 132) 4) f)(t:HA P w K mg base Zr)(b:î P w K mg base My)(a:ģ P w K mg base 0 C ZJ):yP P w K mg base 0 C "hear" 11 3 aU:=Gh ck ["self","ask","text","now","word","notes"] ["self","ask","text","now"] bP A (aJ (by lk)) (by delta bP;walk_at"q")
def fN:Ö:=(aH (f1 (kJ 0 3) (X 0)))
def bY:Ï:=dL 1 fN
def TO3:pI:=("notes",1,0,bY)::ZJ
theorem mr(A:Am K C "Keeper.notes" "notes" (cG (Ô 132) 1) f)(a:ģ P w K mg base 0 C ZJ):ģ P w K mg base 0 C TO3:=jh (lY ck ["self"] ["self"] fN A (aJ (by lk)) (by delta fN;fin2)) a
def fP:Ö:=(aA (ba (fB (Q Mm (X 0) (fj cM))) (aH (Q k9 (R 7) (X 1))) (λa=>Z (.nx a))) (aH (Q cR (Q Î (X 0) (Q jQ (X 1) (ß iC (ax (X 0))))) (Q k9 (R 6553) (Q jW (X 1) (ß iC (ax (X 0))))))))
def dG:Ï:=bt 2 fP
def T45:bL:=("_law_cell",1,["_law_script","_law_k"],dG)::Zr
theorem qR(A:Af K "_law_cell" (Ô 134) f)(t:HA P w K mg base Zr):HA P w K mg base T45:=az (aO XI Gn ["_law_script","_law_k"] ["_law_script","_law_k"] fP A (aJ (by lk)) (by delta fP;fin2)) t
def dJ:Ö:=(aA (bI 3 (Q jQ (Q cR (Q k9 (Q jQ (ae dG 2 (bA (X 0) (X 1))) (R 2147483563)) (R 69069)) (Q k9 (R 104723) (Q cR (X 1) (R 1)))) (R 2147483563))) (aA (bI 3 (Q jQ (Q cR (Q k9 (X 3) (X 3)) (Q jW (X 3) (R 3))) (R 2147483399))) (aH (Q jQ (Q jW (Q jQ (Q cR (Q k9 (X 3) (X 3)) (Q jW (X 3) (R 7))) (R 2147483647)) (R 11)) (X 2)))))
def ag:Ï:=bt 4 dJ
def T46:bL:=("_law_drawn",2,["_law_script","_law_k","_law_many"],ag)::T45
theorem oX(A:Af K "_law_drawn" (Ô 135) f)(t:HA P w K mg base T45):HA P w K mg base T46:=az (aO XI Gn ["_law_script","_law_k","_law_many","_law_cell_here"] ["_law_script","_law_k","_law_many"] dJ A (aJ (by lk)) (by delta dJ;fin2)) t
def jL:Ö:=(aA (bI 2 (fj (aK (Ñ "a.b") (aK (Ñ "b") (vm (Ñ "x.a.b") (Ñ "y.x.a.b") (Ñ "c.uk") (Ñ "uk") (Ñ "d.c.uk") (Ñ "e.d.c.uk")))))) (aA (bI 2 (Q cR (X 2) (fj (vm (Ñ "w.ck") (Ñ "v.w.ck") (Ñ "ck") (Ñ "g-1.a.b") (Ñ "7.b") (Ñ "p.q"))))) (aH (Q Î (X 2) (ae ag 3 (bT (X 0) (X 1) (ß iC (ax (X 2)))))))))
def bj:Ï:=bt 3 jL
def T47:bL:=("_law_name",3,["_law_script","_law_at"],bj)::T46
theorem qS(A:Af K "_law_name" (Ô 136) f)(t:HA P w K mg base T46):HA P w K mg base T47:=az (aO XI Gn ["_law_script","_law_at","_law_some"] ["_law_script","_law_at"] jL A (aJ (by lk)) (by delta jL;fin2)) t
def jM:Ö:=(aA (bI 2 (fj (aK (Ñ "/") (aK (Ñ "/x") (aK (Ñ "/x/") (vm (Ñ "/x/y") (Ñ "/xy") (Ñ "/x/y/z.q") (Ñ "//") (Ñ "/-_.9") (Ñ "/x/y/"))))))) (aH (Q Î (X 2) (ae ag 3 (bT (X 0) (X 1) (ß iC (ax (X 2))))))))
def cz:Ï:=bt 3 jM
def T48:bL:=("_law_path",3,["_law_script","_law_at"],cz)::T47
theorem qT(A:Af K "_law_path" (Ô 138) f)(t:HA P w K mg base T47):HA P w K mg base T48:=az (aO XI Gn ["_law_script","_law_at","_law_some"] ["_law_script","_law_at"] jM A (aJ (by lk)) (by delta jM;fin2)) t
def gT:Ö:=(aA (bI 2 (Q Î (fj (bT (fC .non) (ae bj 2 (bA (X 0) (Q cR (X 1) (R 3)))) (ae bj 2 (bA (X 0) (Q cR (X 1) (R 3)))))) (ae ag 3 (bT (X 0) (Q cR (X 1) (R 2)) (R 3))))) (aH (fW (iE (Q Þ (ae ag 3 (bT (X 0) (X 1) (R 2))) (R 0)) (ae bj 2 (bA (X 0) (Q cR (X 1) (R 1)))) (ae cz 2 (bA (X 0) (Q cR (X 1) (R 4)))) (X 2)))))
def jj:Ï:=bt 3 gT
def T49:bL:=("_law_ask",4,["_law_script","_law_at"],jj)::T48
theorem sS(A:Af K "_law_ask" (Ô 139) f)(t:HA P w K mg base T48):HA P w K mg base T49:=az (aO XI Gn ["_law_script","_law_at","_law_origin"] ["_law_script","_law_at"] gT A (aJ (by lk)) (by delta gT;fin2)) t
def gh:Ö:=(aA (bI 3 (Q Î (fj (aK (Ñ "n") (vm (Ñ "safe-a") (Ñ "own-b") (Ñ "N_2") (Ñ "m-1") (Ñ "safe-") (Ñ "n")))) (ae ag 3 (bT (X 0) (X 1) (R 7))))) (aA (bI 4 (Q Î (fj (jf (Ñ "5") (Ñ "") (Ñ "a!b~") (Ñ "x/y?z") (Ñ "123456789012"))) (ae ag 3 (bT (X 0) (Q cR (X 1) (R 1)) (R 5))))) (xH 5 (jf (fC .non) (fC .non) (X 2) (Q Î (fM (gG) (X 2) (ax (Ñ "."))) (f1 AG (R 1))) (ae bj 2 (bA (X 0) (Q cR (X 1) (R 3))))) (fw (Bh (ĺ (fB (Q ŋ (Ñ ".") (X 2))) (v8 (X 2) (dk (Q cR (fM JN (X 2) (ax (Ñ "."))) (R 1))) fA) (X 2))) (fw (fY 6 (Q Î (fj (bT (fC .non) (Ñ "/") (ae cz 2 (bA (X 0) (Q cR (X 1) (R 5)))))) (ae ag 3 (bT (X 0) (Q cR (X 1) (R 4)) (R 3))))) (fw (fY 7 (Q Î (fj (bT (fC .non) (fC .non) (ae ag 3 (bT (X 0) (Q cR (X 1) (R 7)) (R 60))))) (ae ag 3 (bT (X 0) (Q cR (X 1) (R 6)) (R 3))))) (fw (fY 8 (Q Î (fj (bT (fC .non) (fC .non) (ae ag 3 (bT (X 0) (Q cR (X 1) (R 9)) (R 30))))) (ae ag 3 (bT (X 0) (Q cR (X 1) (R 8)) (R 3))))) (fw (fY 9 (Q Î (fj (bA (Ñ "any") (Ñ "near"))) (ae ag 3 (bT (X 0) (Q cR (X 1) (R 11)) (R 2))))) (fw (fY 10 (Q Þ (ae ag 3 (bT (X 0) (Q cR (X 1) (R 10)) (R 2))) (R 0))) (xF 5 (fW (aK (X 3) (aK (X 4) (vm (Q Î (X 5) (ae ag 3 (bT (X 0) (Q cR (X 1) (R 2)) (R 6)))) (X 6) (X 7) (X 8) (X 10) (X 9)))))))))))))))
def eV:Ï:=bt 11 gh
def T50:bL:=("_law_given",4,["_law_script","_law_at","_law_house"],eV)::T49
theorem oY(A:Af K "_law_given" (Ô 140) f)(t:HA P w K mg base T49):HA P w K mg base T50:=az (aO XI Gn ["_law_script","_law_at","_law_house","_law_name_here","_law_worth","_law_some","_law_path_here","_law_until","_law_lasts","_law_reach","_law_safe"] ["_law_script","_law_at","_law_house"] gh A (aJ (by lk)) (by delta gh;fin2)) t
def bQ:j4:=(fw (fY 6 (Q cK (Q cK (X 1) (R 1)) (Q k9 (R 14) (X 5)))) (fw (fY 4 (Q cK (X 4) (ae ag 3 (bT (X 0) (X 6) (R 4))))) (fw (fY 7 (Q Î (fj (iE (Ñ "n") (Ñ "m-1") (Ñ "safe-a") (Ñ "N_2"))) (ae ag 3 (bT (X 0) (Q cK (X 6) (R 1)) (R 4))))) (fw (fY 8 (Q Î (fj (bT (Ñ "5") (Ñ "") (Ñ "a!b~"))) (ae ag 3 (bT (X 0) (Q cK (X 6) (R 2)) (R 3))))) (fw (fY 9 (Q Î (fj (bA (fC .non) (ae ag 3 (bT (X 0) (Q cK (X 6) (R 7)) (R 60))))) (ae ag 3 (bT (X 0) (Q cK (X 6) (R 6)) (R 2))))) (fw (fY 10 (Q Þ (ae ag 3 (bT (X 0) (Q cK (X 6) (R 4)) (R 2))) (R 0))) (fw (fY 11 (fW (jf (X 7) (X 8) (ae bj 2 (bA (X 0) (Q cK (X 6) (R 3)))) (X 10) (ae cz 2 (bA (X 0) (Q cK (X 6) (R 5))))))) (fw (fY 12 (Q Î (fj (bT (Ñ "any") (Ñ "any") (Ñ "near"))) (ae ag 3 (bT (X 0) (Q cK (X 6) (R 9)) (R 3))))) (fw (fY 13 (Q Þ (ae ag 3 (bT (X 0) (Q cK (X 6) (R 8)) (R 2))) (R 0))) (fw (fY 14 (Q cK (X 4) (ae ag 3 (bT (X 0) (Q cK (X 6) (R 10)) (R 5))))) (fw (fY 15 (Q cK (X 11) (fW (jf (X 9) (X 13) (X 12) (X 4) (X 14))))) (Fa 3 (fB (Q Þ (bU [("_law_note",15)] (da (X 3)) (Z (fB (Q Þ (fW (bT (Q Î (X 0) (R 0)) (Q Î (X 0) (R 2)) (Q Î (X 0) (R 4)))) (fW (bT (Q Î (X 1) (R 0)) (Q Î (X 1) (R 2)) (Q Î (X 1) (R 4))))))) (X 0)) (fj cM))) (Bh (X 15)) Hx))))))))))))
def kQ:Ö:=(xH 3 cM (fw (fY 4 (R 0)) (fw (xI 5 [5,6,7,8,9,10,11,12,13,14,15] (λa=>Ù ((ax (ae ag 3 (bT (X 0) (X 1) (Q cK (X 2) (R 1))))) a) v7) bQ) (xF 3 (ß fX (ax (X 3)))))))
def jk:Ï:=bt 16 kQ
def Zs:bL:=("_law_jar",4,["_law_script","_law_at","_law_many"],jk)::T50
theorem sU(A:Af K "_law_jar" (Ô 142) f)(t:HA P w K mg base T50):HA P w K mg base Zs:=az (aO XI Gn ["_law_script","_law_at","_law_many","_law_found","_law_now","_law_k","_law_here","_law_name_here","_law_worth","_law_ends","_law_exact","_law_head","_law_reach","_law_safe","_law_late","_law_note"] ["_law_script","_law_at","_law_many"] kQ A (aJ (by lk)) (by delta kQ bQ;fin2)) t
def fQ:Ö:=(aH (f1 (kJ 0 4) (X 0)))
def fR:Ï:=bt 1 fQ
def TQ1:pI:=("clock",1,0,fR)::TQ0
theorem ms(A:Am K C "Keeper.clock" "clock" (cG (Ô 132) 2) f)(a:Ah P w K mg base 0 C TQ0):Ah P w K mg base 0 C TQ1:=qH (uJ ck ["self"] fQ A (aJ (by lk)) (by delta fQ;fin2)) a
def iY:Ö:=(ba (cg (fB (ae bW 1 (ax (X 0))))) (eC 0 (Ñ "this is no name")) (λa=>Z (.nx a)))
def eW:Ï:=dL 1 iY
def Oc:bL:=("need_name",4,["thing"],eW)::My
theorem qU(A:Af K "need_name" (Ô 23) f)(t:HA P w K mg base Zs)(a:î P w K mg base My):î P w K mg base Oc:=br (bM XI Gn ["thing"] ["thing"] iY A (aJ (by lk)) (by delta iY;fin2)) a
def eX:Ö:=(aA (cU (av aW 1 (ax (X 0)))) (aA (cU (av eW 1 (ax (X 1)))) (aH (ß fX (ax (bU [("house",1)] (da (X 0)) (Z (cg (fB (ae aI 2 (bA (Q Î (X 0) (R 2)) (X 1)))))) (X 0)))))))
def eY:Ï:=dL 2 eX
def Mz:bL:=("forgotten",7,["jar","house"],eY)::Oc
theorem qV(A:Af K "forgotten" (Ô 109) f)(t:HA P w K mg base Zs)(a:î P w K mg base Oc):î P w K mg base Mz:=br (bM XI Gn ["jar","house"] ["jar","house"] eX A (aJ (by lk)) (by delta eX;fin2)) a
def cB:Ö:=(aA (bI 2 (av eY 2 (bA (f1 (kJ 0 3) (X 0)) (X 1)))) (aA (bI 3 (Q xg (ß iC (ax (f1 (kJ 0 3) (X 0)))) (ß iC (ax (X 2))))) ue))
def cC:Ï:=dL 4 cB
def TO4:pI:=("forget",8,1,cC)::TO3
theorem lc(A:Am K C "Keeper.forget" "forget" (cG (Ô 132) 7) f)(b:î P w K mg base Mz)(a:ģ P w K mg base 0 C TO3):ģ P w K mg base 0 C TO4:=jh (lY ck ["self","house","left","gone"] ["self","house"] cB A (aJ (by lk)) (by delta cB;fin2)) a
def eP:Ï:=yV 0 aU
def ZW:pI:=("hear",11,3,eP)::TO4
theorem mU(a:ģ P w K mg base 0 C TO4)(b:yP P w K mg base 0 C "hear" 11 3 aU):ģ P w K mg base 0 C ZW:=jh (Gf b) a
def fT:Ö:=(aH (f1 (kJ 0 3) (X 0)))
def fU:Ï:=bt 1 fT
def TQ2:pI:=("notes",1,0,fU)::TQ1
theorem mv(A:Am K C "Keeper.notes" "notes" (cG (Ô 132) 1) f)(a:Ah P w K mg base 0 C TQ1):Ah P w K mg base 0 C TQ2:=qH (uJ ck ["self"] fT A (aJ (by lk)) (by delta fT;fin2)) a
def lm:Ö:=(aA (ba (fB (Q Î (X 0) (R 3))) (aH (Q Þ (Q Î (X 0) (R 2)) (X 1))) (λa=>Z (.nx a))) (aH (ae aI 2 (bA (X 1) (Q Î (X 0) (R 2))))))
def jm:Ï:=bt 2 lm
def T52:bL:=("is_for",2,["note","house"],jm)::Zs
theorem zh(A:Af K "is_for" (Ô 98) f)(t:HA P w K mg base Zs):HA P w K mg base T52:=az (aO XI Gn ["note","house"] ["note","house"] lm A (aJ (by lk)) (by delta lm;fin2)) t
def qW:Ö:=(aA (ba (ÿ (fB (ae bh 2 (bA (X 1) (X 3)))) (cg (fB (ae jm 2 (bA (X 1) (Q Î (X 2) (R 1))))))) (aH (fC (.bl L))) (λa=>Z (.nx a))) (aA (ba (cg (fB (ae bp 2 (bA (Q Î (X 2) (R 2)) (Q Î (X 1) (R 4)))))) (aH (fC (.bl L))) (λa=>Z (.nx a))) (aA (ba (lN (fB (Q Î (X 1) (R 6))) (cg (fB (Q Î (X 2) (R 0))))) (aH (fC (.bl L))) (λa=>Z (.nx a))) (aH (Ġ (Q Þ (Q Î (X 1) (R 7)) (Ñ "any")) (ae al 2 (bA (X 0) (X 2))))))))
def qX:Ï:=bt 4 qW
def Zw:bL:=("goes",6,["table","note","ask","now"],qX)::T52
theorem Gx(A:Af K "goes" (Ô 99) f)(t:HA P w K mg base T52):HA P w K mg base Zw:=az (aO XI Gn ["table","note","ask","now"] ["table","note","ask","now"] qW A (aJ (by lk)) (by delta qW;fin2)) t
def bG:Ö:=(aA (cU (av aL 1 (ax (X 0)))) (aA (cU (av aW 1 (ax (X 1)))) (aA (cU (av bg 1 (ax (X 2)))) (cU (av aT 1 (ax (X 3)))))))
def bZ:Ï:=dL 4 bG
def MB:bL:=("need_sending",7,["table","jar","ask","now"],bZ)::Mz
theorem mw(A:Af K "need_sending" (Ô 117) f)(a:î P w K mg base Mz):î P w K mg base MB:=br (bM XI Gn ["table","jar","ask","now"] ["table","jar","ask","now"] bG A (aJ (by lk)) (by delta bG;fin2)) a
def jN:Ö:=(aA (cU (av bZ 4 (iE (X 0) (X 1) (X 2) (X 3)))) (aA (bI 4 (cq 1 [("table",0),("ask",2),("now",3)] (da (X 1)) (gN 0) (Z (fB (ae qX 4 (iE (X 1) (X 0) (X 2) (X 3))))) (X 0))) (aH (ß (vD (HF 1 (f1 AG (ß iC (ax (Q Î (X 0) (R 4))))))) (ax (X 4))))))
def dZ:Ï:=dL 5 jN
def TU1:bL:=("sent",8,["table","jar","ask","now"],dZ)::TU0
theorem Gy(A:Af K "sent" (Ô 118) f)(t:HA P w K mg base Zw)(g:î P w K mg base MB)(b:yJ P w K mg base Pt qL TU0)(d:W' K f Pt=U):yJ P w K mg base Pt qL TU1:=qD (uF (q:=λa=>qC K a Pt) XI Gn ["table","jar","ask","now","going"] ["table","jar","ask","now"] jN A (aJ (by lk)) (λ_ e=>N1 d e) (by delta jN;fin2)) b
def cY:Ö:=(aH (fM (mL) (Ñ "; ") (ax (bU [] (da (av dZ 4 (iE (X 0) (X 1) (X 2) (X 3)))) Y (Q cR (Q cR (Q Î (X 0) (R 0)) (Ñ "=")) (Q Î (X 0) (R 1)))))))
def bR:Ï:=dL 4 cY
def TU2:bL:=("sent_text",9,["table","jar","ask","now"],bR)::TU1
theorem qY(A:Af K "sent_text" (Ô 119) f)(a:yJ P w K mg base Pt qL TU1):yJ P w K mg base Pt qL TU2:=qD (uF (q:=λ_=>True) XI Gn ["table","jar","ask","now"] ["table","jar","ask","now"] cY A (aJ (by lk)) (λ_ _=>trivial) (by delta cY;fin2)) a
def ci:Ö:=(aA (bI 3 (av bR 4 (iE (f1 (kJ 0 0) (X 0)) (f1 (kJ 0 3) (X 0)) (X 1) (X 2)))) (aA (cU (gq 0 aE 1 (X 0) (ax (X 2)))) ue))
def cj:Ï:=dL 4 ci
theorem mV(A:Am K C "Keeper.send" "send" (cG (Ô 132) 5) f)(a:yJ P w K mg base Pt qL TU2)(b:ģ P w K mg base 0 C ZW):BX P w K mg base Pt qL 0 C "send" 10 2 cj:=B8 ck ["self","ask","now","text"] ["self","ask","now"] ci A (aJ (by lk)) (by delta ci;fin2)
def ik:Ö:=(aA (cU (av aW 1 (ax (X 0)))) (aA (cU (av aT 1 (ax (X 1)))) (aH (ae bF 2 (bA (X 0) (X 1))))))
def fu:Ï:=dL 2 ik
def MD:bL:=("swept",7,["jar","now"],fu)::MB
theorem Ch(A:Af K "swept" (Ô 107) f)(t:HA P w K mg base Zw)(a:î P w K mg base MB):î P w K mg base MD:=br (bM XI Gn ["jar","now"] ["jar","now"] ik A (aJ (by lk)) (by delta ik;fin2)) a
def cm:Ö:=(aA (bI 2 (av fu 2 (bA (f1 (kJ 0 3) (X 0)) (X 1)))) (aA (cU (gq 0 aE 1 (X 0) (ax (X 1)))) ue))
def cF:Ï:=dL 3 cm
def TO6:pI:=("step",8,1,cF)::ZW
theorem mW(A:Am K C "Keeper.step" "step" (cG (Ô 132) 6) f)(b:î P w K mg base MD)(a:ģ P w K mg base 0 C ZW):ģ P w K mg base 0 C TO6:=jh (lY ck ["self","now","left"] ["self","now"] cm A (aJ (by lk)) (by delta cm;fin2)) a
def du:Ö:=(aA (bI 5 (fW (bA (gq 0 bY 0 (X 0) cM) (gq 0 bX 0 (X 0) cM)))) (aA (yT 7 (Ń (fB (Q Þ (X 1) (R 0))) (jI 0 eP 3 (X 0) (bT (X 2) (X 3) (X 4))) (Ń (fB (Q Þ (X 1) (R 1))) (jI 0 cj 2 (X 0) (bA (X 2) (X 4))) (Ń (fB (Q Þ (X 1) (R 2))) (jI 0 cF 1 (X 0) (ax (X 4))) (jI 0 cC 1 (X 0) (ax (X 3)))))) (Q Þ (fW (bA (nM 0 fU (X 0)) (nM 0 fR (X 0)))) (X 5))) (aH (fC (.bl L)))))
def ai:Ï:=bt 6 du
def TL1:bL:=("_law_refuses",12,["_law_keeper","_law_way","_law_ask_here","_law_text_here","_law_now"],ai)::TL0
theorem mx(A:Af K "_law_refuses" (Ô 143) f)(a:ŵ P w K mg base Pt qL TL0)(e:ģ P w K mg base 0 C TO6)(d:Ah P w K mg base 0 C TQ2)(b:BX P w K mg base Pt qL 0 C "send" 10 2 cj):ŵ P w K mg base Pt qL TL1:=BL (F3 (q:=λ_=>True) XI Gn ["_law_keeper","_law_way","_law_ask_here","_law_text_here","_law_now","_law_before"] ["_law_keeper","_law_way","_law_ask_here","_law_text_here","_law_now"] du A (aJ (by lk)) (λ_ _=>trivial) (by delta du;fin2)) a
def iZ:Ö:=(aA (bI 2 (fj (aK (Ñ "!w.ck") (aK (Ñ "*.ck") (vm (Ñ "*.uk") (Ñ "a.b") (Ñ "b") (Ñ "c.uk") (Ñ "q") (Ñ "uk")))))) (aH (ß fX (ax (cq 2 [("_law_script",0),("_law_at",1)] (λa=>Ù ((ax (X 2)) a) AU) (gP 0 1) (Z (fB (Q Þ (ae ag 3 (bT (X 2) (Q cR (X 3) (X 0)) (R 2))) (R 0)))) (X 1))))))
def eZ:Ï:=bt 3 iZ
def Z6:bL:=("_law_table",3,["_law_script","_law_at"],eZ)::Zw
theorem oZ(A:Af K "_law_table" (Ô 137) f)(t:HA P w K mg base Zw):HA P w K mg base Z6:=az (aO XI Gn ["_law_script","_law_at","_law_some"] ["_law_script","_law_at"] iZ A (aJ (by lk)) (by delta iZ;fin2)) t
def aN:Ö:=(ba (fB (Q lP (X 11) (fC .non))) (bI 9 (Q cK (Q cK (Q cK (Q cK (X 9) (Ñ "; ")) (X 10)) (Ñ " ")) (ß HB (ax (X 11))))) (λa=>Z (.nx a)))
def fV:Ö:=(aA (JA [1,2,3,4] (ju (X 0) fA (dk (R 4)))) (aA (JA [5,6,7,8] (ju (X 0) (dk (R 4)) fA)) (aA (bI 9 (Q cK (Q cK (X 1) (Ñ "=")) (X 2))) (aA (vx (gP 10 11) [11,10] (λa=>Ù ((bA (fW (iE (Ñ "for") (Ñ "under") (Ñ "until") (Ñ "lasts"))) (ju (X 0) (dk (R 2)) (dk (R 6)))) a) Hz) aN) (aH (Q cK (Q cK (X 9) (ĺ (fB (X 7)) (Ñ "; safe") (Ñ ""))) (ĺ (fB (Q Þ (X 8) (Ñ "near"))) (Ñ "; near") (Ñ ""))))))))
def il:Ï:=bt 12 fV
def Z9:bL:=("_law_text",1,["_law_given_here"],il)::Z6
theorem qZ(A:Af K "_law_text" (Ô 141) f)(t:HA P w K mg base Z6):HA P w K mg base Z9:=az (aO XI Gn ["_law_given_here","_law_name_here","_law_worth","_law_house","_law_path_here","_law_until","_law_lasts","_law_safe","_law_reach","_law_text_here","_law_word","_law_thing"] ["_law_given_here"] fV A (aJ (by lk)) (by delta fV aN;fin2)) t
def i5:Ö:=(aA (cU (av aL 1 (ax (X 0)))) (aA (cU (av aW 1 (ax (X 1)))) (aA (bI 2 (bU [("table",0)] (da (X 1)) Y (ae bJ 2 (bA (X 1) (X 0))))) (aH (bU [("names",2)] (da (ß iH (ax (X 2)))) Y (fW (bA (X 0) (ZD Mq (X 1) (ax (X 0))))))))))
def i7:Ï:=dL 3 i5
def Oe:bL:=("groups",7,["table","jar"],i7)::MD
theorem zi(A:Af K "groups" (Ô 126) f)(t:HA P w K mg base Z9)(a:î P w K mg base MD):î P w K mg base Oe:=br (bM XI Gn ["table","jar","names"] ["table","jar"] i5 A (aJ (by lk)) (by delta i5;fin2)) a
def my:Ö:=(aA (cU (av eW 1 (ax (X 0)))) (aH (fM (gG) (X 0) (ax (Ñ ".")))))
def gU:Ï:=dL 1 my
def Of:bL:=("labels",5,["name"],gU)::Oe
theorem zj(A:Af K "labels" (Ô 25) f)(a:î P w K mg base Oe):î P w K mg base Of:=br (bM XI Gn ["name"] ["name"] my A (aJ (by lk)) (by delta my;fin2)) a
def aQ:Ö:=(ba (fB (Q ō (ß iC (ax (X 0))) (R 20))) (eC 5 (Ñ "these are more notes than a jar has")) (λa=>Z (.nx a)))
def aR:Ï:=dL 1 aQ
def Og:bL:=("need_no_more_than_a_jar_has",1,["notes"],aR)::Of
theorem fg(A:Af K "need_no_more_than_a_jar_has" (Ô 106) f)(a:î P w K mg base Of):î P w K mg base Og:=br (bM XI Gn ["notes"] ["notes"] aQ A (aJ (by lk)) (by delta aQ;fin2)) a
def kj:Ö:=(aA (bI 5 (av ao 5 (jf (X 0) (X 1) (X 2) (X 3) (X 4)))) (aA (ba (fB (ß Fw (ax (bU [("now",4)] (da (X 1)) Y (Q ō (Q Î (X 0) (R 9)) (X 1)))))) (eC 6 (Ñ "some note was used later than this moment")) (λa=>Z (.nx a))) (aA (bI 6 (av bw 5 (jf (X 0) (X 1) (X 2) (X 5) (X 4)))) (aA (cU (av aR 1 (ax (X 6)))) (aH (X 6))))))
def io:Ï:=dL 7 kj
def Pi:bL:=("taken",11,["table","jar","ask","text","now"],io)::Og
theorem Ci(A:Af K "taken" (Ô 115) f)(a:î P w K mg base Og):î P w K mg base Pi:=br (bM XI Gn ["table","jar","ask","text","now","given","notes"] ["table","jar","ask","text","now"] kj A (aJ (by lk)) (by delta kj;fin2)) a
def zk:Ò:=(ae eZ 2 (bA (X 0) (R 0)))
def zl:Ò:=(ae jk 3 (bT (X 0) (R 10) (R 4)))
def zm:Ò:=(ae jj 2 (bA (X 0) (R 80)))
def sV:Ò:=(ae il 1 (ax (ae eV 3 (bT (X 0) (R 90) (Q Î (X 3) (R 1))))))
def sW:Ò:=(Q cK (ß HC (ax (Q cK (bU [] (da (X 2)) Y (Q Î (X 0) (R 9))) (fj (ax (R 0)))))) (R 1))
def sX:Ò:=(fj (bT (ae gU 1 (ax (Q Î (X 3) (R 1)))) (ae dZ 4 (iE (X 1) (X 2) (X 3) (X 5))) (ae i7 2 (bA (X 1) (X 2)))))
def sY:ã:=(fB (Q Ě (fj (bT (ae gU 1 (ax (Q Î (X 3) (R 1)))) (ae dZ 4 (iE (X 1) (X 2) (X 3) (X 5))) (ae i7 2 (bA (X 1) (X 2))))) (X 7)))
def sZ:ã:=(fB (Q Ě (ae io 5 (jf (X 1) (X 2) (X 3) (X 4) (X 5))) (ae io 5 (jf (X 1) (X 2) (X 3) (X 4) (X 5)))))
def td:ã:=(fB (Q Ě (ae bd 5 (jf (X 1) (X 2) (X 3) (X 4) (X 5))) (ae bd 5 (jf (X 1) (X 2) (X 3) (X 4) (X 5)))))
def tj:Ò:=(iD (ae ai 5 (jf (X 9) (R 2) (X 3) (X 4) (f1 AG (R 1)))) (ae ai 5 (jf (X 9) (R 3) (X 3) (Ñ "a..b") (R 0))))
def tw:ò:=(qE 9 tj)
def tx:ã:=(ÿ (cg (fB (ae ai 5 (jf (X 9) (R 1) (ju (X 3) fA (dk (R 3))) (X 4) (R 6))))) (cg (fB (ae ai 5 (jf (X 9) (R 2) (X 3) (X 4) (R 4))))))
def tz:ò:=(ź tx (qE 9 (fC (.bl L))) tw)
def tE:ã:=(ÿ (cg (fB (ae ai 5 (jf (X 9) (R 0) (ju (X 3) fA (dk (R 3))) (X 4) (R 6))))) (cg (fB (ae ai 5 (jf (X 9) (R 1) (X 3) (X 4) (R 4))))))
def tG:ò:=(ź tE (qE 9 (fC (.bl L))) tz)
def tH:ã:=(ÿ (cg (fB (ae ai 5 (jf (X 9) (R 0) (X 3) (X 4) (R 4))))) (cg (fB (ae ai 5 (jf (X 9) (R 0) (X 3) (Ñ "") (R 6))))))
def tI:ò:=(ź tH (qE 9 (fC (.bl L))) tG)
def tJ:ã:=(fB (Q Ě (fW (bA (gq 0 bY 0 (X 9) cM) (gq 0 bX 0 (X 9) cM))) (X 11)))
def mz:ò:=(ź tJ (qE 9 (fC (.bl L))) tI)
def tK:ã:=(fB (Q Ě (fW (bA (gq 0 bY 0 (X 9) cM) (gq 0 bX 0 (X 9) cM))) (X 11)))
def zn:Ò:=(fW (bA (gq 0 bY 0 (X 9) cM) (gq 0 bX 0 (X 9) cM)))
def o5:ò:=(vK 9 0 aU 3 (bT (X 3) (X 4) (R 5)) tK (X 10) (.bl L) mz)
def o6:ò:=(Ad 9 11 zn o5)
def o7:ò:=(qF 9 0 aU 3 (bT (X 3) (X 4) (R 5)) λd a=>o6 (a.set 10 (Z d)))
def tL:Ö:=(aA (ba sY (aH (fC (.bl L))) (λa=>Z (.nx a))) (aA (ba sZ (aH (fC (.bl L))) (λa=>Z (.nx a))) (aA (ba td (aH (fC (.bl L))) (λa=>Z (.nx a))) (vJ 9 0 cP 3 (bT (X 1) (Q cK (R 1) (ae ag 3 (bT (X 0) (R 110) (R 4)))) (Q cK (R 1) (ae ag 3 (bT (X 0) (R 111) (R 4))))) o7))))
def zo:Ö:=(aA (bI 1 zk) (aA (bI 2 zl) (aA (bI 3 zm) (aA (bI 4 sV) (aA (bI 5 sW) (aA (bI 6 sX) (vL 6 7 8 tL)))))))
def zp:Ï:=bt 12 zo
theorem Lc{a:Rj}(A:ġ K "law" "law" (Ô 144) f a)(t:HA P w K mg base Z9)(h:î P w K mg base Pi)(e:ŵ P w K mg base Pt qL TL1)(b:yJ P w K mg base Pt qL TU2)(d:ģ P w K mg base 0 C TO6)(i:yP P w K mg base 0 C "hear" 11 3 aU)(g:HG P w K mg base 0 C 7 3 cP):è P w K mg base ċ 13 f a ["_law_script"] (KM Pt qL K zp 1):=Gj ["_law_script","_law_table_here","_law_jar_here","_law_ask_here","_law_text_here","_law_now","_law_first","_law_kept","_law_row","_law_keeper","_law_word","_law_once"] ["_law_script"] zo (by lk) (by lk) A (yC (by lk)) (by delta zo zk zl zm sV sW sX sY sZ td tj tw tx tz tE tG tH tI tJ mz tK zn o5 o6 o7 tL;fin2)
end
theorem af{K:d_}{x:Str}{b:Re}(f:B)(m:String:="law_notejar_k90_again_and_shared")(t:Nat:=1075)(c:Nat:=Nat.pred f)(a:nsM K x=Z (Z (.ref f)):=by lk)(l:K.lookup f=Z ⟨r_ "function",Y,.func (Sv x x (hU b) (bB b) (ah b) .none .none .none (kS m t) Y (kR c) .none),#[]⟩:=by lk)(d:US K (kR c) x=U:=by lk)(k:Rr K (.ref f)=U:=by lk):Af K x b f:=⟨a,⟨_,C9 l d k⟩,k⟩
theorem amf{K:d_}{x q:Str}{a:Re}(f:B)(m:String)(t c:Nat)(l:K.lookup f=Z ⟨r_ "function",Y,.func (Sv x q (hU a) (bB a) (ah a) .none .none .none (kS m t) Y (kR c) .none),#[]⟩:=by lk)(d:US K (kR c) q=U:=by lk)(k:Rr K (.ref f)=U:=by lk):∃b,ġ K x q a f b:=⟨_,C9 l d k⟩
theorem am{K:d_}{C:B}{x q:Str}{b:Re}{f:B}(e:∃d,ġ K x q b f d)(a:RF K (.ref C) x=Z (Z (.ref f)):=by lk)(i:WJ K (.ref f)=U:=by lk)(k:Rr K (.ref f)=U:=by lk):Am K C q x b f:=⟨⟨a,i,k⟩,e⟩
theorem all_mk{l:W3}{w:w_}{K:d_}{h:J_}{i:Str->Option D}{fa:B}(X:K.In h)(G:h.Ns z_ i)(d1:i "law"=Z (.ref fa)){f1 Q f3 f4 f5 f6 f7 f8 f9 o3 o2 o1 o0 n9 n8 n7 n6 n5 n4 n3 n2 n1 n0 m9 m8 m6 m4 m3 m2 m1 m0 l9 l6 l5 l3 l2 l1 l0 k5 k4 k3 k2 k1 k0 j2 j1 j0 i9 i8 i3 i1 h9 h7 h6 h5 h4 h3 h2 h1 h0 g9 g0 f0 e9 e8 e7 e6 e5 e4 e3 e2 e1 c' e0 d9 d8 d7 d6 d5 d4 d3 d2 fl:B}(A1:Af K "is_whole_number" (Ô 11) f1)(A2:Af K "need_room" (Ô 124) Q)(A3:Af K "is_text_of" (Ô 10) f3)(A4:Af K "is_label" (Ô 19) f4)(A5:Af K "is_name" (Ô 20) f5)(A6:Af K "is_rule" (Ô 21) f6)(A7:Af K "is_table" (Ô 22) f7)(A8:Af K "need_table" (Ô 24) f8)(A9:Af K "ends_longest_first" (Ô 27) f9)(z5:Af K "behind_first_dot" (Ô 28) o3)(z3:Af K "is_told_open" (Ô 29) o2)(z2:Af K "find_open_end" (Ô 30) o1)(z1:Af K "find_own_end" (Ô 31) o0)(y8:Af K "group_of" (Ô 125) n9)(y7:Af K "rank" (Ô 129) n8)(y5:Af K "too_many" (Ô 128) n7)(y2:Af K "without" (Ô 130) n6)(y1:Af K "fit" (Ô 127) n5)(y0:Af K "is_note_name" (Ô 67) n4)(x9:Af K "is_worth" (Ô 68) n3)(x8:Af K "is_path" (Ô 35) n2)(x7:Af K "is_reach" (Ô 69) n1)(x6:Af K "is_written_moment" (Ô 72) n0)(x5:Af K "what_is_told" (Ô 73) m9)(x4:Af K "read_given" (Ô 74) m8)(x2:Af K "key" (Ô 96) m6)(x1:Af K "end_for" (Ô 94) m4)(x0:Af K "house_for" (Ô 92) m3)(w7:Af K "is_open" (Ô 87) m2)(w5:Af K "is_exact" (Ô 88) m1)(w4:Af K "is_tuple_of" (Ô 12) m0)(w3:Af K "is_ask" (Ô 49) l9)(w2:Af K "need_ask" (Ô 50) l6)(w1:Af K "is_moment" (Ô 46) l5)(w0:Af K "is_moment_or_none" (Ô 47) l3)(v9:Af K "is_given" (Ô 70) l2)(v6:Af K "need_given" (Ô 71) l1)(v5:Af K "need_moment" (Ô 48) l0)(v4:Af K "need_path" (Ô 36) k5)(v2:Af K "folder" (Ô 37) k4)(v1:Af K "path_for" (Ô 93) k3)(v0:Af K "comes_from_near" (Ô 51) k2)(u7:Af K "keeps_its_mark" (Ô 89) k1)(u6:Af K "lies_within" (Ô 26) k0)(u5:Af K "why_refused" (Ô 90) j2)(u2:Af K "made" (Ô 95) j1)(u1:Af K "put" (Ô 110) j0)(s9:Af K "has_ended" (Ô 97) i9)(s8:Af K "without_ended" (Ô 108) i8)(s7:Af K "lies_under" (Ô 38) i3)(s6:Af K "shadows" (Ô 114) i1)(s5:Af K "word_of" (Ô 113) h9)(s4:Af K "take_in" (Ô 116) h7)(s3:Af K "has_no_key_twice" (Ô 104) h6)(s2:Af K "is_by_made" (Ô 103) h5)(s1:Af K "is_note" (Ô 91) h4)(s0:Af K "is_jar" (Ô 102) h3)(r8:Af K "need_jar" (Ô 105) h2)(r7:Af K "read_what_is_given" (Ô 111) h1)(r6:Af K "verdict" (Ô 112) h0)(r5:Af K "_law_cell" (Ô 134) g9)(r4:Af K "_law_drawn" (Ô 135) g0)(r3:Af K "_law_name" (Ô 136) f0)(r2:Af K "_law_path" (Ô 138) e9)(r1:Af K "_law_ask" (Ô 139) e8)(r0:Af K "_law_given" (Ô 140) e7)(q7:Af K "_law_jar" (Ô 142) e6)(q6:Af K "need_name" (Ô 23) e5)(q5:Af K "forgotten" (Ô 109) e4)(q4:Af K "is_for" (Ô 98) e3)(q3:Af K "goes" (Ô 99) e2)(q2:Af K "need_sending" (Ô 117) e1)(q1:Af K "sent" (Ô 118) c')(q0:Af K "sent_text" (Ô 119) e0)(p7:Af K "swept" (Ô 107) d9)(p6:Af K "_law_refuses" (Ô 143) d8)(p5:Af K "_law_table" (Ô 137) d7)(p4:Af K "_law_text" (Ô 141) d6)(p3:Af K "groups" (Ô 126) d5)(p2:Af K "labels" (Ô 25) d4)(p1:Af K "need_no_more_than_a_jar_has" (Ô 106) d3)(o4:Af K "taken" (Ô 115) d2){C g1 g2 g3 g4 g5 g6 g7 g8:B}(b:CK K 0 C)(G1:∃y,ġ K "__init__" "Keeper.__init__" (cG (Ô 132) 0) g1 y)(mk:Mk K C g1)(G2:Am K C "Keeper.clock" "clock" (cG (Ô 132) 2) g2)(G3:Am K C "Keeper.need_no_earlier" "need_no_earlier" (cG (Ô 132) 3) g3)(G4:Am K C "Keeper.hear" "hear" (cG (Ô 132) 4) g4)(G5:Am K C "Keeper.notes" "notes" (cG (Ô 132) 1) g5)(G6:Am K C "Keeper.forget" "forget" (cG (Ô 132) 7) g6)(G7:Am K C "Keeper.send" "send" (cG (Ô 132) 5) g7)(G8:Am K C "Keeper.step" "step" (cG (Ô 132) 6) g8)(AL:Af K "law" (Ô 144) fl)(ma:CC.all (NS K)=U){Pt:B}(ct:W' K c' Pt=U)(bb:P' K=U){C0 C1 C2 C3 C4 C5 C6 CJ:B}(cb:caB K [0,1,2,3,4,5,6] [C0,C1,C2,C3,C4,C5,C6] CJ 7=U):∃y:Rj,(∀(s:g_)(v:D),WR s y ⟨[v],[]⟩ [("_law_script",v)])/\∀g:J_,K.In g->g.Ns z_ i->è l.prog w K i g ċ 13 fa y ["_law_script"] (KM Pt qL K zp 1):=by
 have e:=d1.symm.trans (SQ X G AL.a);cases e;have M:=Ks X G CC ma;obtain⟨y,Fn⟩:=AL.F;refine⟨y,?_,λg _ _=>?_⟩;·obtain⟨oc,od,kV,B3,pm,an,D0,ct,z6,rfl,lk,B2⟩:=Fn.ex;exactλs v=>.of_eq rfl
 obtain⟨a,d⟩:=NZ X G cb;have f:=N2 X G bb;have v':ģ l.prog w K i g 0 C TO0:=Ge;have s':Ah l.prog w K i g 0 C TQ0:=BY;have t0:HA l.prog w K i g T0:=Kr;have H':î l.prog w K i g TE0:=FK;have x':ŵ l.prog w K i g Pt qL TL0:=F1;have p':yJ l.prog w K i g Pt qL TU0:=BN;have t1:=ka b X G M f a d A1 t0;have F':=qK b X G M f a d A2 t1 H';have t2:=oO b X G M f a d A3 t1;have t3:=sx b X G M f a d A4 t2;have t4:=vM b X G M f a d A5 t3;have t5:=vN b X G M f a d A6 t4;have t6:=sy b X G M f a d A7 t5;have I:=oP b X G M f a d A8 t6 F';have ti:=kc b X G M f a d G1 mk I;have to1:=l8 b X G M f a d G2 v';have H:=gu b X G M f a d G3 to1;have t7:=iN b X G M f a d A9 t6;have t8:=jJ b X G M f a d z5 t7;have t9:=mf b X G M f a d z3 t8;have d0:=la b X G M f a d z2 t9;have c9:=mh b X G M f a d z1 d0;have c8:=sE b X G M f a d y8 c9;have c7:=Gs b X G M f a d y7 c8;have c6:=sI b X G M f a d y5 c7;have c5:=vO b X G M f a d y2 c6;have c4:=K9 b X G M f a d y1 c5;have c3:=mj b X G M f a d y0 c4;have c2:=sJ b X G M f a d x9 c3;have c1:=vP b X G M f a d x8 c2;have c0:=sK b X G M f a d x7 c1;have b9:=jw b X G M f a d x6 c0;have b':=mo b X G M f a d x5 b9;have E':=oQ b X G M f a d x4 b' I;have b8:=La b X G M f a d x2 b';have b7:=vQ b X G M f a d x1 b8;have b6:=qN b X G M f a d x0 b7;have b5:=vR b X G M f a d w7 b6;have b4:=sL b X G M f a d w5 b5;have b3:=mP b X G M f a d w4 b4;have a':=ze b X G M f a d w3 b3;have D':=sM b X G M f a d w2 a' E';have b2:=qO b X G M f a d w1 a';have b1:=jx b X G M f a d w0 b2;have j:=sN b X G M f a d v9 b1;have C':=oR b X G M f a d v6 j D';have B':=mQ b X G M f a d v5 j C';have A':=qP b X G M f a d v4 j B';have z':=zf b X G M f a d v2 A';have y':=sO b X G M f a d v1 z';have b0:=kg b X G M f a d v0 j;have a9:=kP b X G M f a d u7 b0;have u:=mR b X G M f a d u6 a9;have n':=mS b X G M f a d u5 u y';have m':=Gu b X G M f a d u2 u n';have a8:=Lb b X G M f a d u1 u;have a7:=qQ b X G M f a d s9 a8;have a6:=lb b X G M f a d s8 a7;have a5:=oV b X G M f a d s7 a6;have t:=vS b X G M f a d s6 a5;have l':=vT b X G M f a d s5 t m';have k':=vU b X G M f a d s4 t l';have a3:=jK b X G M f a d s3 t;have a2:=oW b X G M f a d s2 a3;have a1:=vV b X G M f a d s1 a2;have r:=zg b X G M f a d s0 a1;have j':=sQ b X G M f a d r8 r k';have i':=iW b X G M f a d r7 j';have o:=vW b X G M f a d r6 i';have tc:=mT b X G M f a d G4 r o H;have u':=mr b X G M f a d G5 H;have a0:=qR b X G M f a d r5 r;have U':=oX b X G M f a d r4 a0;have T':=qS b X G M f a d r3 U';have Q':=qT b X G M f a d r2 T';have O':=sS b X G M f a d r1 Q';have N':=oY b X G M f a d r0 O';have q:=sU b X G M f a d q7 N';have r':=ms b X G M f a d G2 s';have h':=qU b X G M f a d q6 q o;have n:=qV b X G M f a d q5 q h';have t':=lc b X G M f a d G6 n u';have E:=mU b X G M f a d t' tc;have q':=mv b X G M f a d G5 r';have J':=zh b X G M f a d q4 q;have p:=Gx b X G M f a d q3 J';have m:=mw b X G M f a d q2 n;have o':=Gy b X G M f a d q1 p m p' ct;have z:=qY b X G M f a d q0 o';have ts:=mV b X G M f a d G7 z E;have k:=Ch b X G M f a d p7 p m;have A:=mW b X G M f a d G8 k E;have w':=mx b X G M f a d p6 x' A q' ts;have I':=oZ b X G M f a d p5 p;have P:=qZ b X G M f a d p4 I';have g':=zi b X G M f a d p3 P k;have f':=zj b X G M f a d p2 g';have e':=fg b X G M f a d p1 f';have d':=Ci b X G M f a d o4 e';exact Lc b X G M f a d Fn P d' w' z A tc ti
end G
set_option maxHeartbeats 4000000
namespace FD
open PySem.StrLaws PySem.Builtin PySem.Builtin.Str
noncomputable def J(S:List Nat):List Nat->List (List Nat)->List Nat|p,[]=>p|p,q::r=>p++(S++J S q r)
theorem ř:At b i b.length d↔d+i.length<=b.length/\(b.cps.toList.drop d).take i.length=i.cps.toList:=by unfold At;rw[subAt_eq];simp
theorem zq{a:List Nat}(f:i.cps.toList=d::a){k:Nat}(h:At b i b.length k):b.cps.toList[k]?=Z d:=by
 obtain⟨_,g⟩:=ř.mp h;rw[f]at g;have e:=congrArg (λl=>l[0]?) g;simp only[List.getElem?_cons_zero]at e;have j:0<i.length:=by show 0<i.cps.size;rw[<-Rb,f];simp
 rw[Wj j,V3]at e;simpa using e
theorem Gz{f:List Nat}(o:i.cps.toList=d::f){p j:List Nat}{a k:Nat}(n:b.cps.toList.drop a=p++j)(m:d∉p)(r:a<=k)(q:k<a+p.length):¬At b i b.length k:=by
 intro h;have e:=zq o h;have g:(b.cps.toList.drop a)[k-a]?=Z d:=by rw[V3,show a+(k-a)=k by omega];exact e
 rw[n,Sr (by omega)]at g;exact m (Q0 g)
theorem uK{x b:Str}{c:Nat}{v:List Nat}(y:b.cps.toList=c::v):∀(g:List (List Nat))(p:List Nat)(a:Nat)(d:List Nat)(f:Nat),(∀q∈p::g,c∉q)->x.cps.toList.drop a=J b.cps.toList p g->a<=x.length->ChainG x b x.length a d f->(∀k,f<=k->¬At x b x.length k)->(partsFrom x b.length a d).map (λs=>s.cps.toList)=p::g
 |[],p,a,d,f,w,o,ha,t,E=>by
  have i:x.cps.toList.length=x.length:=by simp[VU]
  have H:∀k,a<=k->¬At x b x.length k:=λk hk h=>by
   have e:=zq y h;have e2:(x.cps.toList.drop a)[k-a]?=Z c:=by rw[V3,show a+(k-a)=k by omega];exact e
   rw[o]at e2;exact w p q_ (Q0 e2)
  cases d with|nil=>
   show[(strSub x a x.length).cps.toList]=[p];rw[strSub_toList,o];show[p.take (x.length-a)]=[p];have:p.length=x.length-a:=by have:=congrArg Vu o;rw[Ve,i]at this;exact this.symm
   rw[U0 (by omega)]|cons k A=>exact absurd t.2.1 (H k t.1)
 |q::r,p,a,d,f,w,o,ha,t,E=>by
  have i:x.cps.toList.length=x.length:=by simp[VU]
  have j:b.cps.toList.length=b.length:=by simp[VU]
  have n:x.cps.toList.drop a=p++(b.cps.toList++J b.cps.toList q r):=o;have m:x.cps.toList.drop (a+p.length)=b.cps.toList++J b.cps.toList q r:=by rw[<-List.drop_drop,n,List.drop_left]
  have I:=congrArg Vu m;rw[Ve,i,Ry,j]at I;have a':0<b.length:=by rw[<-j,y];simp
  have u:At x b x.length (a+p.length):=ř.mpr ⟨by omega,by rw[m,<-j,List.take_left]⟩;have P:∀k,a<=k->k<a+p.length->¬At x b x.length k:=λk h1 h2=>Gz y n (w p q_) h1 h2;cases d with|nil=>exact absurd u (E _ (by have:f=a:=t;omega))|cons k A=>
   obtain⟨g1,g2,g3,g4⟩:=t;have ek:k=a+p.length:=by
    rcases Nat.lt_trichotomy k (a+p.length)with h|h|h;·exact absurd g2 (P k g1 h)
    ·exact h
    ·exact absurd u (g3 _ (by omega) h)
   subst ek;show(strSub x a (a+p.length)).cps.toList::(partsFrom x b.length (a+p.length+b.length) A).map (λs=>s.cps.toList)=p::q::r;rw[uK y r q (a+p.length+b.length) A f (λz hz=>w z (on _ hz)) (by rw[<-List.drop_drop,m,<-j,List.drop_left]) (by omega) g4 E,strSub_toList,n,show a+p.length-a=p.length by omega,List.take_left]
theorem zr(h:b.cps.toList=i.cps.toList):b=i:=by obtain⟨⟨b⟩⟩:=b;obtain⟨⟨i⟩⟩:=i;simp at h;rw[h]
theorem jO:∀{l m:List Str},l.map (λs=>s.cps.toList)=m.map (λs=>s.cps.toList)->l=m|[],[],_=>rfl|a::l,b::m,h=>by simp only[QU,YV]at h;rw[zr h.1,jO h.2]|[],_::_,h=>by simp at h|_::_,[],h=>by simp at h
theorem tM{j:List Nat}(v:i.cps.toList=d::j)(I:SG i=1){p:Str}{a:List Str}(t:∀q∈p::a,d∉q.cps.toList)(m:b.cps.toList=J i.cps.toList p.cps.toList (a.map λs=>s.cps.toList)):S6 b i=p::a:=by
 have g:i.cps.toList.length=i.length:=by simp[VU]
 have k:b.cps.toList.length=b.length:=by simp[VU]
 obtain⟨f,A,y⟩:=occ_tight b i (by rw[<-g,v];simp);have e:=uK v (a.map λs=>s.cps.toList) p.cps.toList 0 _ f (by
  intro q n;rcases t_.mp n with rfl|n;·exact t p q_
  ·obtain⟨s,w,rfl⟩:=QW.mp n;exact t s (on _ w)) (by rw[Xx];exact m) (QZ _) A y;have H:1<=SG b:=by unfold SG;split;omega;split<;>omega
 unfold S6;split
 · rename_i u;rw[YW,decide_eq_true_eq,decide_eq_true_eq]at u;rcases u with h|h;·cases a with|nil=>rw[zr (b:=b) (i:=p) m]|cons q r=>have:=congrArg Vu m;rw[k]at this;simp only[QU,J,Ry,g]at this;omega
   ·omega
 · split;·rename_i z;have E:occurrences b i 0 b.length (b.length+1)=[]:=List.isEmpty_iff.mp z;rw[E]at e;have o:[(strSub b 0 b.length).cps.toList]=p.cps.toList::(a.map λs=>s.cps.toList):=e;rw[sub_whole]at o;exact jO (l:=[b]) (m:=p::a) o
   ·rw[partsBetween_eq];exact jO (by rw[e];rfl)
open L2
theorem uL{d:Ò}{e:Ev}{g:Type}(i:g->N)(f:g->N):∀{l:List g},(∀a∈l,d (e.set 0 (Z (i a)))=Z (.ok (f a)))->xb Y d e (l.map i)=Z (l.map f)|[],_=>rfl|a::l,h=>by have j:=uL (d:=d) (e:=e) i f (l:=l) λb k=>h b (on _ k);rw[QU,QU];unfold xb;dsimp only;rw[h a q_,j]
theorem q8{e:ã}{g:Ò}{d:Ev}{i:Type}(j:i->N)(p:i->Bool)(f:i->N):∀{l:List i},(∀a∈l,e (d.set 0 (Z (j a)))=Z (.ok (p a))/\g (d.set 0 (Z (j a)))=Z (.ok (f a)))->xb (Z e) g d (l.map j)=Z ((l.filter p).map f)|[],_=>rfl|a::l,h=>by have k:=q8 (e:=e) (g:=g) (d:=d) j p f (l:=l) λb m=>h b (on _ m);obtain⟨o,n⟩:=h a q_;rw[QU];unfold xb;dsimp only;rw[o,k];cases q:p a with|true=>dsimp only;rw[n,WC q];rfl|false=>dsimp only;rw[WD (by rw[q];decide)]
theorem uM{d:Ò}{e:Ev}{i:Type}(g:i->N)(f:i->N):∀{l:List i},(∀a∈l,d (e.set 0 (Z (g a)))=Z (.ok (f a)))->jY (gN 0) Y d e (l.map g)=Z (l.map f)|[],_=>rfl|a::l,h=>by have j:=uM (d:=d) (e:=e) g f (l:=l) λb k=>h b (on _ k);rw[QU,QU];unfold jY;show(match d (e.set 0 (Z (g a)))with|some (.ok y)=>_|_=>_)=_;rw[h a q_,j]
theorem q9{e:ã}{g:Ò}{d:Ev}{j:Type}(i:j->N)(p:j->Bool)(f:j->N):∀{l:List j},(∀a∈l,e (d.set 0 (Z (i a)))=Z (.ok (p a))/\g (d.set 0 (Z (i a)))=Z (.ok (f a)))->jY (gN 0) (Z e) g d (l.map i)=Z ((l.filter p).map f)|[],_=>rfl|a::l,h=>by have k:=q9 (e:=e) (g:=g) (d:=d) i p f (l:=l) λb m=>h b (on _ m);obtain⟨o,n⟩:=h a q_;rw[QU];unfold jY;show(match e (d.set 0 (Z (i a)))with|some (.ok U)=>_|some (.ok L)=>_|_=>_)=_;rw[o,k];cases q:p a with|true=>dsimp only;rw[n,WC q];rfl|false=>dsimp only;rw[WD (by rw[q];decide)]
theorem ef{d:List (Str×Nat)}(b f:υ->N){l:List υ}(g:ε H=Z (.ok (l.map b)))(e:l.length<=100000)(h:∀a∈l,y ((Dd d H).set 0 (Z (b a)))=Z (.ok (f a))):bU d ε Y y H=Z (.ok (.lst (l.map f))):=by unfold bU;rw[g];show(match xb Y y (Dd d H) (l.map b)with|some i=>_|none=>_)=_;rw[uL b f h];dsimp only;rw[if_pos ⟨by simpa using e,by simpa using e⟩]
theorem kn{d:List (Str×Nat)}(b:υ->N)(p:υ->Bool)(f:υ->N){l:List υ}(e:ε H=Z (.ok (l.map b)))(g:l.length<=100000)(h:∀a∈l,Μ ((Dd d H).set 0 (Z (b a)))=Z (.ok (p a))/\y ((Dd d H).set 0 (Z (b a)))=Z (.ok (f a))):bU d ε (Z Μ) y H=Z (.ok (.lst ((l.filter p).map f))):=by unfold bU;rw[e];show(match xb (Z Μ) y (Dd d H) (l.map b)with|some i=>_|none=>_)=_;rw[q8 b p f h];dsimp only;have:=RJ p l;rw[if_pos ⟨by simp;omega,by simpa using g⟩]
theorem rf{d:List (Str×Nat)}(b f:υ->N){l:List υ}(g:ε H=Z (.ok (l.map b)))(e:l.length<=100000)(h:∀a∈l,y ((gW 1 d H).set 0 (Z (b a)))=Z (.ok (f a))):cq 1 d ε (gN 0) Y y H=Z (.ok (.lst (l.map f))):=by unfold cq;rw[g];show(match jY (gN 0) Y y (gW 1 d H) (l.map b)with|some i=>_|none=>_)=_;rw[uM b f h];dsimp only;rw[if_pos ⟨by simpa using e,by simpa using e⟩]
theorem kT{d:List (Str×Nat)}(b:υ->N)(p:υ->Bool)(f:υ->N){l:List υ}(e:ε H=Z (.ok (l.map b)))(g:l.length<=100000)(h:∀a∈l,Μ ((gW 1 d H).set 0 (Z (b a)))=Z (.ok (p a))/\y ((gW 1 d H).set 0 (Z (b a)))=Z (.ok (f a))):cq 1 d ε (gN 0) (Z Μ) y H=Z (.ok (.lst ((l.filter p).map f))):=by unfold cq;rw[e];show(match jY (gN 0) (Z Μ) y (gW 1 d H) (l.map b)with|some i=>_|none=>_)=_;rw[q9 b p f h];dsimp only;have:=RJ p l;rw[if_pos ⟨by simp;omega,by simpa using g⟩]
theorem GA(h:-(2^62)<=k/\k<2^62/\-(2^62)<=π/\π<2^62):Ab [.int k,.int π]=Z (.ok (rng k (π-k).toNat)):=by rw[Ab,if_pos h]
theorem GB(h:-(2^62)<=k/\k<2^62):v7 [.int k]=Z (.ok (rng 0 k.toNat)):=by rw[v7,if_pos h]
theorem GC(h:d<=1000):-(2^62)<=(1:Int)/\(1:Int)<2^62/\-(2^62)<=(d:Int)/\(d:Int)<2^62:=by omega
theorem Ld(h:d<=1000):Ab [.int 1,.int (d:Int)]=Z (.ok (rng 1 ((d:Int)-1).toNat)):=GA (GC h)
theorem Le(h:d<=1000):v7 [.int (d:Int)]=Z (.ok (rng 0 d)):=by rw[GB (by omega)];rfl
theorem mB{b:Type}(p:b->Bool):∀l:List b,jr (l.map λa=>N.bl (p a))=Z (l.map p)|[]=>rfl|a::l=>by show(match jr (l.map λa=>N.bl (p a))with|some bs=>Z (p a::bs)|none=>Y)=_;rw[mB p l];rfl
mutual
def œ:N->Bool|.exn _=>L|.obj _ _=>L|.tup a=>İ a|.lst a=>İ a|_=>U
def İ:List N->Bool|[]=>U|d::a=>œ d&&İ a
end
mutual
theorem o8:∀d:N,œ d=U->Rn (ei d) (ei d)=U
 |.non,_=>by simp[ei,Rn]|.bl b,_=>by simp[ei,Rn]|.int b,_=>by simp[ei,Rn]|.str b,_=>by simp[ei,Rn]|.tup a,h=>by simp only[ei,Rn];exact Ĕ a (by simpa[œ]using h)|.lst a,h=>by simp only[ei,Rn];exact Ĕ a (by simpa[œ]using h)|.scr e,_=>by simp only[ei,Rn];induction e with|nil=>simp[SS]|cons n e g=>simp[SS,Rn];exact g rfl
 |.exn _,h=>by simp[œ]at h|.obj _ _,h=>by simp[œ]at h
theorem Ĕ:∀a:List N,İ a=U->SS (ç a) (ç a)=U
 |[],_=>by simp[ç,SS]|d::a,h=>by
  have f:œ d=U/\İ a=U:=by simpa[İ]using h
  simp only[ç,SS,p_];exact⟨o8 d f.1,Ĕ a f.2⟩end
theorem GD(e:okP j=U)(d:œ j=U):Ě j j=Z (.ok (.bl L)):=by
 unfold Ě;split
 · rename_i b a;have:b=U:=by
    cases j<;>simp[ĩ]at a;·exact a
    ·exact a
    ·exact a
    ·rw[<-a];unfold seq;simp
   rw[this];rfl
 ·rw[e,o8 j d];rfl
theorem GE(e:okP j=U)(d:œ j=U):Þ j j=Z (.ok (.bl U)):=by
 unfold Þ;split
 · rename_i b a;have:b=U:=by
    cases j<;>simp[ĩ]at a;·exact a
    ·exact a
    ·exact a
    ·rw[<-a];unfold seq;simp
   rw[this]
 ·rw[e,o8 j d];rfl
structure ē(k:Nat)(d:N):Prop where
 c:QI (ei d)=U
 dp:(ei d).depth<=k
 p:œ d=U
theorem Cj{k:Nat}:∀{ds:List N},(∀d∈ds,ē k d)->Sk (ç ds)=U/\Uy (ç ds)<=k/\İ ds=U|[],_=>by simp[ç,Sk,Uy,İ]|d::ds,h=>by obtain⟨f,i,e⟩:=Cj (ds:=ds) λg b=>h g (on _ b);have a:=h d q_;simp only[ç,Sk,Uy,İ,p_];exact⟨⟨a.c,f⟩,by have:=a.dp;omega,a.p,e⟩
theorem rg(h:∀a∈q,ē d a):ē (d+1) (.tup q):=by obtain⟨f,e,b⟩:=Cj h;exact⟨by simpa[ei,QI]using f,by simp[ei,UT];exact e,by simpa[œ]using b⟩
theorem rh(h:∀a∈q,ē d a):ē (d+1) (.lst q):=by obtain⟨f,e,b⟩:=Cj h;exact⟨by simpa[ei,QI]using f,by simp[ei,UT];exact e,by simpa[œ]using b⟩
theorem ē.okP(h:ē d j)(a:d<=64):okP j=U:=by unfold FD.okP SeqAt.shaped;rw[h.c];have:=h.dp;simp;omega
theorem ē.le(h:ē d j)(a:d<=r):ē r j:=⟨h.c,QV h.dp a,h.p⟩
theorem iq(h:QI (.str b)=U):ē 0 (.str b):=⟨h,by simp[ei,UT],rfl⟩
theorem Ģ:ē 0 (.int k):=⟨rfl,by simp[ei,UT],rfl⟩
theorem Lf:ē 0 (.bl A):=⟨rfl,by simp[ei,UT],rfl⟩
theorem Lg:ē 0 .non:=⟨rfl,by simp[ei,UT],rfl⟩
theorem rj{b:Type}(f:b->N):∀l:List b,ç (l.map f)=l.map λa=>ei (f a)|[]=>rfl|a::l=>by simp[ç,rj f l]
theorem Oh{f:υ->N}{l:List υ}{p:υ->Bool}(g:ē 5 j)(v:iy j=L)(k:∀a∈l,ē 5 (f a))(i:∀a∈l,Rn (ei (f a)) (ei j)=p a):inX j (.lst (l.map f))=Z (.ok (.bl (l.any p)))/\jy j (.lst (l.map f))=Z (.ok (.bl (!l.any p)))/\inX j (.tup (l.map f))=Z (.ok (.bl (l.any p)))/\jy j (.tup (l.map f))=Z (.ok (.bl (!l.any p))):=by
 have e:Ŵ j (l.map f)=Z (l.any p):=by
  unfold Ŵ;have o:=g.okP (by omega);have n:=(Cj (k:=5) (ds:=l.map f) (by intro d w;obtain⟨a,z,rfl⟩:=QW.mp w;exact k a z)).1;have m:A_ ((ei j).depth<=63)=U:=by have:=g.dp;simp;omega
  rw[o,n,m];simp only[Bool.and_self,if_true];rw[rj];congr 1;clear o n m k g;induction l with|nil=>rfl|cons a l u=>simp only[QU,Vm];rw[i a q_,u λb y=>i b (on _ y)]
 have q:∀h,Ť j h=Y:=λh=>by unfold Ť;rw[v];rfl
 have t:Hv j (.lst (l.map f))=Y:=by cases j<;>first|exact q _|rfl
 have r:Hv j (.tup (l.map f))=Y:=by cases j<;>first|exact q _|rfl
 refine⟨?_,?_,?_,?_⟩<;>simp[inX,jy,Mr,t,r,e]
end FD
namespace G
open L2 FD
theorem kU(h:Ο (q.map Z++L_ (d-q.length) Y)=Z (.rt j)):dL d Ο q=Z (.ok j):=by unfold dL;rw[h]
theorem uN(h:Ο (q.map Z++L_ (d-q.length) Y)=Z (.exc r)):dL d Ο q=Z (.exc r):=by unfold dL;rw[h]
theorem cE(F:Ï){n:Nat}{g:Û}{b:Ev}{a:List N}{r:Option (Rs N)}(h:g b=Z (.ok a))(d:a.length=n)(e:F a=r):av F n g b=r:=by unfold av;rw[h,<-e];exact if_pos d
theorem ME(h:y H=Z (.exc d)):cU y H=Z (.exc d):=by unfold cU;rw[h];rfl
theorem GF(a:List Int)(t:a.length<=63)(k:Int):∃c,dG [.scr a,.int k]=Z (.ok (.int c)):=by cases a with|nil=>exact⟨7*k,by lk⟩|cons n r=>
 have v:0<(n::r).length:=by simp
 have b:(0:Int)<((n::r).length:Int):=by omega
 have p:((n::r).length:Int)<1073741824:=by omega
 have o:0<=k%((n::r).length:Int):=S9 _ (by omega);have u:k%((n::r).length:Int)<((n::r).length:Int):=Su _ b;have m:(k%((n::r).length:Int)).toNat<(n::r).length:=by omega
 refine⟨(n::r)[(k%((n::r).length:Int)).toNat]+6553*(k/((n::r).length:Int)),?_⟩;have f:ö (n::r) (k%((n::r).length:Int))=Z (n::r)[(k%((n::r).length:Int)).toNat]:=by unfold ö;rw[if_pos o,C_ m]
 have g:jQ (.int k) (.int ((n::r).length:Int))=Z (.ok (.int (k%((n::r).length:Int)))):=by show(if 0<((n::r).length:Int)then _ else _)=_;rw[if_pos b]
 have j:jW (.int k) (.int ((n::r).length:Int))=Z (.ok (.int (k/((n::r).length:Int)))):=by show(if 0<((n::r).length:Int)/\((n::r).length:Int)<1073741824 then _ else _)=_;rw[if_pos ⟨b,p⟩]
 have h:Î (.scr (n::r)) (.int (k%((n::r).length:Int)))=Z (.ok (.int (n::r)[(k%((n::r).length:Int)).toNat])):=by show(match ö (n::r) (k%((n::r).length:Int))with|some d=>_|none=>_)=_;rw[f]
 show(match fP [Z (.scr (n::r)),Z (.int k)]with|some (.nx _)=>_|some (.rt d)=>_|_=>_)=_;have e:fP [Z (.scr (n::r)),Z (.int k)]=cu (Ù (Ù (jQ (.int k) (.int ((n::r).length:Int))) λi=>Î (.scr (n::r)) i) λx=>Ù (Ù (jW (.int k) (.int ((n::r).length:Int))) λq=>k9 (.int 6553) q) λy=>cR x y) λd=>Z (.rt d):=by lk
 rw[e,g,j];show(match cu (Ù (Î (.scr (n::r)) (.int (k%((n::r).length:Int)))) λx=>_) _ with|some (.nx _)=>_|some (.rt d)=>_|_=>_)=_;rw[h];lk
noncomputable def G'(c k:Int):Int:=(c%2147483563*69069+104723*(k+1))%2147483563
noncomputable def Zx(c:Int):Int:=(c*c+c/3)%2147483399
noncomputable def Z'(c m:Int):Int:=(c*c+c/7)%2147483647/11%m
theorem rm(h:(-18446744073709551616<k/\k<18446744073709551616)\/(-18446744073709551616<π/\π<18446744073709551616)):k9 (.int k) (.int π)=Z (.ok (.int (k*π))):=by show(if _ then _ else _)=_;rw[if_pos h]
theorem rn(h:0<π):jQ (.int k) (.int π)=Z (.ok (.int (k%π))):=by show(if _ then _ else _)=_;rw[if_pos h]
theorem aZ(a:List Int)(j:a.length<=63)(k m:Int)(g:0<m):∃d:Int,0<=d/\d<m/\ag [.scr a,.int k,.int m]=Z (.ok (.int d)):=by
 obtain⟨c,n⟩:=GF a j k;refine⟨Z' (Zx (G' c k)) m,S9 _ (by omega),Su _ g,?_⟩;have v:0<=G' c k/\G' c k<2147483563:=⟨S9 _ (by omega),Su _ (by omega)⟩;have u:0<=Zx (G' c k)/\Zx (G' c k)<2147483399:=⟨S9 _ (by omega),Su _ (by omega)⟩;have w:0<=c%2147483563/\c%2147483563<2147483563:=⟨S9 _ (by omega),Su _ (by omega)⟩;show bt 4 dJ [.scr a,.int k,.int m]=_;have i:(ae dG 2 (bA (X 0) (X 1))) [Z (.scr a),Z (.int k),Z (.int m),Y]=Z (.ok (.int c)):=by show(match dG [.scr a,.int k]with|some (.ok d)=>(Z (.ok d):Option (Rs N))|_=>Y)=_;rw[n]
 have q:(bI 3 (Q jQ (Q cR (Q k9 (Q jQ (ae dG 2 (bA (X 0) (X 1))) (R 2147483563)) (R 69069)) (Q k9 (R 104723) (Q cR (X 1) (R 1)))) (R 2147483563))) [Z (.scr a),Z (.int k),Z (.int m),Y]=Z (.nx [Z (.scr a),Z (.int k),Z (.int m),Z (.int (G' c k))]):=by show cu (Ù (Ù (Ù (Ù ((ae dG 2 (bA (X 0) (X 1))) [Z (.scr a),Z (.int k),Z (.int m),Y]) λx=>jQ x (.int 2147483563)) λx=>k9 x (.int 69069)) λx=>Ù (k9 (.int 104723) (.int (k+1))) λy=>cR x y) λx=>jQ x (.int 2147483563)) (λd=>Z (.nx [Z (.scr a),Z (.int k),Z (.int m),Z d]))=_;rw[i];show cu (Ù (Ù (Ù (jQ (.int c) (.int 2147483563)) λx=>k9 x (.int 69069)) λx=>Ù (k9 (.int 104723) (.int (k+1))) λy=>cR x y) λx=>jQ x (.int 2147483563)) _=_;rw[rn (by omega),rm (k:=104723) (.inl (by omega))];show cu (Ù (Ù (k9 (.int (c%2147483563)) (.int 69069)) λx=>cR x (.int (104723*(k+1)))) λx=>jQ x (.int 2147483563)) _=_;rw[rm (.inl (by omega))];show cu (jQ (.int (c%2147483563*69069+104723*(k+1))) (.int 2147483563)) _=_;rw[rn (by omega)];rfl
 generalize t:G' c k=f at*;have p:(bI 3 (Q jQ (Q cR (Q k9 (X 3) (X 3)) (Q jW (X 3) (R 3))) (R 2147483399))) [Z (.scr a),Z (.int k),Z (.int m),Z (.int f)]=Z (.nx [Z (.scr a),Z (.int k),Z (.int m),Z (.int (Zx f))]):=by show cu (Ù (Ù (k9 (.int f) (.int f)) λx=>cR x (.int (f/3))) λx=>jQ x (.int 2147483399)) (λd=>Z (.nx [Z (.scr a),Z (.int k),Z (.int m),Z d]))=_;rw[rm (.inl (by omega))];show cu (jQ (.int (f*f+f/3)) (.int 2147483399)) _=_;rw[rn (by omega)];rfl
 generalize r:Zx f=b at*;have o:(aH (Q jQ (Q jW (Q jQ (Q cR (Q k9 (X 3) (X 3)) (Q jW (X 3) (R 7))) (R 2147483647)) (R 11)) (X 2))) [Z (.scr a),Z (.int k),Z (.int m),Z (.int b)]=Z (.rt (.int (Z' b m))):=by show cu (Ù (Ù (Ù (Ù (k9 (.int b) (.int b)) λx=>cR x (.int (b/7))) λx=>jQ x (.int 2147483647)) λx=>jW x (.int 11)) λx=>jQ x (.int m)) (λd=>Z (.rt d))=_;rw[rm (.inl (by omega))];show cu (Ù (Ù (jQ (.int (b*b+b/7)) (.int 2147483647)) λx=>jW x (.int 11)) λx=>jQ x (.int m)) _=_;rw[rn (by omega)];show cu (jQ (.int ((b*b+b/7)%2147483647/11)) (.int m)) _=_;rw[rn g];rfl
 show(match dJ [Z (.scr a),Z (.int k),Z (.int m),Y]with|some (.nx _)=>_|some (.rt d)=>_|_=>_)=_;have e:dJ [Z (.scr a),Z (.int k),Z (.int m),Y]=Z (.rt (.int (Z' b m))):=by show sq ((bI 3 _) _) (λh=>sq ((bI 3 _) h) _)=_;rw[q];show sq ((bI 3 _) [Z (.scr a),Z (.int k),Z (.int m),Z (.int f)]) _=_;rw[p];exact o
 rw[e]
noncomputable def Ć:List Str:=[b_ "a.b",b_ "b",b_ "x.a.b",b_ "y.x.a.b",b_ "c.uk",b_ "uk",b_ "d.c.uk",b_ "e.d.c.uk",b_ "w.ck",b_ "v.w.ck",b_ "ck",b_ "g-1.a.b",b_ "7.b",b_ "p.q"]
noncomputable def å:List N:=[.str "!w.ck",.str "*.ck",.str "*.uk",.str "a.b",.str "b",.str "c.uk",.str "q",.str "uk"]
noncomputable def jo:List N->List (List N)|[]=>[[]]|x::r=>(jo r).map (x::·)++jo r
noncomputable def okO(o:Option (Rs N)):Option (Rs N):=match o with|some (.ok d)=>Z (.ok d)|_=>Y
theorem iu(b:0<=k)(d:k<q.length):∃x∈q,Î (.lst q) (.int k)=Z (.ok x):=by
 have a:k.toNat<q.length:=by omega
 refine⟨q[k.toNat],Vf a,?_⟩;show(match ö q k with|some k=>_|none=>_)=_;unfold ö;rw[if_pos b,C_ a]
def ZE(o:Option (Rs N))(l:List Str):Option (Rs N):=match cu (Ù (match o with|some (.ok d)=>(Z (.ok d):Option (Rs N))|_=>Y) λi=>Î (.lst (l.map N.str)) i) λd=>Z (.rt d)with|some (.nx _)=>Z (.ok .non)|some (.rt d)=>Z (.ok d)|_=>Y
theorem DJ{o:Option (Rs N)}(g:0<=k)(f:k<z.length)(d:o=Z (.ok (.int k))):∃p∈z,ZE o z=Z (.ok (.str p)):=by obtain⟨x,a,e⟩:=iu (q:=z.map N.str) g (by rw[QL];exact f);obtain⟨p,b,rfl⟩:=QW.1 a;subst d;refine⟨p,b,?_⟩;unfold ZE Ù;dsimp only;rw[e];rfl
theorem o9(a:List Int)(b:a.length<=63)(k:Int):∃p∈Ć,bj [.scr a,.int k]=Z (.ok (.str p)):=by obtain⟨d,g,f,e⟩:=aZ a b k 14 (by omega);rw[show bj [.scr a,.int k]=ZE (ag [.scr a,.int k,.int 14]) Ć by lk];exact DJ g f e
def GG:ã:=fB (Q Þ (ae ag 3 (bT (X 2) (Q cR (X 3) (X 0)) (R 2))) (R 0))
theorem DK(a:List Int)(g:a.length<=63)(z:Int):∀(l:List N)(k:Nat),∃t∈jo l,jY (gP 0 1) (Z GG) (X 1) [Y,Y,Z (.scr a),Z (.int z)] (ky k l)=Z t
 |[],k=>⟨[],by simp[jo],rfl⟩|x::r,k=>by
  obtain⟨t,f,e⟩:=DK a g z r (k+1);obtain⟨d,o,n,j⟩:=aZ a g (z+k) 2 (by omega);have b:GG [Z (.int k),Z x,Z (.scr a),Z (.int z)]=Ù (Ù (okO (ag [.scr a,.int (z+k),.int 2])) λx=>Þ x (.int 0)) ð:=by lk
  have i:jY (gP 0 1) (Z GG) (X 1) [Y,Y,Z (.scr a),Z (.int z)] (ky k (x::r))=(match GG [Z (.int k),Z x,Z (.scr a),Z (.int z)]with|some (.ok U)=>(match jY (gP 0 1) (Z GG) (X 1) [Y,Y,Z (.scr a),Z (.int z)] (ky (k+1) r)with|some h=>Z (x::h)|none=>Y)|some (.ok L)=>jY (gP 0 1) (Z GG) (X 1) [Y,Y,Z (.scr a),Z (.int z)] (ky (k+1) r)|_=>Y):=by lk
  rw[i,b,j,e];have m:d=0\/d=1:=by omega
  rcases m with rfl|rfl;·exact⟨x::t,by simp[jo,f],by lk⟩
  ·exact⟨t,by simp[jo,f],by lk⟩
theorem pk:∀{l t:List N},t∈jo l->t.length<=l.length
 |[],t,h=>by simp[jo]at h;simp[h]|x::r,t,h=>by
  simp only[jo,QS,QW]at h;rcases h with⟨u,a,rfl⟩|h;·have:=pk a;simp;omega
  ·have:=pk h;simp;omega
theorem Ck(a:List Int)(i:a.length<=63):∃t∈jo å,eZ [.scr a,.int 0]=Z (.ok (.tup t)):=by
 obtain⟨t,g,e⟩:=DK a i 0 å 0;refine⟨t,g,?_⟩;have f:t.length<=100000:=by have:=pk g;have:å.length=8:=rfl;omega
 have h:eZ [.scr a,.int 0]=(match cu (Ù (Ù (match jY (gP 0 1) (Z GG) (X 1) [Y,Y,Z (.scr a),Z (.int 0)] (ky 0 å)with|some b=>if b.length<=100000/\(ky 0 å).length<=100000 then(Z (.ok (.lst b)):Option (Rs N))else Y|none=>Y) λx=>Ù (Z (.ok [])) λb=>Z (.ok (x::b))) fX) λd=>Z (.rt d)with|some (.nx _)=>Z (.ok .non)|some (.rt d)=>Z (.ok d)|_=>Y):=by lk
 rw[h,e];dsimp only;rw[if_pos ⟨f,by decide⟩];rfl
noncomputable def ì:List Str:=[b_ "/",b_ "/x",b_ "/x/",b_ "/x/y",b_ "/xy",b_ "/x/y/z.q",b_ "//",b_ "/-_.9",b_ "/x/y/"]
theorem tN(a:List Int)(b:a.length<=63)(k:Int):∃p∈ì,cz [.scr a,.int k]=Z (.ok (.str p)):=by obtain⟨d,g,f,e⟩:=aZ a b k 9 (by omega);rw[show cz [.scr a,.int k]=ZE (ag [.scr a,.int k,.int 9]) ì by lk];exact DJ g f e
theorem rp(F:Ï){f g k:Ò}{e:Ev}{a b c d:N}(h:f e=Z (.ok a))(m:g e=Z (.ok b))(i:k e=Z (.ok c))(j:F [a,b,c]=Z (.ok d)):ae F 3 (bT f g k) e=Z (.ok d):=j3 (ac h (ac m (ac i aj))) rfl j
theorem Co(a:List Int)(b:a.length<=63)(z:Int):∃s h p O,h∈Ć/\p∈ì/\(O=N.non\/∃o∈Ć,O=.str o)/\jj [.scr a,.int z]=Z (.ok (.tup [.bl s,.str h,.str p,O])):=by
 obtain⟨f,E,A,m⟩:=aZ a b (z+2) 3 (by omega);obtain⟨o,q,d⟩:=o9 a b (z+3);obtain⟨v,y,w,n⟩:=aZ a b z 2 (by omega);obtain⟨h,t,j⟩:=o9 a b (z+1);obtain⟨p,r,i⟩:=tN a b (z+4);have g:∃O,(O=N.non\/∃o∈Ć,O=.str o)/\Î (.lst [.non,.str o,.str o]) (.int f)=Z (.ok O):=by
  have u:f=0\/f=1\/f=2:=by omega
  rcases u with rfl|rfl|rfl;·exact⟨.non,.inl rfl,rfl⟩
  ·exact⟨.str o,.inr ⟨o,q,rfl⟩,rfl⟩
  ·exact⟨.str o,.inr ⟨o,q,rfl⟩,rfl⟩
 obtain⟨O,g,k⟩:=g;refine⟨(v==0),h,p,O,t,r,g,eR ?_⟩;show gT [Z (.scr a),Z (.int z),Y]=_;unfold gT;have e:Q Î (fj (bT (fC .non) (ae bj 2 (bA (X 0) (Q cR (X 1) (R 3)))) (ae bj 2 (bA (X 0) (Q cR (X 1) (R 3)))))) (ae ag 3 (bT (X 0) (Q cR (X 1) (R 2)) (R 3))) [Z (.scr a),Z (.int z),Y]=Z (.ok O):=by rw[bV (ox (ac rfl (ac (dw bj rfl rfl d) (ac (dw bj rfl rfl d) aj))) (by show 3<=100000;decide)) (rp ag rfl rfl rfl m)];exact k
 rw[ar (a:=[Z (.scr a),Z (.int z),Z O]) (aV e rfl)];refine cH (jE (ac ?_ (ac (dw bj rfl rfl j) (ac (dw cz rfl rfl i) (ac rfl aj)))) (by show 4<=100000;decide));rw[bV (rp ag rfl rfl rfl n) rfl];rfl
abbrev bo(k:Bool):Option (Rs N):=Z (.ok (.bl k))
def En:List Str:=Ć++[b_ "q"]
theorem gk(h:seq b i=U):b=i:=by unfold seq at h;obtain⟨⟨a⟩⟩:=b;obtain⟨⟨d⟩⟩:=i;simp at h;rw[h]
theorem dj{l:List υ}{p:υ->Bool}(n:Nat)(b:(l.take n).all p=U)(a:(l.drop n).all p=U):l.all p=U:=by rw[<-List.take_append_drop n l,List.all_append,b,a];rfl
def Lh(t:List N)(n:Str):Bool:=match cW [.tup t,.str n],bO [.tup t,.str n]with|some (.ok (.str _)),Z (.ok .non)=>U|some (.ok (.str _)),Z (.ok (.str z))=>QI (.str z)|_,_=>L
def iB(t:List N):Bool:=En.all λn=>Lh t n
def df:Nat->List (List N)|0=>jo å|k+1=>(df k).drop 16
theorem Qd:((df 0).take 16).all iB=U:=by lk
theorem Qe:((df 1).take 16).all iB=U:=by lk
theorem Qf:((df 2).take 16).all iB=U:=by lk
theorem Qg:((df 3).take 16).all iB=U:=by lk
theorem Qh:((df 4).take 16).all iB=U:=by lk
theorem Qi:((df 5).take 16).all iB=U:=by lk
theorem Qj:((df 6).take 16).all iB=U:=by lk
theorem Qk:((df 7).take 16).all iB=U:=by lk
theorem Ql:((df 8).take 16).all iB=U:=by lk
theorem Qm:((df 9).take 16).all iB=U:=by lk
theorem Oi:((df 10).take 16).all iB=U:=by lk
theorem Oj:((df 11).take 16).all iB=U:=by lk
theorem Ol:((df 12).take 16).all iB=U:=by lk
theorem Om:((df 13).take 16).all iB=U:=by lk
theorem On:((df 14).take 16).all iB=U:=by lk
theorem Oo:((df 15).take 16).all iB=U:=by lk
theorem DM:(jo å).all iB=U:=(dj (l:=df 0) 16 Qd (dj (l:=df 1) 16 Qe (dj (l:=df 2) 16 Qf (dj (l:=df 3) 16 Qg (dj (l:=df 4) 16 Qh (dj (l:=df 5) 16 Qi (dj (l:=df 6) 16 Qj (dj (l:=df 7) 16 Qk (dj (l:=df 8) 16 Ql (dj (l:=df 9) 16 Qm (dj (l:=df 10) 16 Oi (dj (l:=df 11) 16 Oj (dj (l:=df 12) 16 Ol (dj (l:=df 13) 16 Om (dj (l:=df 14) 16 On (dj (l:=df 15) 16 Oo (show(df 16).all iB=U by lk)))))))))))))))))
theorem vX(d:q∈jo å){n:Str}(e:n∈En):∃m o,cW [.tup q,.str n]=Z (.ok (.str m))/\(o=N.non\/∃z,o=.str z)/\bO [.tup q,.str n]=Z (.ok o):=by
 have h:=aS (show(En.all λn=>Lh q n)=U from aS DM d) e;unfold Lh at h;split at h;·rename_i m b a;exact⟨m,_,b,.inl rfl,a⟩
 ·rename_i m z b a;exact⟨m,_,b,.inr ⟨z,rfl⟩,a⟩
 ·cases h
theorem GH(d:q∈jo å){n:Str}(e:n∈En){z:Str}(b:bO [.tup q,.str n]=Z (.ok (.str z))):QI (.str z)=U:=by
 have h:=aS (show(En.all λn=>Lh q n)=U from aS DM d) e;unfold Lh at h;rw[b]at h;split at h;·rename_i a;cases a
 ·rename_i a;cases a;exact h
 ·cases h
noncomputable def ļ:Option (Rs N)->Bool|some (.ok (.bl U))=>U|_=>L
theorem mC{o:Option (Rs N)}(h:ļ o=U):o=Z (.ok (.bl U)):=by
 unfold ļ at h;split at h;·rfl
 ·cases h
noncomputable def ż:Option (Rs N)->Bool|some (.ok (.bl _))=>U|_=>L
theorem DN{o:Option (Rs N)}(h:ż o=U):∃k,o=bo k:=by
 unfold ż at h;split at h;·exact⟨_,rfl⟩
 ·cases h
noncomputable def okF:Option (Rs N)->Bool|some (.ok (.bl L))=>U|_=>L
theorem zt:((jo å).all λt=>ļ (cD [.tup t]))=U:=by lk
theorem dv(a:q∈jo å):cD [.tup q]=bo U:=mC (aS (p:=λq=>ļ (cD [.tup q])) zt a)
noncomputable def ħ:List Str:=[b_ "n",b_ "safe-a",b_ "own-b",b_ "N_2",b_ "m-1",b_ "safe-",b_ "own"]
noncomputable def ĭ:List Str:=[b_ "5",b_ "",b_ "a!b~",b_ "x/y?z",b_ "123456789012",b_ "1"]
theorem Li:(ħ.all λn=>ļ (aP [.str n]))=U:=by lk
theorem Lj:(ħ.all λn=>!(Q6 n (b_ "safe-")&&Q6 n (b_ "own-")))=U:=by lk
theorem Lk:(ĭ.all λn=>ļ (bS [.str n]))=U:=by lk
theorem Ll:(En.all λn=>ļ (bW [.str n]))=U:=by lk
theorem Lm:(ì.all λn=>ļ (cA [.str n]))=U:=by lk
theorem Ln:(En.all λp=>En.all λq=>ż (aI [.str p,.str q]))=U:=by lk
def Op(p:Str):Bool:=match kf [.str p]with|some (.ok (.str f))=>ì.any (λq=>seq q f)|_=>L
theorem Lo:(ì.all Op)=U:=by lk
theorem Pj(h:b∈ħ):aP [.str b]=bo U:=mC (aS (p:=λb=>ļ (aP [.str b])) Li h)
theorem Qn(h:b∈ħ):Q6 b (b_ "safe-")=L\/Q6 b (b_ "own-")=L:=by have:=aS (p:=λb=>!(Q6 b (b_ "safe-")&&Q6 b (b_ "own-"))) Lj h;simpa using this
theorem Pk(h:b∈ĭ):bS [.str b]=bo U:=mC (aS (p:=λb=>ļ (bS [.str b])) Lk h)
theorem HH(h:b∈En):bW [.str b]=bo U:=mC (aS (p:=λb=>ļ (bW [.str b])) Ll h)
theorem MF(h:b∈ì):cA [.str b]=bo U:=mC (aS (p:=λb=>ļ (cA [.str b])) Lm h)
theorem Pl(h:b∈En)(a:i∈En):∃k,aI [.str b,.str i]=bo k:=DN (aS (p:=λi=>ż (aI [.str b,.str i])) (aS (p:=λb=>En.all λi=>ż (aI [.str b,.str i])) Ln h) a)
theorem Qo(h:b∈ì):∃f∈ì,kf [.str b]=Z (.ok (.str f)):=by
 have q:=aS (p:=Op) Lo h;unfold Op at q;split at q;·rename_i f d;obtain⟨y,a,g⟩:=Tz.mp q;have e:=gk g;subst e;exact⟨y,a,d⟩
 ·cases q
theorem Cp(h:cD [j]=bo U):aL [j]=Z (.ok .non):=by simp[aL,dL,fk,ba,cu,Ù,cg,fB,ð,ae,aK,cM,X,h]
theorem Lp(h:cy [j]=bo U):bg [j]=Z (.ok .non):=by simp[bg,dL,fJ,ba,cu,Ù,cg,fB,ð,ae,aK,cM,X,h]
theorem Pm(h:gS [j]=bo U):dc [j]=Z (.ok .non):=by simp[dc,dL,fq,ba,cu,Ù,cg,fB,ð,ae,aK,cM,X,h]
theorem Cq(h:bc [j]=bo U):aT [j]=Z (.ok .non):=by simp[aT,dL,dt,ba,cu,Ù,cg,fB,ð,ae,aK,cM,X,h]
theorem Pn(h:cy [j]=bo L):bg [j]=Z (.exc 3):=by simp[bg,dL,fJ,ba,cu,Ù,cg,fB,ð,ae,aK,cM,X,fC,eC,h]
theorem Qp(h:bc [j]=bo L):aT [j]=Z (.exc 6):=by simp[aT,dL,dt,ba,cu,Ù,cg,fB,ð,ae,aK,cM,X,fC,eC,h]
theorem mom_y(b:0<=k)(a:k<=9999):bc [.int k]=bo U:=by
 have e:aF [.int k,.int 0,.int 9999]=bo U:=by simp[aF,bt,aY,aA,sq,ba,aH,cu,Ù,ÿ,cg,fB,ð,X,f1,Q,iD,jt,ez,oA,į,b,a]
 simp[bc,bt,eE,aH,cu,Ù,ae,aK,cM,X,fC,e]
def Mo(u:N):Prop:=u=.non\/∃i:Int,0<=i/\i<=9999/\u=.int i
theorem zu(h:Mo j):aC [j]=bo U:=by
 rcases h with rfl|⟨i,b,a,rfl⟩;·simp[aC,bt,bC,aH,cu,Ù,ð,X,fC,Q,Ġ,Ą]
 ·simp[aC,bt,bC,aH,cu,Ù,ð,ae,aK,cM,X,fC,Q,Ġ,Ą,mom_y b a]
structure Ak(h p:Str)(O:N):Prop where
 h:h∈En
 p:p∈ì
 o:O=.non\/∃o∈Ć,O=.str o
theorem me(q:b∈Ć):b∈En:=G_ _ q
abbrev á(s:Bool)(h p:Str)(O:N):N:=.tup [.bl s,.str h,.str p,O]
theorem zv(a:Ak b i j):cy [á A b i j]=bo U:=by
 have f:bN [.tup [.bl A,.str b,.str i,j],.int 4]=bo U:=by lk
 have e:=HH (a.h);have d:=MF a.p;rcases a.o with rfl|⟨o,g,rfl⟩;·simp[cy,bt,ic,aA,sq,ba,aH,cu,Ù,cg,fB,ð,ae,aK,cM,X,fC,f1,Q,Î,ö,Ġ,fj,ß,Ą,jt,ez,f,e,d,mK,jr]
 ·have h:=HH (me g);simp[cy,bt,ic,aA,sq,ba,aH,cu,Ù,cg,fB,ð,ae,aK,cM,X,fC,f1,Q,Î,ö,Ġ,fj,ß,Ą,jt,ez,f,e,d,h,mK,jr]
theorem Lq(e:q∈jo å){h p:Str}{O:N}(a:Ak h p O):∃k,∀s,al [.tup q,á s h p O]=bo k:=by
 rcases a.o with rfl|⟨o,j,rfl⟩;·exact⟨U,λs=>by simp[al,bt,aG,aA,sq,ba,aH,bI,cu,Ù,ÿ,fB,ð,X,fC,Q,Î,ö,Ą]⟩
 ·obtain⟨v,t,_,n,d⟩:=vX e (a.h);obtain⟨u,r,_,m,f⟩:=vX e (me j);cases b:seq o h with|true=>exact⟨U,λs=>by simp[al,bt,aG,aA,sq,ba,aH,bI,cu,Ù,ÿ,fB,ð,X,fC,Q,Î,ö,Ą,Þ,ĩ,b]⟩|false=>
 rcases n with rfl|⟨i,rfl⟩;·exact⟨L,λs=>by simp[al,bt,aG,aA,sq,ba,aH,bI,cu,Ù,ÿ,fB,ð,ae,aK,cM,X,fC,Q,Î,ö,iD,Ą,lP,Þ,ĩ,b,d]⟩
 · rcases m with rfl|⟨g,rfl⟩;·exact⟨L,λs=>by simp[al,bt,aG,aA,sq,ba,aH,bI,cu,Ù,ÿ,fB,ð,ae,aK,cM,X,fC,Q,Î,ö,iD,Ą,lP,Þ,ĩ,b,d,f]⟩
   ·exact⟨seq i g,λs=>by simp[al,bt,aG,aA,sq,ba,aH,bI,cu,Ù,ÿ,fB,ð,ae,aK,cM,X,fC,Q,Î,ö,iD,Ą,lP,Þ,ĩ,b,d,f]⟩
structure Gv(nm w:Str)(H P u l:N)(S:Bool)(R:Str):Prop where
 nm:nm∈ħ
 w:w∈ĭ
 hh:H=.non\/∃n∈En,H=.str n
 pp:P=.non\/∃p∈ì,P=.str p
 u:u=.non\/∃i:Int,0<=i/\i<60/\u=.int i
 l:l=.non\/∃i:Int,0<=i/\i<30/\l=.int i
 r:R=b_ "any"\/R=b_ "near"
abbrev Ā(a w:Str)(H P u l:N)(S:Bool)(R:Str):N:=.tup [.str a,.str w,H,P,u,l,.bl S,.str R]
def HI:Option (Rs N)->Bool|some (.ok (.str z))=>En.any λq=>seq q z|_=>L
theorem zw{o:Option (Rs N)}(h:HI o=U):∃n∈En,o=Z (.ok (.str n)):=by
 unfold HI at h;split at h;·rename_i z;obtain⟨y,a,b⟩:=Tz.mp h;have e:=gk b;subst e;exact⟨y,a,rfl⟩
 ·cases h
def Cr:Ò:=(Q Î (fM (gG) (X 2) (ax (Ñ "."))) (f1 AG (R 1)))
def Ct:Ò:=(ĺ (fB (Q ŋ (Ñ ".") (X 2))) (v8 (X 2) (dk (Q cR (fM JN (X 2) (ax (Ñ "."))) (R 1))) fA) (X 2))
theorem Cu:(Ć.all λh=>HI (Cr [Y,Y,Z (.str h)]))=U:=by lk
theorem Cv:(Ć.all λh=>HI (Ct [Y,Y,Z (.str h)]))=U:=by lk
theorem Lr(q:b∈Ć){a d:Option N}{r:Ev}:∃n∈En,Cr (a::d::Z (.str b)::r)=Z (.ok (.str n)):=zw (aS (p:=λb=>HI (Cr [Y,Y,Z (.str b)])) Cu q)
theorem Ls(q:b∈Ć){a d:Option N}{r:Ev}:∃n∈En,Ct (a::d::Z (.str b)::r)=Z (.ok (.str n)):=zw (aS (p:=λb=>HI (Ct [Y,Y,Z (.str b)])) Cv q)
theorem Cw(d:List Int)(e:d.length<=63)(z:Int){h:Str}(r:h∈Ć):∃f w H P u l S a,Gv f w H P u l S a/\eV [.scr d,.int z,.str h]=Z (.ok (Ā f w H P u l S a)):=by
 obtain⟨d0,a0,b0,e0⟩:=aZ d e z 7 (by omega);obtain⟨d1,a1,b1,e1⟩:=aZ d e (z+1) 5 (by omega);obtain⟨d2,a2,b2,e2⟩:=aZ d e (z+2) 6 (by omega);obtain⟨d4,a4,b4,e4⟩:=aZ d e (z+4) 3 (by omega);obtain⟨d6,a6,b6,e6⟩:=aZ d e (z+6) 3 (by omega);obtain⟨d7,a7,b7,e7⟩:=aZ d e (z+7) 60 (by omega);obtain⟨d8,a8,b8,e8⟩:=aZ d e (z+8) 3 (by omega);obtain⟨d9,a9,b9,e9⟩:=aZ d e (z+9) 30 (by omega);obtain⟨c',h',g',b'⟩:=aZ d e (z+10) 2 (by omega);obtain⟨f',e',d',a'⟩:=aZ d e (z+11) 2 (by omega);obtain⟨n3,E,e3⟩:=o9 d e (z+3);obtain⟨p5,y,e5⟩:=tN d e (z+5);obtain⟨q,m0,i0⟩:=iu (q:=[.str "n",.str "safe-a",.str "own-b",.str "N_2",.str "m-1",.str "safe-",.str "n"]) a0 b0;obtain⟨p,m1,i1⟩:=iu (q:=[.str "5",.str "",.str "a!b~",.str "x/y?z",.str "123456789012"]) a1 b1;obtain⟨b,hL,eL⟩:=Lr r (a:=Z (.scr d)) (d:=Z (.int z)) (r:=[Z q,Z p,Y,Y,Y,Y,Y,Y]);obtain⟨TL,hT,eT⟩:=Ls r (a:=Z (.scr d)) (d:=Z (.int z)) (r:=[Z q,Z p,Y,Y,Y,Y,Y,Y]);obtain⟨o,m2,i2⟩:=iu (q:=[.non,.non,.str h,.str b,.str n3,.str TL]) a2 b2;obtain⟨m,m4,i4⟩:=iu (q:=[.non,.str "/",.str p5]) a4 b4;obtain⟨k,m6,i6⟩:=iu (q:=[.non,.non,.int d7]) a6 b6;obtain⟨j,m8,i8⟩:=iu (q:=[.non,.non,.int d9]) a8 b8;obtain⟨t,g,v⟩:=iu (q:=[.str "any",.str "near"]) e' d';have g0:∃f∈ħ,q=.str f:=by simp only[t_,K_,or_false]at m0;rcases m0 with rfl|rfl|rfl|rfl|rfl|rfl|rfl<;>exact⟨_,by unfold ħ;repeat first|exact .head _|apply Zi,rfl⟩
 have g1:∃f∈ĭ,p=.str f:=by simp only[t_,K_,or_false]at m1;rcases m1 with rfl|rfl|rfl|rfl|rfl<;>exact⟨_,by unfold ĭ;repeat first|exact .head _|apply Zi,rfl⟩
 have g2:o=.non\/∃n∈En,o=.str n:=by
  simp only[t_,K_,or_false]at m2;rcases m2 with rfl|rfl|rfl|rfl|rfl|rfl;·exact .inl rfl
  ·exact .inl rfl
  ·exact .inr ⟨_,me r,rfl⟩
  ·exact .inr ⟨_,hL,rfl⟩
  ·exact .inr ⟨_,me E,rfl⟩
  ·exact .inr ⟨_,hT,rfl⟩
 have g4:m=.non\/∃n∈ì,m=.str n:=by
  simp only[t_,K_,or_false]at m4;rcases m4 with rfl|rfl|rfl;·exact .inl rfl
  ·exact .inr ⟨_,.head _,rfl⟩
  ·exact .inr ⟨_,y,rfl⟩
 have g6:k=.non\/∃i:Int,0<=i/\i<60/\k=.int i:=by
  simp only[t_,K_,or_false]at m6;rcases m6 with rfl|rfl|rfl;·exact .inl rfl
  ·exact .inl rfl
  ·exact .inr ⟨_,a7,b7,rfl⟩
 have g8:j=.non\/∃i:Int,0<=i/\i<30/\j=.int i:=by
  simp only[t_,K_,or_false]at m8;rcases m8 with rfl|rfl|rfl;·exact .inl rfl
  ·exact .inl rfl
  ·exact .inr ⟨_,a9,b9,rfl⟩
 have I:∃a,(a=b_ "any"\/a=b_ "near")/\t=.str a:=by
  simp only[t_,K_,or_false]at g;rcases g with rfl|rfl;·exact⟨_,.inl rfl,rfl⟩
  ·exact⟨_,.inr rfl,rfl⟩
 obtain⟨f,A,rfl⟩:=g0;obtain⟨w,hw,rfl⟩:=g1;obtain⟨a,hR,rfl⟩:=I;refine⟨f,w,o,m,k,j,c'==0,a,⟨A,hw,g2,g4,g6,g8,hR⟩,?_⟩;have eB:gh=(aA (bI 3 (Q Î (fj (aK (Ñ "n") (vm (Ñ "safe-a") (Ñ "own-b") (Ñ "N_2") (Ñ "m-1") (Ñ "safe-") (Ñ "n")))) (ae ag 3 (bT (X 0) (X 1) (R 7))))) (aA (bI 4 (Q Î (fj (jf (Ñ "5") (Ñ "") (Ñ "a!b~") (Ñ "x/y?z") (Ñ "123456789012"))) (ae ag 3 (bT (X 0) (Q cR (X 1) (R 1)) (R 5))))) (xH 5 (jf (fC .non) (fC .non) (X 2) Cr (ae bj 2 (bA (X 0) (Q cR (X 1) (R 3))))) (fw (Bh Ct) (fw (fY 6 (Q Î (fj (bT (fC .non) (Ñ "/") (ae cz 2 (bA (X 0) (Q cR (X 1) (R 5)))))) (ae ag 3 (bT (X 0) (Q cR (X 1) (R 4)) (R 3))))) (fw (fY 7 (Q Î (fj (bT (fC .non) (fC .non) (ae ag 3 (bT (X 0) (Q cR (X 1) (R 7)) (R 60))))) (ae ag 3 (bT (X 0) (Q cR (X 1) (R 6)) (R 3))))) (fw (fY 8 (Q Î (fj (bT (fC .non) (fC .non) (ae ag 3 (bT (X 0) (Q cR (X 1) (R 9)) (R 30))))) (ae ag 3 (bT (X 0) (Q cR (X 1) (R 8)) (R 3))))) (fw (fY 9 (Q Î (fj (bA (Ñ "any") (Ñ "near"))) (ae ag 3 (bT (X 0) (Q cR (X 1) (R 11)) (R 2))))) (fw (fY 10 (Q Þ (ae ag 3 (bT (X 0) (Q cR (X 1) (R 10)) (R 2))) (R 0))) (xF 5 (fW (aK (X 3) (aK (X 4) (vm (Q Î (X 5) (ae ag 3 (bT (X 0) (Q cR (X 1) (R 2)) (R 6)))) (X 6) (X 7) (X 8) (X 10) (X 9))))))))))))))):=rfl;unfold eV bt;rw[eB];simp[aA,sq,bI,cu,Ù,ae,aK,cM,X,fC,Q,fW,fj,xH,fw,Bh,fY,xF,vv,cR,e0,e1,e2,e3,e4,e5,e6,e7,e8,e9,b',a',i0,i1,i2,i4,i6,i8,v,eL,eT,Þ,ĩ]
theorem pq(h:b=b_ "any"\/b=b_ "near"):eD [.str b]=bo U/\∃r,Þ (.str b) (.str "near")=bo (!r):=by
 rcases h with rfl|rfl;·exact⟨by lk,U,by lk⟩
 ·exact⟨by lk,L,by lk⟩
variable{ι Γ:N}
theorem Gv.mu(g:Gv b i j δ ι Γ A θ):Mo ι:=by
 rcases g.u with h|⟨a,e,f,d⟩;·exact .inl h
 ·exact .inr ⟨a,e,by omega,d⟩
theorem Gv.ml(g:Gv b i j δ ι Γ A θ):Mo Γ:=by
 rcases g.l with h|⟨a,e,f,d⟩;·exact .inl h
 ·exact .inr ⟨a,e,by omega,d⟩
theorem tQ{b:ã}(a:Μ H=Z (.ok A))(d:b H=Z (.ok Χ)):lN Μ b H=Z (.ok (A&&Χ)):=by
 cases A;·exact xr a
 ·rw[xq a,d];rfl
theorem vY(a:Μ H=Z (.ok A)):aA (ba Μ (aH (fC j)) (λH=>Z (.nx H))) Ο H=if A=U then Z (.rt j)else Ο H:=by
 cases A;·rw[ar (cw a)];rfl
 ·exact lQ (by rw[Ca a];rfl)
theorem GI(e:q.map Z++L_ (d-q.length) Y=H)(h:Ο H=Z (.rt j)):dL d Ο q=Z (.ok j):=by unfold dL;rw[e,h]
theorem zx(F:Ï){f:Ò}{b:Ev}{a d:N}(h:f b=Z (.ok a))(e:F [a]=Z (.ok d)):av F 1 (ax f) b=Z (.ok d):=by unfold av;show Ù (aK f cM b) _=_;rw[ac h aj];exact e
theorem GJ(e:q.map Z++L_ (d-q.length) Y=H)(h:Ο H=Z (.rt j)):bt d Ο q=Z (.ok j):=by unfold bt;rw[e,h]
theorem Lu(h:y H=Z (.ok j)):aH y H=Z (.rt j):=by unfold aH;rw[h];rfl
theorem Cy(x:Str){k:Bool}(p:aP [.str x]=bo k)(g:Gv b i j δ ι Γ A θ):gS [Ā x i j δ ι Γ A θ]=bo k:=by
 have q:bN [Ā x i j δ ι Γ A θ,.int 8]=bo U:=by lk
 have o:=Pk g.w;have m:=zu g.mu;have h:=zu g.ml;have f:=(pq g.r).1;have e:Ġ (Q Ą (Q Î (X 0) (R 2)) (fC .non)) (ae bW 1 (ax (Q Î (X 0) (R 2)))) [Z (Ā x i j δ ι Γ A θ)]=bo U:=by
  rcases g.hh with rfl|⟨n,a,rfl⟩;·exact JD rfl
  ·exact(JC rfl).trans (gH bW rfl (HH a))
 have d:Ġ (Q Ą (Q Î (X 0) (R 3)) (fC .non)) (ae cA 1 (ax (Q Î (X 0) (R 3)))) [Z (Ā x i j δ ι Γ A θ)]=bo U:=by
  rcases g.pp with rfl|⟨n,a,rfl⟩;·exact JD rfl
  ·exact(JC rfl).trans (gH cA rfl (MF a))
 refine GJ (H:=[Z (Ā x i j δ ι Γ A θ)]) rfl ?_;unfold ji;refine(vY (A:=L) (kz (bx (dw bN (b:=.int 8) rfl rfl q)))).trans ?_;refine Lu ((dr (ac (ox (ac (gH aP rfl p) (ac (gH bS rfl o) (ac e (ac d (ac (gH aC rfl m) (ac (gH aC rfl h) (ac (j:=.bl U) rfl (ac (gH eD rfl f) aj)))))))) (by show 8<=100000;decide)) aj)).trans ?_);cases k<;>rfl
theorem zy(g:Gv b i j δ ι Γ A θ):gS [Ā b i j δ ι Γ A θ]=bo U:=Cy b (Pj g.nm) g
noncomputable def ŗ(f b a d e:Bool):N:=if f then .str "foreign"else if b then .str "open"else if a then .str "unsafe"else if d then .str "marked"else if e then .str "far"else .non
variable{À:N}
theorem ŀ{h p:Str}(y:q∈jo å)(a:Ak h p À)(g:Gv b i j δ ι Γ A θ){f e o m r:Bool}{s:Bool}(H:bz [.tup q,á s h p À,Ā b i j δ ι Γ A θ]=bo o)(E:al [.tup q,á s h p À]=bo m)(z:Þ (.str θ) (.str "near")=bo (!r))(t:(j=.non/\f=L/\e=L)\/∃n d k,j=.str n/\aI [.str h,.str n]=bo (!f)/\Ě (.str n) (.str h)=bo d/\fI [.tup q,.str n]=bo k/\e=(d&&k)):bE [.tup q,á s h p À,Ā b i j δ ι Γ A θ]=Z (.ok (ŗ f e (A&&!s) (!o) (!r&&!m))):=by
 have e1:=Cp (dv y);have I:=Pm (zy g);have P:=Lp (zv (A:=s) a);refine GI (H:=[Z (.tup q),Z (á s h p À),Z (Ā b i j δ ι Γ A θ),Y]) rfl ?_;unfold eN;rw[ar (jZ (zx aL (a:=.tup q) rfl e1)),ar (jZ (zx bg (a:=á s h p À) rfl P)),ar (jZ (zx dc (a:=Ā b i j δ ι Γ A θ) rfl I)),ar (aV (j:=j) (a:=[Z (.tup q),Z (á s h p À),Z (Ā b i j δ ι Γ A θ),Z j]) rfl rfl)];refine(vY (A:=f) ?_).trans ?_
 · rcases t with⟨rfl,rfl,rfl⟩|⟨n,d,k,rfl,w,v,u,rfl⟩;·exact xr (bx rfl)
   ·rw[xq (bx rfl)];exact(kz (bx (dw aI rfl rfl w))).trans (by rw[WZ])
 unfold ŗ;cases f;rotate_left;·rfl
 refine(vY (A:=e) ?_).trans ?_
 · rcases t with⟨rfl,_,rfl⟩|⟨n,d,k,rfl,w,v,u,rfl⟩;·exact xr (bx rfl)
   ·rw[xq (bx rfl)];exact tQ (bx ((bV rfl rfl).trans v)) (bx (dw fI rfl rfl u))
 cases e;rotate_left;·rfl
 refine(vY (A:=A&&!s) (tQ (bx rfl) (kz (bx rfl)))).trans ?_;cases A&&!s;rotate_left;·rfl
 refine(vY (kz (bx (rp bz rfl rfl rfl H)))).trans ?_;cases !o;rotate_left;·rfl
 refine(vY (tQ (bx ((bV rfl rfl).trans z)) (kz (bx (dw al rfl rfl E))))).trans ?_;cases !r&&!m<;>rfl
noncomputable def mark(b a S e d:Bool):Bool:=(b&&!S)||(a&&!(S&&(e&&d)))
theorem zz{h p:Str}{e:Bool}{s:Bool}(f:b∈ħ)(m:Þ δ (.str "/")=bo Χ)(k:db [.tup q,á s h p À,Ā b i j δ ι Γ A θ]=bo e):bz [.tup q,á s h p À,Ā b i j δ ι Γ A θ]=bo (!mark (Q6 b (b_ "safe-")) (Q6 b (b_ "own-")) A e Χ):=by have g:=Qn f;cases d:Q6 b (b_ "safe-")with
 |true=>
 rw[d]at g;have a:Q6 b (b_ "own-")=L:=by simpa using g
 rw[a];cases A<;>simp[bz,bt,ce,aA,sq,ba,aH,bI,cu,Ù,fB,ð,aK,cM,X,fC,Q,Î,ö,fM,pY,d,mark]|false=>cases a:Q6 b (b_ "own-")with|true=>cases A<;>cases e<;>cases Χ<;>simp[bz,bt,ce,aA,sq,ba,aH,bI,cu,Ù,fB,ð,ae,aK,cM,X,fC,Q,Î,ö,iD,fM,pY,d,a,k,m,mark]|false=>simp[bz,bt,ce,aA,sq,ba,aH,bI,cu,Ù,fB,ð,aK,cM,X,fC,Q,Î,ö,fM,pY,d,a,mark]
structure Wt(t:List N)(h p:Str)(O:N)(nm w:Str)(H P u l:N)(S:Bool)(R:Str)(s:Bool)(house path:Str)(ex:Bool)(wd:N):Prop where
 hs:house∈En
 ph:path∈ì
 win:wd=.non\/∃x∈["foreign","open","unsafe","marked","far"],wd=.str (b_ x)why:bE [.tup t,á s h p O,Ā nm w H P u l S R]=Z (.ok wd)hf:fH [á s h p O,Ā nm w H P u l S R]=Z (.ok (.str house))hl:(H=.non/\house=h)\/H=.str house
 ix:db [.tup t,á s h p O,Ā nm w H P u l S R]=bo ex
 pf:eH [á s h p O,Ā nm w H P u l S R]=Z (.ok (.str path))un:wd=.non->s=L->S=L
theorem zC(f b a d e:Bool):ŗ f b a d e=.non\/∃x∈["foreign","open","unsafe","marked","far"],ŗ f b a d e=.str (b_ x):=by cases f<;>cases b<;>cases a<;>cases d<;>cases e<;>first|exact .inl rfl|exact .inr ⟨"foreign",by simp,rfl⟩|exact .inr ⟨"open",by simp,rfl⟩|exact .inr ⟨"unsafe",by simp,rfl⟩|exact .inr ⟨"marked",by simp,rfl⟩|exact .inr ⟨"far",by simp,rfl⟩
theorem zD{a d S s:Bool}(h:ŗ A Χ (S&&!s) a d=.non)(b:s=L):S=L:=by
 subst b;cases S;·rfl
 ·cases A<;>cases Χ<;>cases h
theorem GK{h p:Str}(E:q∈jo å)(a:Ak h p À)(g:Gv b i j δ ι Γ A θ)(s:Bool):∃t e ex wd,Wt q h p À b i j δ ι Γ A θ s t e ex wd:=by
 obtain⟨nr,hN⟩:=Lq E a;obtain⟨_,r,r2⟩:=pq g.r;have H:∃pe,Þ δ (.str "/")=bo pe:=by
  rcases g.pp with rfl|⟨d,_,rfl⟩;·exact⟨L,rfl⟩
  ·exact⟨_,rfl⟩
 obtain⟨pe,H⟩:=H;have k:∃e∈ì,eH [á s h p À,Ā b i j δ ι Γ A θ]=Z (.ok (.str e)):=by
  rcases g.pp with rfl|⟨d,hq,rfl⟩;·obtain⟨f,hf,k2⟩:=Qo a.p;exact⟨f,hf,by simp[eH,dL,fK,aA,sq,ba,aH,cu,Ù,fB,ð,av,aK,cM,X,fC,Q,Î,ö,Ą,k2]⟩
  ·exact⟨d,hq,by simp[eH,dL,fK,aA,sq,ba,aH,cu,Ù,fB,ð,X,fC,Q,Î,ö,Ą]⟩
 obtain⟨e,w,y⟩:=k;rcases g.hh with rfl|⟨n,I,rfl⟩
 · have v:db [.tup q,á s h p À,Ā b i .non δ ι Γ A θ]=bo U:=by simp[db,bt,gR,aA,sq,ba,aH,bI,cu,Ù,fB,ð,X,fC,Q,Î,ö,Ą]
   have u:=ŀ (f:=L) (e:=L) E a g (zz g.nm H v) (hN s) r2 (.inl ⟨rfl,rfl,rfl⟩);rw[WZ]at u;exact⟨h,e,U,_,a.h,w,zC _ _ _ _ _,u,by simp[fH,bt,fG,aA,sq,ba,aH,cu,Ù,fB,ð,X,fC,Q,Î,ö,Ą],.inl ⟨rfl,rfl⟩,v,y,zD⟩
 · obtain⟨m,o,hm,_,_⟩:=vX E I;obtain⟨wi,P⟩:=Pl (a.h) I;have z:fI [.tup q,.str n]=bo (seq m n):=by simp[fI,bt,ke,aH,cu,Ù,ae,aK,cM,X,Q,hm,Þ,ĩ]
   have v:db [.tup q,á s h p À,Ā b i (.str n) δ ι Γ A θ]=bo (seq n h&&seq m n):=by simp[db,bt,gR,aA,sq,ba,aH,bI,cu,Ù,fB,ð,ae,aK,cM,X,fC,Q,Î,ö,iD,Ą,z,Þ,ĩ];cases seq n h<;>simp[aA]
   have u:=ŀ (f:=!wi) (e:=!seq n h&&seq m n) E a g (zz g.nm H v) (hN s) r2 (.inr ⟨n,!seq n h,seq m n,rfl,by rw[P,WZ],by simp[Ě,ĩ],z,rfl⟩);rw[WZ]at u;exact⟨n,e,_,_,I,w,zC _ _ _ _ _,u,by simp[fH,bt,fG,aA,sq,ba,aH,cu,Ù,fB,ð,X,fC,Q,Î,ö,Ą],.inr rfl,v,y,zD⟩
theorem ip(a b:Str):(a++b).length=a.length+b.length:=Wd
theorem pv(a b c:Str):a++b++c=a++(b++c):=by show Str.mk (a.cps++b.cps++c.cps)=Str.mk (a.cps++(b.cps++c.cps));rw[V7]
theorem Lv(a:Str):a++b_ ""=a:=by show Str.mk (a.cps++#[])=a;rw[Array.append_empty]
noncomputable def step(t:Str)(o:Option Str):Str:=match o with|none=>t|some y=>t++b_ "; "++y
theorem ko(t:Str)(o:Option Str)(B:Nat)(h:∀y,o=Z y->y.length<=B):(step t o).length<=t.length+2+B:=by cases o with|none=>show t.length<=_;omega|some y=>
 have:=h y rfl;show(t++b_ "; "++y).length<=_;rw[ip,ip];have e:(b_ "; ").length=2:=by decide
 omega
theorem mD(a:Str):∀(l:List Str)(x:Str),Uh a (x::l)=l.foldl (λt y=>t++a++y) x|[],x=>rfl|y::l,x=>mD a l (x++a++y)
theorem jp(t:Str)(o:Option Str)(l:List Str):(o.toList++l).foldl (λt y=>t++b_ "; "++y) t=l.foldl (λt y=>t++b_ "; "++y) (step t o):=by cases o<;>rfl
noncomputable def eS:Option Str->N|none=>.non|some x=>.str x
noncomputable def eO:Option Int->N|none=>.non|some x=>.int x
noncomputable def is(i:Int):Str:=b_ (toString i)
theorem DO(b:0<=k)(a:k<=9999):(is k).length<=10001:=by have:=PyProof.Rows.len_str_of_int k;unfold is;omega
theorem Oq(b:0<=k)(a:k<=9999):NG [.int k]=Z (.ok (.str (is k))):=by
 show(if k.natAbs.log2<1920 then _ else Y)=_;rw[if_pos];·rfl
 · have e:k.natAbs<2^1920:=QJ (show k.natAbs<2^14 by omega) (Nat.pow_le_pow_right (by decide) (by decide));by_cases z:k.natAbs=0;·rw[z];decide
   ·exact(Nat.log2_lt z).mpr e
structure Vv(nm w:Str)(h p:Option Str)(u l:Option Int)(R:Str):Prop where nm:nm.length<=50w:w.length<=50h:∀x,h=Z x->x.length<=50p:∀x,p=Z x->x.length<=50u:∀i,u=Z i->0<=i/\i<=9999l:∀i,l=Z i->0<=i/\i<=9999
abbrev gv(a w:Str)(h p:Option Str)(u l:Option Int)(S:Bool)(R:Str):N:=.tup [.str a,.str w,eS h,eS p,eO u,eO l,.bl S,.str R]
noncomputable def oS(a:String)(h:Option Str):Option Str:=h.map λx=>b_ a++x
def oI(a:String)(h:Option Int):Option Str:=h.map λx=>b_ a++is x
noncomputable def oB(x:String)(b:Bool):Option Str:=if b then Z (b_ x)else Y
noncomputable def ă(a w:Str):Str:=a++b_ "="++w
def kW(R:Str):Bool:=seq R (b_ "near")
def T(a w:Str)(h p:Option Str)(u l:Option Int)(S:Bool)(R:Str):Str:=step (step (step (step (step (step (ă a w) (oS "for " h)) (oS "under " p)) (oI "until " u)) (oI "lasts " l)) (oB "safe" S)) (oB "near" (kW R))
theorem Os(h:b.length+i.length<=100000):cR (.str b) (.str i)=Z (.ok (.str (b++i))):=by show(if b.length+i.length<=100000 then _ else Y)=_;rw[if_pos h]
theorem k8(h:b.length+i.length<=100000):cK (.str b) (.str i)=Z (.ok (.str (b++i))):=Os h
theorem nQ(o:Option Str):o.toList.length<=1:=by cases o<;>simp
variable{Υ:Option Str}
theorem Po{a:String}(e:(b_ a).length<=10)(d:∀x,Υ=Z x->x.length<=50):∀y,oS a Υ=Z y->y.length<=60:=by intro y b;cases Υ with|none=>cases b|some x=>cases b;rw[ip];have:=d x rfl;omega
theorem Pp{a:String}(e:(b_ a).length<=10)(d:∀x,Η=Z x->0<=x/\x<=9999):∀y,oI a Η=Z y->y.length<=10020:=by intro y b;cases Η with|none=>cases b|some x=>cases b;rw[ip];have:=DO (d x rfl).1 (d x rfl).2;omega
theorem Qq{x:String}(b:(b_ x).length<=10):∀y,oB x A=Z y->y.length<=60:=by intro y a;cases A with|false=>cases a|true=>cases a;omega
theorem GL(h:y H=Z (.ok j)):aH y H=Z (.rt j):=by unfold aH;rw[h];rfl
def EL(d w:Str)(h p:Option Str)(u l:Option Int)(S:Bool)(R:Str)(t:Str)(a b:Option N):Ev:=[Z (gv d w h p u l S R),Z (.str d),Z (.str w),Z (eS h),Z (eS p),Z (eO u),Z (eO l),Z (.bl S),Z (.str R),Z (.str t),a,b]
theorem rq{p:Option Str}{t e:Str}{a d:Option N}:jv (gP 10 11) [11,10] aN (.tup [.str e,.non]::q) (EL b i Υ p Η Ρ A θ t a d)=jv (gP 10 11) [11,10] aN q (EL b i Υ p Η Ρ A θ t (Z (.str e)) (Z .non)):=rfl
theorem nR{p:Option Str}{t e y:Str}{a d:Option N}(h:lP j .non=bo U)(g:HB [j]=Z (.ok (.str y)))(m:t.length+2+e.length+1+y.length<=100000):jv (gP 10 11) [11,10] aN (.tup [.str e,j]::q) (EL b i Υ p Η Ρ A θ t a d)=jv (gP 10 11) [11,10] aN q (EL b i Υ p Η Ρ A θ (t++b_ "; "++e++b_ " "++y) (Z (.str e)) (Z j)):=by
 have n:(b_ "; ").length=2:=by decide
 have r:(b_ " ").length=1:=by decide
 have k:aN (EL b i Υ p Η Ρ A θ t (Z (.str e)) (Z j))=Z (.nx (EL b i Υ p Η Ρ A θ (t++b_ "; "++e++b_ " "++y) (Z (.str e)) (Z j))):=by
  have c:fB (Q lP (X 11) (fC .non)) (EL b i Υ p Η Ρ A θ t (Z (.str e)) (Z j))=Z (.ok U):=bx h;have z:Q cK (Q cK (Q cK (Q cK (X 9) (Ñ "; ")) (X 10)) (Ñ " ")) (ß HB (ax (X 11))) (EL b i Υ p Η Ρ A θ t (Z (.str e)) (Z j))=Z (.ok (.str (t++b_ "; "++e++b_ " "++y))):=by refine(bV ((bV ((bV ((bV (j:=.str t) (δ:=.str "; ") rfl rfl).trans (k8 (by omega))) (δ:=.str e) rfl).trans (k8 (by rw[ip];omega))) (δ:=.str " ") rfl).trans (k8 (by rw[ip,ip];omega))) ((dr (ac (j:=j) rfl aj)).trans g)).trans ?_;exact k8 (by rw[ip,ip,ip];omega)
  unfold aN ba;rw[c];exact aV z rfl
 show(match aN (EL b i Υ p Η Ρ A θ t (Z (.str e)) (Z j))with|some (.nx f)=>jv (gP 10 11) [11,10] aN q f|o=>o)=_;rw[k]
theorem DP(t b a y:Str)(d:b++b_ " "=a):t++b_ "; "++b++b_ " "++y=t++b_ "; "++(a++y):=by rw[pv (t++b_ "; ") b,d,pv (t++b_ "; ") a]
theorem Lw{p:Option Str}{t f e:Str}{o:Option Str}{a d:Option N}(g:f++b_ " "=e)(h:∀x,o=Z x->x.length<=50)(n:t.length<=80000)(m:f.length<=10):∃k j,jv (gP 10 11) [11,10] aN (.tup [.str f,eS o]::q) (EL b i Υ p Η Ρ A θ t a d)=jv (gP 10 11) [11,10] aN q (EL b i Υ p Η Ρ A θ (step t (o.map λx=>e++x)) k j):=by cases o with|none=>exact⟨_,_,rq⟩|some x=>have:=h x rfl;refine⟨Z (.str f),Z (.str x),(nR (j:=.str x) (y:=x) rfl rfl (by omega)).trans ?_⟩;rw[DP t f e x g];rfl
theorem Lx{p:Option Str}{t g f:Str}{o:Option Int}{a d:Option N}(j:g++b_ " "=f)(h:∀x,o=Z x->0<=x/\x<=9999)(r:t.length<=80000)(n:g.length<=10):∃m k,jv (gP 10 11) [11,10] aN (.tup [.str g,eO o]::q) (EL b i Υ p Η Ρ A θ t a d)=jv (gP 10 11) [11,10] aN q (EL b i Υ p Η Ρ A θ (step t (o.map λx=>f++is x)) m k):=by cases o with|none=>exact⟨_,_,rq⟩|some x=>have:=h x rfl;have:=DO this.1 this.2;have e:HB [.int x]=Z (.ok (.str (is x))):=Oq (h x rfl).1 (h x rfl).2;refine⟨Z (.str g),Z (.int x),(nR (j:=.int x) (y:=is x) rfl e (by omega)).trans ?_⟩;rw[DP t g f (is x) j];rfl
theorem GM{p:Option Str}(v:Vv b i Υ p Η Ρ θ):il [gv b i Υ p Η Ρ A θ]=Z (.ok (.str (T b i Υ p Η Ρ A θ))):=by
 have l1:=v.nm;have l2:=v.w;have lq:(b_ "=").length=1:=by decide
 have b0:(ă b i).length<=200:=by unfold ă;rw[ip,ip];omega
 have b1:=ko (ă b i) (oS "for " Υ) 60 (Po (by decide) v.h);have b2:=ko (step (ă b i) (oS "for " Υ)) (oS "under " p) 60 (Po (by decide) v.p);have b3:=ko (step (step (ă b i) (oS "for " Υ)) (oS "under " p)) (oI "until " Η) 10020 (Pp (by decide) v.u);have b4:=ko (step (step (step (ă b i) (oS "for " Υ)) (oS "under " p)) (oI "until " Η)) (oI "lasts " Ρ) 10020 (Pp (by decide) v.l);obtain⟨P,E,w⟩:=Lw (b:=b) (i:=i) (Υ:=Υ) (p:=p) (Η:=Η) (Ρ:=Ρ) (A:=A) (θ:=θ) (t:=ă b i) (f:=b_ "for") (e:=b_ "for ") (o:=Υ) (a:=Y) (d:=Y) (q:=[.tup [.str "under",eS p],.tup [.str "until",eO Η],.tup [.str "lasts",eO Ρ]]) (by lk) v.h (by omega) (by decide);obtain⟨I,z,u⟩:=Lw (b:=b) (i:=i) (Υ:=Υ) (p:=p) (Η:=Η) (Ρ:=Ρ) (A:=A) (θ:=θ) (t:=step (ă b i) (oS "for " Υ)) (f:=b_ "under") (e:=b_ "under ") (o:=p) (a:=P) (d:=E) (q:=[.tup [.str "until",eO Η],.tup [.str "lasts",eO Ρ]]) (by lk) v.p (by omega) (by decide);obtain⟨H,y,r⟩:=Lx (b:=b) (i:=i) (Υ:=Υ) (p:=p) (Η:=Η) (Ρ:=Ρ) (A:=A) (θ:=θ) (t:=step (step (ă b i) (oS "for " Υ)) (oS "under " p)) (g:=b_ "until") (f:=b_ "until ") (o:=Η) (a:=I) (d:=z) (q:=[.tup [.str "lasts",eO Ρ]]) (by lk) v.u (by omega) (by decide);obtain⟨a4,c4,q⟩:=Lx (b:=b) (i:=i) (Υ:=Υ) (p:=p) (Η:=Η) (Ρ:=Ρ) (A:=A) (θ:=θ) (t:=step (step (step (ă b i) (oS "for " Υ)) (oS "under " p)) (oI "until " Η)) (g:=b_ "lasts") (f:=b_ "lasts ") (o:=Ρ) (a:=H) (d:=y) (q:=[]) (by lk) v.l (by omega) (by decide);let a:Str:=step (step (step (step (ă b i) (oS "for " Υ)) (oS "under " p)) (oI "until " Η)) (oI "lasts " Ρ);have a':a.length<=90000:=by show(step (step (step (step (ă b i) (oS "for " Υ)) (oS "under " p)) (oI "until " Η)) (oI "lasts " Ρ)).length<=_;omega
 have d:jv (gP 10 11) [11,10] aN [.tup [.str "for",eS Υ],.tup [.str "under",eS p],.tup [.str "until",eO Η],.tup [.str "lasts",eO Ρ]] (EL b i Υ p Η Ρ A θ (ă b i) Y Y)=Z (.nx (EL b i Υ p Η Ρ A θ a Y Y)):=w.trans (u.trans (r.trans (q.trans rfl)));have e:(λg=>Ù ((bA (fW (iE (Ñ "for") (Ñ "under") (Ñ "until") (Ñ "lasts"))) (ju (X 0) (dk (R 2)) (dk (R 6)))) g) Hz) (EL b i Υ p Η Ρ A θ (ă b i) Y Y)=Z (.ok [.tup [.str "for",eS Υ],.tup [.str "under",eS p],.tup [.str "until",eO Η],.tup [.str "lasts",eO Ρ]]):=by lk
 have m:Q cK (Q cK (X 1) (Ñ "=")) (X 2) [Z (gv b i Υ p Η Ρ A θ),Z (.str b),Z (.str i),Z (eS Υ),Z (eS p),Z (eO Η),Z (eO Ρ),Z (.bl A),Z (.str θ),Y,Y,Y]=Z (.ok (.str (ă b i))):=(bV ((bV (j:=.str b) (δ:=.str "=") rfl rfl).trans (k8 (by omega))) (δ:=.str i) rfl).trans (k8 (by rw[ip];omega));have f1:ĺ (fB (X 7)) (Ñ "; safe") (Ñ "") (EL b i Υ p Η Ρ A θ a Y Y)=Z (.ok (.str (if A then b_ "; safe"else b_ ""))):=by cases A<;>rfl
 have o:a++(if A then b_ "; safe"else b_ "")=step a (oB "safe" A):=by
  cases A;·exact Lv a
  ·show a++b_ "; safe"=a++b_ "; "++b_ "safe";rw[pv];rfl
 have b5:=ko a (oB "safe" A) 60 (Qq (by decide));have k:Q cK (X 9) (ĺ (fB (X 7)) (Ñ "; safe") (Ñ "")) (EL b i Υ p Η Ρ A θ a Y Y)=Z (.ok (.str (step a (oB "safe" A)))):=by
  rw[<-o];refine(bV (j:=.str a) rfl f1).trans (k8 ?_);have:(if A then b_ "; safe"else b_ "").length<=10:=by cases A<;>decide
  omega
 have h:ĺ (fB (Q Þ (X 8) (Ñ "near"))) (Ñ "; near") (Ñ "") (EL b i Υ p Η Ρ A θ a Y Y)=Z (.ok (.str (if kW θ then b_ "; near"else b_ ""))):=by have c:fB (Q Þ (X 8) (Ñ "near")) (EL b i Υ p Η Ρ A θ a Y Y)=Z (.ok (kW θ)):=rfl;unfold ĺ;rw[c];cases kW θ<;>rfl
 have n:∀t:Str,t++(if kW θ then b_ "; near"else b_ "")=step t (oB "near" (kW θ)):=by
  intro t;cases kW θ;·exact Lv t
  ·show t++b_ "; near"=t++b_ "; "++b_ "near";rw[pv];rfl
 have j:(Q cK (Q cK (X 9) (ĺ (fB (X 7)) (Ñ "; safe") (Ñ ""))) (ĺ (fB (Q Þ (X 8) (Ñ "near"))) (Ñ "; near") (Ñ ""))) (EL b i Υ p Η Ρ A θ a Y Y)=Z (.ok (.str (T b i Υ p Η Ρ A θ))):=by
  refine(bV k h).trans ((k8 ?_).trans ?_)
  · have:(if kW θ then b_ "; near"else b_ "").length<=10:=by cases kW θ<;>decide
    omega
  ·rw[n];rfl
 refine eR ?_;show fV [Z (gv b i Υ p Η Ρ A θ),Y,Y,Y,Y,Y,Y,Y,Y,Y,Y,Y]=_;unfold fV;rw[ar (show JA [1,2,3,4] (ju (X 0) fA (dk (R 4))) [Z (gv b i Υ p Η Ρ A θ),Y,Y,Y,Y,Y,Y,Y,Y,Y,Y,Y]=Z (.nx [Z (gv b i Υ p Η Ρ A θ),Z (.str b),Z (.str i),Z (eS Υ),Z (eS p),Y,Y,Y,Y,Y,Y,Y])by lk)];rw[ar (show JA [5,6,7,8] (ju (X 0) (dk (R 4)) fA) [Z (gv b i Υ p Η Ρ A θ),Z (.str b),Z (.str i),Z (eS Υ),Z (eS p),Y,Y,Y,Y,Y,Y,Y]=Z (.nx [Z (gv b i Υ p Η Ρ A θ),Z (.str b),Z (.str i),Z (eS Υ),Z (eS p),Z (eO Η),Z (eO Ρ),Z (.bl A),Z (.str θ),Y,Y,Y])by lk)];rw[ar (aV (a:=EL b i Υ p Η Ρ A θ (ă b i) Y Y) m rfl)];have f:vx (gP 10 11) [11,10] (λg=>Ù ((bA (fW (iE (Ñ "for") (Ñ "under") (Ñ "until") (Ñ "lasts"))) (ju (X 0) (dk (R 2)) (dk (R 6)))) g) Hz) aN (EL b i Υ p Η Ρ A θ (ă b i) Y Y)=Z (.nx (EL b i Υ p Η Ρ A θ a Y Y)):=by unfold vx;rw[e];exact d
 rw[ar f];exact GL j
def rA(p:Str):Option (Nat×N):=match aX [.str p]with|some (.ok (.tup [.int k,d]))=>Z (k.toNat,d)|_=>Y
noncomputable def eT:Option (Nat×N)->N|none=>.non|some (k,d)=>.tup [.int k,d]
def Ř(p:Str):Bool:=match aX [.str p]with|some (.ok .non)=>U|some (.ok (.tup [.int k,_]))=>A_ (2<=k)&&A_ (k<8)|_=>L
theorem GN(h:Ř b=U):aX [.str b]=Z (.ok (eT (rA b)))/\∀k d,rA b=Z (k,d)->2<=k/\k<8:=by
 unfold Ř at h;unfold rA;split at h;·rename_i e;rw[e];exact⟨rfl,λk d z=>by cases z⟩
 · rename_i k d e;rw[e];rw[p_,decide_eq_true_eq,decide_eq_true_eq]at h;refine⟨?_,λa f z=>?_⟩;·show _=Z (Rs.ok (N.tup [.int (k.toNat:Int),d]));rw[Int.toNat_of_nonneg (by omega)]
   ·cases z;omega
 ·cases h
noncomputable def Ś:Str:=b_ " "
noncomputable def ş:Str:=b_ "  "
def gV(b p a:Str):Bool:=seq (Sy (b++p++a) Ś) p&&!((b++p++a).cps.toList.contains 59)
noncomputable def đ:Str:=b_ ""
def Zu(p:Str):Bool:=gV đ p đ&&(gV Ś p đ&&(gV ş p ş&&(gV đ p ş&&(gV ş p đ&&A_ (p.length<=200)))))
def Pq(p:Str):Bool:=Ř p&&Zu p
noncomputable def Qr:List Str:=[b_ "x=y",b_ "until",b_ "for A",b_ "under b",b_ "lasts 99999",b_ "SAFE",b_ "",b_ "safe near",b_ "until  7"]
noncomputable def Ly:List Str:=[b_ "until 17",b_ "under /q",b_ "lasts 4",b_ "for q.r"]
noncomputable def rB(n:Nat):List Int:=(rl n).map λi:Nat=>(i:Int)
def Ŕ:List Str:=En.map (λh=>b_ "for "++h)++(ì.map (λh=>b_ "under "++h)++((rB 60).map (λi=>b_ "until "++is i)++((rB 30).map (λi=>b_ "lasts "++is i)++([b_ "safe",b_ "near"]++(Qr++Ly)))))
theorem GO:Ŕ.all Pq=U:=by lk
theorem Lz:(En.all λh=>match aX [.str (b_ "for "++h)]with|some (.ok (.tup [.int 2,.str z]))=>seq z h|_=>L)=U:=by lk
theorem LA:(ì.all λh=>match aX [.str (b_ "under "++h)]with|some (.ok (.tup [.int 3,.str z]))=>seq z h|_=>L)=U:=by lk
theorem LB:((rB 60).all λi=>match aX [.str (b_ "until "++is i)]with|some (.ok (.tup [.int 4,.int z]))=>z==i|_=>L)=U:=by lk
theorem LC:((rB 30).all λi=>match aX [.str (b_ "lasts "++is i)]with|some (.ok (.tup [.int 5,.int z]))=>z==i|_=>L)=U:=by lk
theorem Ot(q:b∈En):rA (b_ "for "++b)=Z (2,.str b):=by
 have z:=aS Lz q;unfold rA;split at z;·rename_i y e;rw[e];rw[gk z];rfl
 ·cases z
theorem Ou(q:b∈ì):rA (b_ "under "++b)=Z (3,.str b):=by
 have z:=aS LA q;unfold rA;split at z;·rename_i y e;rw[e];rw[gk z];rfl
 ·cases z
theorem Ov(q:k∈rB 60):rA (b_ "until "++is k)=Z (4,.int k):=by
 have z:=aS LB q;unfold rA;split at z;·rename_i y e;rw[e];rw[show y=k by simpa using z];rfl
 ·cases z
theorem Ow(q:k∈rB 30):rA (b_ "lasts "++is k)=Z (5,.int k):=by
 have z:=aS LC q;unfold rA;split at z;·rename_i y e;rw[e];rw[show y=k by simpa using z];rfl
 ·cases z
theorem LD:rA (b_ "safe")=Z (6,.bl U):=by lk
theorem LF:rA (b_ "near")=Z (7,.str "near"):=by lk
def put(a:List N)(p:Str):List N:=match rA p with|none=>a|some (k,d)=>a.set k d
theorem GP(a:List N)(p:Str):(put a p).length=a.length:=by unfold put;split<;>simp
theorem rD:∀l:List Str,æ (l.map N.str)=U|[]=>rfl|x::l=>by show(ĝ (.str x)&&æ (l.map N.str))=U;rw[rD l];rfl
def ER(x:Str)(d e:N)(a b:Option N):Ev:=[Z (.str x),Z d,Z e,Y,a,b]
theorem GQ{a:Option N}(h:Ř i=U)(t:q.length=8):∃r,bD (ER b j δ (Z (.str i)) a) q=Z (.nx (ER b j δ (Z (.str i)) r) (put q i)):=by
 obtain⟨e,n⟩:=GN h;refine⟨Z (eT (rA i)),?_⟩;have p:fY 5 (ae aX 1 (ax (X 4))) (ER b j δ (Z (.str i)) a) q=Z (.nx (ER b j δ (Z (.str i)) (Z (eT (rA i)))) q):=by unfold fY;rw[gH aX (f:=X 4) (b:=ER b j δ (Z (.str i)) a) (a:=.str i) rfl e];rfl
 unfold bD;show(match fY 5 (ae aX 1 (ax (X 4))) (ER b j δ (Z (.str i)) a) q with|some (.nx f g)=>(ZL (fB (Q lP (X 5) (fC .non))) (uu (Q Î (X 5) (R 0)) (Q Î (X 5) (R 1))) Hx) f g|o=>o)=_;rw[p];unfold put;match m:rA i with|none=>rfl|some (k,d)=>have:=n k d m;show(if 0<=(k:Int)/\(k:Int)<q.length then Z (Fo.nx (ER b j δ (Z (.str i)) (Z (.tup [.int k,d]))) (q.set (k:Int).toNat d))else Y)=_;rw[if_pos ⟨by omega,by omega⟩];rfl
theorem zE{x:Str}{d i:N}:∀(g:List Str)(f:List N)(a b:Option N),(∀p∈g,Ř p=U)->f.length=8->mM 4 [4,5] bD (g.map N.str) (ER x d i a b) f=Z (.nx (ER x d i Y Y) (g.foldl put f))|[],f,a,b,_,_=>rfl|p::g,f,a,b,h,m=>by obtain⟨r,e⟩:=GQ (b:=x) (j:=d) (δ:=i) (a:=Y) (q:=f) (h p q_) m;show(match bD (ER x d i (Z (.str p)) Y) f with|some (.nx j k)=>mM 4 [4,5] bD (g.map N.str) j k|o=>o)=_;rw[e];exact zE g (put f p) (Z (.str p)) r (λq n=>h q (on _ n)) (by rw[GP];exact m)
def GR(d w:Str):Bool:=Zu (ă d w)&&(match ow (ă d w) [.str "="]with|some (.ok (.tup [.str a,.str b,.str c]))=>seq a d&&(seq b (b_ "=")&&seq c w)|_=>L)&&(ļ (aP [.str d])&&ļ (bS [.str w]))
theorem uO:(ħ.all λn=>ĭ.all λw=>GR n w)=U:=by lk
noncomputable def ł(a w:Str):List N:=[.str a,.str w,.non,.non,.non,.non,.bl L,.str "any"]
theorem GS{j:List Str}(hx:b.length<=100000)(w:i∈ħ)(hw:θ∈ĭ)(A:S6 b (b_ ";")=z)(hq:z.length<=100)(ht:z.map (λq=>Sy q Ś)=ă i θ::j)(hl:∀q∈z,q.length<=1000)(hp:∀p∈j,Ř p=U):aB [.str b]=Z (.ok (.tup (j.foldl put (ł i θ)))):=by
 have t:=aS (p:=λθ=>GR i θ) (aS (p:=λn=>ĭ.all λθ=>GR n θ) uO w) hw;unfold GR at t;simp only[p_]at t;obtain⟨⟨_,m⟩,h3,h4⟩:=t;have e3:=mC h3;have e4:=mC h4;have e2:ow (ă i θ) [.str "="]=Z (.ok (.tup [.str i,.str "=",.str θ])):=by
  split at m;·rename_i a h c e;simp only[p_]at m;rw[e,gk m.1,gk m.2.1,gk m.2.2]
  ·cases m
 have v1:cq 1 [] (da (fM (gG) (X 0) (ax (Ñ ";")))) (gN 0) Y (fM (lR) (X 0) (ax (Ñ " "))) [Z (.str b),Y,Y,Y,Y,Y]=Z (.ok (.lst ((ă i θ::j).map N.str))):=by
  have o:da (fM (gG) (X 0) (ax (Ñ ";"))) [Z (.str b),Y,Y,Y,Y,Y]=Z (.ok (z.map N.str)):=by
   have g:fM (gG) (X 0) (ax (Ñ ";")) [Z (.str b),Y,Y,Y,Y,Y]=Z (.ok (.lst (z.map N.str))):=by show gG b [.str ";"]=_;show(if(b_ ";").length≠0/\b.length<=100000/\(S6 b (b_ ";")).length<=100000 then _ else Y)=_;rw[if_pos ⟨by decide,hx,by rw[A];omega⟩,A]
   unfold da;rw[g];rfl
  have e:=rf (d:=[]) (y:=fM (lR) (X 0) (ax (Ñ " "))) N.str (λq=>N.str (Sy q Ś)) o (by omega) λq v=>by show lR q [.str " "]=_;show(if q.length<=100000 then _ else Y)=_;rw[if_pos (by have:=hl q v;omega)];rfl
  rw[e,<-ht,Tg];rfl
 let f:N:=.lst ((ă i θ::j).map N.str);let T3:N:=.tup [.str i,.str "=",.str θ];have P:fM (ow) (Q Î (X 1) (R 0)) (ax (Ñ "=")) [Z (.str b),Z f,Y,Y,Y,Y]=Z (.ok T3):=e2;have c1:(ÿ (fB (Q Þ (Q Î (X 2) (R 1)) (Ñ ""))) (ÿ (cg (fB (ae aP 1 (ax (Q Î (X 2) (R 0)))))) (cg (fB (ae bS 1 (ax (Q Î (X 2) (R 2)))))))) (ER b f T3 Y Y)=Z (.ok L):=by
  have H:ae aP 1 (ax (Q Î (X 2) (R 0))) (ER b f T3 Y Y)=bo U:=gH aP rfl e3;have E:ae bS 1 (ax (Q Î (X 2) (R 2))) (ER b f T3 Y Y)=bo U:=gH bS rfl e4;have I:fB (Q Þ (Q Î (X 2) (R 1)) (Ñ "")) (ER b f T3 Y Y)=Z (.ok L):=by lk
  unfold ÿ;rw[I];show(ÿ (cg (fB (ae aP 1 (ax (Q Î (X 2) (R 0)))))) (cg (fB (ae bS 1 (ax (Q Î (X 2) (R 2))))))) (ER b f T3 Y Y)=_;unfold ÿ cg;rw[bx H,bx E];rfl
 have k:da (v8 (X 1) (dk (R 1)) fA) (ER b f T3 Y Y)=Z (.ok (j.map N.str)):=by
  have g:v8 (X 1) (dk (R 1)) fA (ER b f T3 Y Y)=Z (.ok (.lst (j.map N.str))):=by show Z (Rs.ok (N.lst (AH ((ă i θ::j).map N.str) (Z 1) Y)))=_;congr 3;show(((ă i θ::j).map N.str).drop (min 1 ((ă i θ::j).map N.str).length)).take (((ă i θ::j).map N.str).length-min 1 ((ă i θ::j).map N.str).length)=_;rw[Nat.min_eq_left (by simp)];rw[QU,List.drop_succ_cons,Xx,U0 (by simp)]
  unfold da;rw[g];rfl
 have r:xI 4 [4,5] (da (v8 (X 1) (dk (R 1)) fA)) bD (ER b f T3 Y Y) (ł i θ)=Z (.nx (ER b f T3 Y Y) (j.foldl put (ł i θ))):=by unfold xI;rw[k];show(if æ (j.map N.str)=U then _ else Y)=_;rw[if_pos (rD j)];exact zE j (ł i θ) Y Y hp rfl
 refine kU ?_;show dU [Z (.str b),Y,Y,Y,Y,Y]=_;unfold dU;rw[ar (cw (show cg (fB (f1 (jt pX) (X 0))) [Z (.str b),Y,Y,Y,Y,Y]=Z (.ok L)from rfl))];rw[ar (aV (a:=[Z (.str b),Z f,Y,Y,Y,Y]) v1 rfl)];rw[ar (aV (a:=ER b f T3 Y Y) P rfl)];rw[ar (cw c1)];unfold xH;rw[show(aK (Q Î (X 2) (R 0)) (aK (Q Î (X 2) (R 2)) (vm (fC .non) (fC .non) (fC .non) (fC .non) (fC (.bl L)) (Ñ "any")))) (ER b f T3 Y Y)=Z (.ok (ł i θ))from rfl];show(match(fw (xI 4 [4,5] (da (v8 (X 1) (dk (R 1)) fA)) bD) (xF 3 (ß fX (ax (X 3))))) (ER b f T3 Y Y) (ł i θ)with|some (.nx u y)=>Z (Fl.nx (u.set 3 (Z (.lst y))))|some (.rt d)=>Z (.rt d)|none=>Y)=_;unfold fw;rw[r];rfl
theorem jc(a b:Str):(a++b).cps.toList=a.cps.toList++b.cps.toList:=Array.toList_append
def mX(d b:Str):Str->Str->List Str->List Str|a,x,[]=>[a++x++đ]|a,x,y::l=>(a++x++d)::mX d b b y l
theorem uP(d b:Str):∀(l:List Str)(a x:Str),∃q r,mX d b a x l=q::r|[],_,_=>⟨_,_,rfl⟩|_::_,_,_=>⟨_,_,rfl⟩
def JS:List Str->List Nat|[]=>[]|q::r=>J [59] q.cps.toList (r.map λs=>s.cps.toList)
theorem zF(a x y:Str)(l:List Str):Uh a (x::y::l)=x++a++Uh a (y::l):=by show Ym a (x::y::l)=x++a++Ym a (y::l);rw[Xc,Xc];rfl
theorem LG{f d b:Str}(h:f.cps.toList=d.cps.toList++59::b.cps.toList):∀(l:List Str)(a x:Str),a.cps.toList++(Uh f (x::l)).cps.toList=JS (mX d b a x l)|[],a,x=>by show a.cps.toList++x.cps.toList=(a++x++đ).cps.toList;rw[jc,jc];show _=_++[];simp|y::l,a,x=>by have g:=LG h l b y;obtain⟨q,r,e⟩:=uP d b l b y;rw[zF,jc,jc,h];show _=JS ((a++x++d)::mX d b b y l);rw[e]at g⊢;show _=(a++x++d).cps.toList++([59]++J [59] q.cps.toList (r.map λs=>s.cps.toList));rw[show J [59] q.cps.toList (r.map λs=>s.cps.toList)=JS (q::r)from rfl,<-g,jc,jc];simp
def ŏ(b a p:Str):Bool:=gV đ p b&&(gV đ p đ&&(gV a p b&&gV a p đ))
theorem mE(h:gV b i θ=U):Sy (b++i++θ) Ś=i/\59∉(b++i++θ).cps.toList:=by unfold gV at h;rw[p_]at h;exact⟨gk h.1,by simpa using h.2⟩
theorem zI{d b:Str}:∀(l:List Str)(a x:Str),(gV a x d=U/\gV a x đ=U)->(∀p∈l,ŏ d b p=U)->(mX d b a x l).map (λq=>Sy q Ś)=x::l/\∀q∈mX d b a x l,59∉q.cps.toList
 |[],a,x,g,_=>by obtain⟨i,h⟩:=mE g.2;exact⟨by show[Sy (a++x++đ) Ś]=[x];rw[i],λq e=>by rw[QK.mp e];exact h⟩|y::l,a,x,g,j=>by
  obtain⟨i,h⟩:=mE g.1;have f:=j y q_;unfold ŏ at f;simp only[p_]at f;obtain⟨n,m⟩:=zI l b y ⟨f.2.2.1,f.2.2.2⟩ λp k=>j p (on _ k);refine⟨by show Sy (a++x++d) Ś::(mX d b b y l).map _=_;rw[i,n],λq e=>?_⟩;rcases t_.mp e with rfl|e;·exact h
  ·exact m q e
theorem uQ{e b:Str}(j:e.length<=2)(h:b.length<=2):∀(l:List Str)(a x:Str),a.length<=2->x.length<=200->(∀p∈l,p.length<=200)->(mX e b a x l).length=l.length+1/\∀q∈mX e b a x l,q.length<=300
 |[],a,x,f,i,_=>⟨rfl,λq d=>by
  rw[QK.mp d,ip,ip];have:đ.length=0:=by decide
  omega⟩|y::l,a,x,f,i,g=>by
  obtain⟨m,k⟩:=uQ j h l b y h (g y q_) λp f=>g p (on _ f);refine⟨by show(mX e b b y l).length+1=_;rw[m];rfl,λq d=>?_⟩;rcases t_.mp d with rfl|d;·rw[ip,ip];omega
  ·exact k q d
theorem uR(a:Str)(d:a.length<=10):∀(l:List Str)(x:Str),(∀p∈l,p.length<=200)->(l.foldl (λt y=>t++a++y) x).length<=x.length+l.length*210|[],x,_=>by simp|y::l,x,h=>by have b:=uR a d l (x++a++y) λp e=>h p (on _ e);have f:=h y q_;rw[ip,ip]at b;show(l.foldl _ (x++a++y)).length<=_;rw[Q1];omega
theorem mF{d w:Str}(E:b.cps.toList=i.cps.toList++59::θ.cps.toList)(h:b.length<=10)(h1:i.length<=2)(P:θ.length<=2)(k:d∈ħ)(A:w∈ĭ)(f:ŏ i θ (ă d w)=U)(m:(ă d w).length<=200)(I:∀p∈z,ŏ i θ p=U)(t:∀p∈z,p.length<=200)(hn:z.length<=50)(H:∀p∈z,Ř p=U):aB [.str (Uh b (ă d w::z))]=Z (.ok (.tup (z.foldl put (ł d w)))):=by
 obtain⟨q,r,e⟩:=uP i θ z đ (ă d w);unfold ŏ at f;simp only[p_]at f;obtain⟨v,u⟩:=zI (d:=i) (b:=θ) z đ (ă d w) ⟨f.1,f.2.1⟩ I;obtain⟨o,n⟩:=uQ h1 P z đ (ă d w) (by decide) m t;have g:=LG E z đ (ă d w);rw[e]at g v u o n;have y:(Uh b (ă d w::z)).cps.toList=J (b_ ";").cps.toList q.cps.toList (r.map λs=>s.cps.toList):=by
  have a:đ.cps.toList=[]:=by lk
  rw[a]at g;exact g
 refine GS (z:=q::r) ?_ k A (tM (d:=59) (j:=[]) (by lk) (by lk) u y) (by rw[o];omega) v (λs j=>by have:=n s j;omega) H;rw[mD];have:=uR b h z (ă d w) t;omega
structure Gw(nm w:Str)(h p:Option Str)(u l:Option Int)(S:Bool)(R:Str):Prop where
 nm:nm∈ħ
 w:w∈ĭ
 h:∀x,h=Z x->x∈En
 p:∀x,p=Z x->x∈ì
 u:∀i,u=Z i->0<=i/\i<60l:∀i,l=Z i->0<=i/\i<30r:R=b_ "any"\/R=b_ "near"
theorem Ox(g:Gv b i j δ ι Γ A θ):∃h p k m,Gw b i h p k m A θ/\Ā b i j δ ι Γ A θ=gv b i h p k m A θ:=by
 have w:∃h,j=eS h/\∀x,h=Z x->x∈En:=by
  rcases g.hh with rfl|⟨n,a,rfl⟩;·exact⟨Y,rfl,λx e=>by cases e⟩
  ·exact⟨Z n,rfl,λx e=>by cases e;exact a⟩
 have v:∃h,δ=eS h/\∀x,h=Z x->x∈ì:=by
  rcases g.pp with rfl|⟨n,a,rfl⟩;·exact⟨Y,rfl,λx e=>by cases e⟩
  ·exact⟨Z n,rfl,λx e=>by cases e;exact a⟩
 have u:∃h,ι=eO h/\∀x,h=Z x->0<=x/\x<60:=by
  rcases g.u with rfl|⟨n,f,d,rfl⟩;·exact⟨Y,rfl,λx e=>by cases e⟩
  ·exact⟨Z n,rfl,λx e=>by cases e;exact⟨f,d⟩⟩
 have a4:∃h,Γ=eO h/\∀x,h=Z x->0<=x/\x<30:=by
  rcases g.l with rfl|⟨n,f,d,rfl⟩;·exact⟨Y,rfl,λx e=>by cases e⟩
  ·exact⟨Z n,rfl,λx e=>by cases e;exact⟨f,d⟩⟩
 obtain⟨h,rfl,t⟩:=w;obtain⟨p,rfl,r⟩:=v;obtain⟨ι,rfl,q⟩:=u;obtain⟨Γ,rfl,o⟩:=a4;exact⟨h,p,ι,Γ,⟨g.nm,g.w,t,r,q,o,g.r⟩,rfl⟩
theorem pw:(ħ.all λx=>A_ (x.length<=50))=U/\(ĭ.all λx=>A_ (x.length<=50))=U/\(En.all λx=>A_ (x.length<=50))=U/\(ì.all λx=>A_ (x.length<=50))=U:=⟨by lk,by lk,by lk,by lk⟩
theorem zJ:(ħ.all λx=>QI (.str x))=U/\(ĭ.all λx=>QI (.str x))=U/\(En.all λx=>QI (.str x))=U/\(ì.all λx=>QI (.str x))=U:=⟨by lk,by lk,by lk,by lk⟩
theorem Oy{p:Option Str}(g:Gw b i Υ p Η Ρ A θ):Vv b i Υ p Η Ρ θ:=⟨by simpa using aS (p:=λx:Str=>A_ (x.length<=50)) pw.1 g.nm,by simpa using aS (p:=λx:Str=>A_ (x.length<=50)) pw.2.1 g.w,λx e=>by simpa using aS (p:=λx:Str=>A_ (x.length<=50)) pw.2.2.1 (g.h x e),λx e=>by simpa using aS (p:=λx:Str=>A_ (x.length<=50)) pw.2.2.2 (g.p x e),λa e=>by have:=g.u a e;omega,λa e=>by have:=g.l a e;omega⟩
theorem Oz(o:Option Int):ē 0 (eO o):=by cases o;exact Lg;exact Ģ
theorem LH(a b:Option Int):Rn (ei (eO a)) (ei (eO b))=A_ (a=b):=by cases a<;>cases b<;>simp[eO,ei,Rn];rw[RH];simp
def PL(h p:Option Str)(u l:Option Int)(S:Bool)(R:Str):List Str:=(oS "for " h).toList++((oS "under " p).toList++((oI "until " u).toList++((oI "lasts " l).toList++((oB "safe" S).toList++((oB "near" (kW R)).toList++[])))))
theorem LI{p:Option Str}:Uh (b_ "; ") (ă b i::PL Υ p Η Ρ A θ)=T b i Υ p Η Ρ A θ:=by rw[mD];unfold PL;rw[jp,jp,jp,jp,jp,jp];rfl
theorem lr(b:0<=k)(a:k<d):k∈rB d:=by unfold rB;exact QW.mpr ⟨k.toNat,Rt.mpr (by omega),by omega⟩
theorem LJ{p:Option Str}(g:Gw b i Υ p Η Ρ A θ):∀x∈PL Υ p Η Ρ A θ,x∈Ŕ:=by
 intro x a;simp only[PL,QS,Option.mem_toList,K_,or_false]at a;unfold Ŕ;rcases a with e|e|e|e|e|e;·refine G_ _ ?_;cases Υ with|none=>cases e|some y=>cases e;exact QW.mpr ⟨y,g.h y rfl,rfl⟩
 ·refine o_ _ (G_ _ ?_);cases p with|none=>cases e|some y=>cases e;exact QW.mpr ⟨y,g.p y rfl,rfl⟩
 ·refine o_ _ (o_ _ (G_ _ ?_));cases Η with|none=>cases e|some y=>cases e;exact QW.mpr ⟨y,lr (g.u y rfl).1 (g.u y rfl).2,rfl⟩
 ·refine o_ _ (o_ _ (o_ _ (G_ _ ?_)));cases Ρ with|none=>cases e|some y=>cases e;exact QW.mpr ⟨y,lr (g.l y rfl).1 (g.l y rfl).2,rfl⟩
 · refine o_ _ (o_ _ (o_ _ (o_ _ (G_ _ ?_))));unfold oB at e;split at e;·cases e;simp
   ·cases e
 · refine o_ _ (o_ _ (o_ _ (o_ _ (G_ _ ?_))));unfold oB at e;split at e;·cases e;simp
   ·cases e
structure Ptk(x:Str):Prop where
 t:Ř x=U
 q1:ŏ đ Ś x=U
 q2:ŏ đ đ x=U
 q3:ŏ ş ş x=U
 l:x.length<=200n:59∉x.cps.toList
theorem LK(h:Zu b=U):ŏ đ Ś b=U/\ŏ đ đ b=U/\ŏ ş ş b=U/\b.length<=200/\59∉b.cps.toList:=by unfold Zu at h;simp only[p_,decide_eq_true_eq]at h;obtain⟨a,d,j,i,g,f⟩:=h;unfold ŏ;simp only[p_];refine⟨⟨a,a,d,d⟩,⟨a,a,a,a⟩,⟨i,a,j,g⟩,f,?_⟩;have:=(mE a).2;rw[jc,jc]at this;intro e;exact this (G_ _ (o_ _ e))
theorem Ū(a:b∈Ŕ):Ptk b:=by have h:=aS GO a;unfold Pq at h;rw[p_]at h;obtain⟨i,g,f,e,d⟩:=LK h.2;exact⟨h.1,i,g,f,e,d⟩
theorem GT(d:b∈ħ)(e:i∈ĭ):Zu (ă b i)=U:=by have a:=aS (p:=λi=>GR b i) (aS (p:=λn=>ĭ.all λi=>GR n i) uO d) e;unfold GR at a;simp only[p_]at a;exact a.1.1
theorem GU(e:b∈ħ)(f:i∈ĭ)(d:∀x∈z,x∈Ŕ)(g:z.length<=50):aB [.str (Uh (b_ "; ") (ă b i::z))]=Z (.ok (.tup (z.foldl put (ł b i))))/\aB [.str (Uh (b_ ";") (ă b i::z))]=Z (.ok (.tup (z.foldl put (ł b i))))/\aB [.str (Uh (b_ "  ;  ") (ă b i::z))]=Z (.ok (.tup (z.foldl put (ł b i)))):=by obtain⟨f1,Q,j,h,k⟩:=LK (GT e f);exact⟨mF (i:=đ) (θ:=Ś) (by lk) (by decide) (by decide) (by decide) e f f1 h (λx a=>(Ū (d x a)).q1) (λx a=>(Ū (d x a)).l) g λx a=>(Ū (d x a)).t,mF (i:=đ) (θ:=đ) (by lk) (by decide) (by decide) (by decide) e f Q h (λx a=>(Ū (d x a)).q2) (λx a=>(Ū (d x a)).l) g λx a=>(Ū (d x a)).t,mF (i:=ş) (θ:=ş) (by lk) (by decide) (by decide) (by decide) e f j h (λx a=>(Ū (d x a)).q3) (λx a=>(Ū (d x a)).l) g λx a=>(Ū (d x a)).t⟩
theorem LL{p:Option Str}:(PL Υ p Η Ρ A b).length<=6:=by have f1:=nQ (oS "for " Υ);have a:=nQ (oS "under " p);have g:=nQ (oI "until " Η);have f:=nQ (oI "lasts " Ρ);have e:=nQ (oB "safe" A);have d:=nQ (oB "near" (kW b));simp[PL];omega
noncomputable def gs(o:Option Str)(c:N):N:=match o with|none=>c|some x=>.str x
noncomputable def gi(o:Option Int)(c:N):N:=match o with|none=>c|some x=>.int x
noncomputable def gb(o:Bool)(c d:N):N:=if o then d else c
theorem Qs(j:∀x,Υ=Z x->x∈En)(h:List Str)(a b c d e f g i:N):((oS "for " Υ).toList++h).foldl put [a,b,c,d,e,f,g,i]=h.foldl put [a,b,gs Υ c,d,e,f,g,i]:=by cases Υ with|none=>rfl|some x=>show h.foldl put (put _ (b_ "for "++x))=_;unfold put;rw[Ot (j x rfl)];rfl
theorem Qt(j:∀x,Υ=Z x->x∈ì)(h:List Str)(a b c d e f g i:N):((oS "under " Υ).toList++h).foldl put [a,b,c,d,e,f,g,i]=h.foldl put [a,b,c,gs Υ d,e,f,g,i]:=by cases Υ with|none=>rfl|some x=>show h.foldl put (put _ (b_ "under "++x))=_;unfold put;rw[Ou (j x rfl)];rfl
theorem Qu(j:∀x,Η=Z x->0<=x/\x<60)(h:List Str)(a b c d e f g i:N):((oI "until " Η).toList++h).foldl put [a,b,c,d,e,f,g,i]=h.foldl put [a,b,c,d,gi Η e,f,g,i]:=by cases Η with|none=>rfl|some x=>show h.foldl put (put _ (b_ "until "++is x))=_;unfold put;rw[Ov (lr (j x rfl).1 (j x rfl).2)];rfl
theorem Qv(j:∀x,Η=Z x->0<=x/\x<30)(h:List Str)(a b c d e f g i:N):((oI "lasts " Η).toList++h).foldl put [a,b,c,d,e,f,g,i]=h.foldl put [a,b,c,d,e,gi Η f,g,i]:=by cases Η with|none=>rfl|some x=>show h.foldl put (put _ (b_ "lasts "++is x))=_;unfold put;rw[Ow (lr (j x rfl).1 (j x rfl).2)];rfl
theorem Qw(h:List Str)(a b c d e f g i:N):((oB "safe" A).toList++h).foldl put [a,b,c,d,e,f,g,i]=h.foldl put [a,b,c,d,e,f,gb A g (.bl U),i]:=by cases A with|false=>rfl|true=>show h.foldl put (put _ (b_ "safe"))=_;unfold put;rw[LD];rfl
theorem Qx(k:Bool)(h:List Str)(a b c d e f g i:N):((oB "near" k).toList++h).foldl put [a,b,c,d,e,f,g,i]=h.foldl put [a,b,c,d,e,f,g,gb k i (.str "near")]:=by cases k with|false=>rfl|true=>show h.foldl put (put _ (b_ "near"))=_;unfold put;rw[LF];rfl
theorem LM{p:Option Str}(g:Gw b i Υ p Η Ρ A θ)(a j c d e f k h:N):(PL Υ p Η Ρ A θ).foldl put [a,j,c,d,e,f,k,h]=[a,j,gs Υ c,gs p d,gi Η e,gi Ρ f,gb A k (.bl U),gb (kW θ) h (.str "near")]:=by unfold PL;rw[Qs g.h,Qt g.p,Qu g.u,Qv g.l,Qw,Qx];rfl
theorem LN{p:Option Str}(g:Gw b i Υ p Η Ρ A θ):gb (kW θ) (.str "any") (.str "near")=.str θ:=by rcases g.r with e|e<;>rw[e]<;>rfl
theorem DQ(o:Option Str):gs o .non=eS o:=by cases o<;>rfl
theorem DR(o:Option Int):gi o .non=eO o:=by cases o<;>rfl
theorem Qy(S:Bool):gb S (.bl L) (.bl U)=.bl S:=by cases S<;>rfl
theorem OA{p:Option Str}(g:Gw b i Υ p Η Ρ A θ):N.tup ((PL Υ p Η Ρ A θ).foldl put (ł b i))=gv b i Υ p Η Ρ A θ:=by unfold ł;rw[LM g,LN g,DQ,DQ,DR,DR,Qy]
theorem LO(i:Int):aC [.int i]=bo (A_ (0<=i)&&A_ (i<=9999)):=by
 have e:aF [.int i,.int 0,.int 9999]=bo (A_ (0<=i)&&A_ (i<=9999)):=by
  by_cases a:0<=i;·simp[aF,bt,aY,aA,sq,ba,aH,cu,Ù,ÿ,cg,fB,ð,X,f1,Q,iD,jt,ez,oA,į,a]
  ·simp[aF,bt,aY,aA,sq,ba,aH,cu,Ù,ÿ,cg,fB,ð,X,f1,Q,iD,jt,ez,oA,į,a]
 have b:bc [.int i]=bo (A_ (0<=i)&&A_ (i<=9999)):=by simp[bc,bt,eE,aH,cu,Ù,ae,aK,cM,X,fC,e]
 simp[aC,bt,bC,aH,cu,Ù,ð,ae,aK,cM,X,fC,Q,Ġ,Ą,b]
theorem LP{p:Option Str}(g:Gw b i Υ p Η Ρ A θ):aB [.str (T b i Υ p Η Ρ A θ)]=Z (.ok (gv b i Υ p Η Ρ A θ)):=by have:=(GU (b:=b) (i:=i) g.nm g.w (LJ g) (QV LL (by omega))).1;rw[LI,OA g]at this;exact this
abbrev ZX(f w a:Str)(g:Bool)(d:Str)(e:N)(S:Bool)(R:Str)(b:Int):N:=.tup [.str f,.str w,.str a,.bl g,.str d,e,.bl S,.str R,.int b,.int b]
theorem zK(h:ē d j)(a:d<=64):Ě j j=Z (.ok (.bl L)):=GD (h.okP a) h.p
noncomputable def Cz(u l:N)(a:Int):N:=match l with|.int i=>.int (if 9999<a+i then 9999 else a+i)|_=>u
theorem LQ(g:Gv b i j δ ι Γ A θ):iQ [Ā b i j δ ι Γ A θ,.int k]=Z (.ok (Cz ι Γ k)):=by
 rcases g.l with rfl|⟨a,i0,d,rfl⟩;·simp[iQ,bt,iP,aA,sq,ba,aH,cu,Ù,fB,ð,X,fC,Q,Î,ö,Ą,Cz]
 ·simp[iQ,bt,iP,aA,sq,ba,aH,cu,Ù,fB,ð,aK,cM,X,fC,Q,Î,ö,ß,Ą,cR,Ms,Cz]
theorem LR(g:Gv b i j δ ι Γ A θ)(d:0<=k):Mo (Cz ι Γ k):=by
 rcases g.l with rfl|⟨a,i0,e,rfl⟩;·exact g.mu
 ·refine .inr ⟨_,?_,?_,rfl⟩<;>split<;>omega
theorem zL{h p:Str}{d e:Str}{f:Bool}(w:q∈jo å)(a:Ak h p À)(g:Gv b i j δ ι Γ A θ)(o:0<=k)(n:k<=9999)(W:Wt q h p À b i j δ ι Γ A θ Χ d e f .non):dF [.tup q,á Χ h p À,Ā b i j δ ι Γ A θ,.int k]=Z (.ok (ZX b i d f e (Cz ι Γ k) A θ k)):=by have H:=Cp (dv w);have E:=Lp (zv (A:=Χ) a);have z:=Pm (zy g);have y:=Cq (mom_y o n);have m:=W.why;have v:=W.hf;have u:=W.ix;have t:=W.pf;have r:=LQ (k:=k) g;simp[dF,dL,oU,aA,sq,ba,aH,cU,cu,Ù,fB,ð,ae,av,aK,cM,X,fC,Q,Î,ö,fW,lP,H,E,z,y,m,v,u,t,r]
namespace J
theorem nU{b:ã}(d:Μ H=Z (.ok A))(a:b H=Z (.ok Χ)):ÿ Μ b H=Z (.ok (A||Χ)):=by
 unfold ÿ;rw[d];cases A;·exact a
 ·rfl
theorem LO(i:Int):bc [.int i]=bo (A_ (0<=i)&&A_ (i<=9999)):=by
 have e:aF [.int i,.int 0,.int 9999]=bo (A_ (0<=i)&&A_ (i<=9999)):=by
  by_cases a:0<=i;·simp[aF,bt,aY,aA,sq,ba,aH,cu,Ù,ÿ,cg,fB,ð,X,f1,Q,iD,jt,ez,oA,į,a]
  ·simp[aF,bt,aY,aA,sq,ba,aH,cu,Ù,ÿ,cg,fB,ð,X,f1,Q,iD,jt,ez,oA,į,a]
 simp[bc,bt,eE,aH,cu,Ù,ae,aK,cM,X,fC,e]
theorem mom_y(b:0<=k)(a:k<=9999):bc [.int k]=bo U:=by rw[LO];simp[b,a]
theorem pq(h:b=b_ "any"\/b=b_ "near"):eD [.str b]=bo U/\∃r,Þ (.str b) (.str "any")=bo r/\Þ (.str b) (.str "near")=bo (!r):=by
 rcases h with rfl|rfl;·exact⟨by lk,U,by lk,by lk⟩
 ·exact⟨by lk,L,by lk,by lk⟩
structure Note where
 nm:Str
 w:Str
 house:Str
 ex:Bool
 path:Str
 ends:Option Int
 S:Bool
 R:Str
 md:Int
 us:Int
deriving DecidableEq
def Õ(n:Note):N:=.tup [.str n.nm,.str n.w,.str n.house,.bl n.ex,.str n.path,eO n.ends,.bl n.S,.str n.R,.int n.md,.int n.us]
noncomputable def ek(n:Note):N:=.tup [.str n.nm,.str n.house,.str n.path]
noncomputable def key(n:Note):List Str:=[n.nm,n.house,n.path]
structure à(n:Note):Prop where
 nm:n.nm∈ħ
 w:n.w∈ĭ
 house:n.house∈En
 path:n.path∈ì
 R:n.R=b_ "any"\/n.R=b_ "near"ends:∀i,n.ends=Z i->0<=i/\i<=9999mk0:0<=n.md
 mu:n.md<=n.us
 us:n.us<=99
variable{ν:Note}
theorem OB(g:à ν):Mo (eO ν.ends):=by cases h:ν.ends with|none=>exact .inl rfl|some i=>exact .inr ⟨i,(g.ends i h).1,by have:=(g.ends i h).2;omega,rfl⟩
theorem LS(g:à ν):fL [Õ ν]=bo U:=by
 have a:bN [Õ ν,.int 10]=bo U:=by lk
 have e:=mom_y g.mk0 (by have:=g.mu;have:=g.us;omega);have d:=mom_y (Int.le_trans g.mk0 g.mu) (by have:=g.us;omega);have b:aC [eO ν.ends]=bo U:=zu (OB g);unfold Õ at a⊢;simp[fL,bt,kh,aA,sq,ba,aH,cu,Ù,ÿ,cg,fB,ð,ae,aK,cM,X,fC,f1,Q,Î,ö,fj,ß,jt,ez,a,e,d,Pj g.nm,Pk g.w,HH g.house,MF g.path,b,(pq g.R).1,mK,jr,į,g.mu]
def õ:List Str:=ħ++(ĭ++(En++(ì++[b_ "any",b_ "near"])))
theorem zJ:(õ.all λx=>QI (.str x))=U:=by lk
theorem pA(h:b∈õ):QI (.str b)=U:=aS (p:=λb=>QI (.str b)) zJ h
theorem à.sR(g:à ν):ν.R∈õ:=by unfold õ;rcases g.R with h|h<;>rw[h]<;>simp
theorem rE(g:à ν):ē 1 (Õ ν):=by
 refine rg (d:=0) λd a=>?_;simp only[t_,K_,or_false]at a;rcases a with rfl|rfl|rfl|rfl|rfl|rfl|rfl|rfl|rfl|rfl;·exact iq (pA (by simp[õ,g.nm]))
 ·exact iq (pA (by simp[õ,g.w]))
 ·exact iq (pA (by simp[õ,g.house]))
 ·exact Lf
 ·exact iq (pA (by simp[õ,g.path]))
 ·exact Oz _
 ·exact Lf
 ·exact iq (pA g.sR)
 ·exact Ģ
 ·exact Ģ
theorem LU(g:à ν):ē 1 (ek ν):=by
 refine rg (d:=0) λd a=>?_;simp only[t_,K_,or_false]at a;rcases a with rfl|rfl|rfl;·exact iq (pA (by simp[õ,g.nm]))
 ·exact iq (pA (by simp[õ,g.house]))
 ·exact iq (pA (by simp[õ,g.path]))
theorem LV(a b:Note):Rn (ei (ek a)) (ei (ek b))=A_ (key a=key b):=by rw[RH];simp[ek,key,ei,ç,Rn,SS]
theorem GV(a b:Note):Rn (ei (Õ a)) (ei (Õ b))=A_ (a=b):=by rw[RH];have e:=LH a.ends b.ends;cases a;cases b;simp[Õ,ei,ç,Rn,SS,e]
theorem GW{b:Note}(h:à ν)(g:à b):Þ (ek ν) (ek b)=bo (A_ (key ν=key b))/\Ě (ek ν) (ek b)=bo (!A_ (key ν=key b)):=by
 have e:=(LU h).okP (by omega);have d:=(LU g).okP (by omega);have a:=LV ν b;have f:ĩ (ek ν) (ek b)=Y:=rfl;constructor;·unfold Þ;rw[f,e,d,a];rfl
 ·unfold Ě;rw[f,e,d,a];rfl
noncomputable def ā(n:Note)(a:Int):Bool:=match n.ends with|none=>L|some i=>A_ (i<=a)
def ej(a:List Note):N:=.tup (a.map Õ)
structure Jar(js:List Note):Prop where
 g:∀n∈js,à n
 s:∀i(h:i+1<js.length),js[i].md<=js[i+1].md
 k:(js.map key).Nodup
 l:js.length<=18
theorem DS{b:Type}{o:Option (Rs υ)}{a:υ}{k:υ->Option (Rs b)}(h:o=Z (.ok a)):Ù o k=k a:=by rw[h];rfl
theorem tR:∀(n:Nat)(lo:Int),rng lo n=(rl n).map λi:Nat=>N.int (lo+(i:Int))
 |0,lo=>rfl|n+1,lo=>by
  rw[WX];show N.int lo::rng (lo+1) n=_;rw[tR n (lo+1)];simp only[QU,Tg];congr 1;·simp
  ·congr 1;funext i;simp only[Zj];congr 1;omega
theorem zM{f g:j4}{a:Ev}{b:List N}(h:f H q=Z (.nx a b)):fw f g H q=g a b:=by unfold fw;rw[h]
theorem GX(h:H[d]?=Z (Z (.lst q))):da (X d) H=Z (.ok q):=by unfold da X;rw[h];rfl
variable{n:List Note}
theorem gm(h:H[d]?=Z (Z (ej n))):da (X d) H=Z (.ok (n.map Õ)):=by unfold da X;rw[h];rfl
theorem zN(b:∀o∈n,à o):ē 2 (.lst (n.map Õ)):=rh λd e=>by obtain⟨x,a,rfl⟩:=QW.mp e;exact rE (b x a)
theorem it_ej(b:∀o∈n,à o):ē 2 (ej n):=rg λd e=>by obtain⟨x,a,rfl⟩:=QW.mp e;exact rE (b x a)
theorem nil_eq(b:∀o∈n,à o):Þ (.lst (n.map Õ)) (.lst [])=bo n.isEmpty:=by cases n with|nil=>lk|cons o rest=>
 have i2:=(zN b).okP (by omega);have a:okP (.lst [])=U:=by lk
 unfold Þ;rw[show ĩ (.lst ((o::rest).map Õ)) (.lst [])=Y from rfl,i2,a];simp[ei,ç,Rn,SS]
theorem rF:∀l:List Int,æ (l.map N.int)=U|[]=>rfl|i::l=>by show(ĝ (.int i)&&æ (l.map N.int))=U;rw[rF l];rfl
theorem addT_ii(a b:Int):cK (.int a) (.int b)=Z (.ok (.int (a+b))):=rfl
structure JI(B:Nat)(js:List Note)(now:Int):Prop where
 g:∀n∈js,à n
 s:js.Pairwise λa b=>a.md<=b.md
 k:(js.map key).Nodup
 l:js.length<=B
 n0:0<=now
 n1:now<=3*B
 m:∀n∈js,n.md<=now
 u:∀n∈js,n.us<=39
theorem JI.keep(J:JI d n k)(f:0<=π)(e:π<4):JI (d+1) n (k+π):=⟨J.g,J.s,J.k,by have:=J.l;omega,by have:=J.n0;omega,by have:=J.n1;omega,λa b=>by have:=J.m a b;omega,J.u⟩
theorem JI.add(J:JI d n k)(v:0<=π)(u:π<4)(g:à ν)(q:ν.us<=39)(p:ν.md=k+π)(t:n.filter (λo=>A_ (key o=key ν))=[]):JI (d+1) (n++[ν]) (k+π):=by
 have r:∀o∈n,key o≠key ν:=λo j e=>by have:o∈n.filter (λo=>A_ (key o=key ν)):=Rp.mpr ⟨j,by simp[e]⟩;rw[t]at this;cases this
 refine⟨λx f=>?_,?_,?_,by have:=J.l;simp;omega,by have:=J.n0;omega,by have:=J.n1;omega,λx f=>?_,λx f=>?_⟩
 · rcases QS.mp f with h|h;·exact J.g x h
   ·rw[QK.mp h];exact g
 ·refine List.pairwise_append.mpr ⟨J.s,List.pairwise_singleton ..,λa m b i=>?_⟩;rw[QK.mp i,p];have:=J.m a m;omega
 ·rw[S8];refine List.nodup_append.mpr ⟨J.k,by simp,λa m b i e=>?_⟩;obtain⟨o,j,rfl⟩:=QW.mp m;simp only[QU,List.map_nil,QK]at i;exact r o j (e.trans i)
 · rcases QS.mp f with h|h;·have:=J.m x h;omega
   ·rw[QK.mp h,p];omega
 · rcases QS.mp f with h|h;·exact J.u x h
   ·rw[QK.mp h];exact q
theorem JI.jar(J:JI d n k)(a:d<=18):Jar n:=⟨J.g,λi h=>V8.mp J.s i (i+1) (by omega) h (by omega),J.k,by have:=J.l;omega⟩
noncomputable def jb(b:List Int)(z m a:Int):Ev:=[Z (.scr b),Z (.int z),Z (.int m),Y,Z (.int a),Y,Y,Y,Y,Y,Y,Y,Y,Y,Y,Y]
def cJ:ã:=(fB (Q Þ (bU [("_law_note",15)] (da (X 3)) (Z (fB (Q Þ (fW (bT (Q Î (X 0) (R 0)) (Q Î (X 0) (R 2)) (Q Î (X 0) (R 4)))) (fW (bT (Q Î (X 1) (R 0)) (Q Î (X 1) (R 2)) (Q Î (X 1) (R 4))))))) (X 0)) (fj cM)))
theorem OC(d:∀o∈n,à o)(g:à ν)(i:n.length<=18)(f:H[3]?=Z (Z (.lst (n.map Õ))))(b:H[15]?=Z (Z (Õ ν))):cJ H=Z (.ok (n.filter (λo=>A_ (key o=key ν))).isEmpty):=by
 have e:Dd [("_law_note",15)] H=[Y,Z (Õ ν)]:=by simp[Dd,b]
 have h:=kn (d:=[("_law_note",15)]) (ε:=da (X 3)) (Μ:=(fB (Q Þ (fW (bT (Q Î (X 0) (R 0)) (Q Î (X 0) (R 2)) (Q Î (X 0) (R 4)))) (fW (bT (Q Î (X 1) (R 0)) (Q Î (X 1) (R 2)) (Q Î (X 1) (R 4))))))) (y:=X 0) (H:=H) Õ (λo=>A_ (key o=key ν)) Õ (GX f) (by omega) λo a=>⟨by rw[e];exact bx ((bV (j:=ek o) (δ:=ek ν) rfl rfl).trans (GW (d o a) g).1),by rw[e];rfl⟩;exact bx ((bV h rfl).trans (nil_eq λo a=>d o (Rp.mp a).1))
theorem zO(e:List Int)(f:e.length<=63)(z m d k:Int){B:Nat}{p:List Note}(J:JI B p d)(hB:B<=10):∃u v q,bQ ((jb e z m d).set 5 (Z (.int k))) (p.map Õ)=Z (.nx u (v.map Õ))/\fgt [5,6,7,8,9,10,11,12,13,14,15] u=jb e z m q/\JI (B+1) v q:=by
 obtain⟨b,hh⟩:∃b,b=z+1+14*k:=⟨_,rfl⟩;obtain⟨g,a0,b0,e0⟩:=aZ e f b 4 (by omega);obtain⟨d1,a1,b1,e1⟩:=aZ e f (b+1) 4 (by omega);obtain⟨d2,a2,b2,e2⟩:=aZ e f (b+2) 3 (by omega);obtain⟨I,a4,b4,e4⟩:=aZ e f (b+4) 2 (by omega);obtain⟨d6,a6,b6,e6⟩:=aZ e f (b+6) 2 (by omega);obtain⟨d7,a7,b7,e7⟩:=aZ e f (b+7) 60 (by omega);obtain⟨d8,a8,b8,e8⟩:=aZ e f (b+8) 2 (by omega);obtain⟨d9,a9,b9,e9⟩:=aZ e f (b+9) 3 (by omega);obtain⟨h,e',d',c'⟩:=aZ e f (b+10) 5 (by omega);obtain⟨n3,b',e3⟩:=o9 e f (b+3);obtain⟨p5,P,e5⟩:=tN e f (b+5);obtain⟨x1,m1,i1⟩:=iu (q:=[.str "n",.str "m-1",.str "safe-a",.str "N_2"]) a1 b1;obtain⟨x2,m2,i2⟩:=iu (q:=[.str "5",.str "",.str "a!b~"]) a2 b2;obtain⟨x6,m6,i6⟩:=iu (q:=[.non,.int d7]) a6 b6;obtain⟨x9,m9,i9⟩:=iu (q:=[.str "any",.str "any",.str "near"]) a9 b9;have g1:∃t∈ħ,x1=.str t:=by simp only[t_,K_,or_false]at m1;rcases m1 with rfl|rfl|rfl|rfl<;>exact⟨_,by simp[ħ],rfl⟩
 have g2:∃t∈ĭ,x2=.str t:=by simp only[t_,K_,or_false]at m2;rcases m2 with rfl|rfl|rfl<;>exact⟨_,by simp[ĭ],rfl⟩
 have g6:∃o:Option Int,(∀i,o=Z i->0<=i/\i<=9999)/\x6=eO o:=by
  simp only[t_,K_,or_false]at m6;rcases m6 with rfl|rfl;·exact⟨Y,by simp,rfl⟩
  ·exact⟨Z d7,λi hi=>by cases hi;omega,rfl⟩
 have g9:∃a,(a=b_ "any"\/a=b_ "near")/\x9=.str a:=by
  simp only[t_,K_,or_false]at m9;rcases m9 with rfl|rfl|rfl;·exact⟨_,.inl rfl,rfl⟩
  ·exact⟨_,.inl rfl,rfl⟩
  ·exact⟨_,.inr rfl,rfl⟩
 obtain⟨t,a',rfl⟩:=g1;obtain⟨w,hw,rfl⟩:=g2;obtain⟨o,ho,rfl⟩:=g6;obtain⟨a,hR,rfl⟩:=g9;let n:Note:=⟨t,w,n3,I==0,p5,o,d8==0,a,d+g,d+g+h⟩;have q0:=J.n0;have q1:=J.n1;have gn:à n:=⟨a',hw,me b',P,hR,ho,by show 0<=d+g;omega,by show d+g<=d+g+h;omega,by show d+g+h<=99;omega⟩;let j:Ev:=[Z (.scr e),Z (.int z),Z (.int m),Y,Z (.int (d+g)),Z (.int k),Z (.int b),Z (.str t),Z (.str w),Z (eO o),Z (.bl (I==0)),Z (.tup [.str t,.str w,.str n3,.bl (I==0),.str p5]),Z (.str a),Z (.bl (d8==0)),Z (.int (d+g+h)),Z (Õ n)];have E:=OC (H:=j.set 3 (Z (.lst (p.map Õ)))) J.g gn (by have:=J.l;omega) rfl rfl;have A:k9 (.int 14) (.int k)=Z (.ok (.int (14*k))):=rm (.inl (by omega));have y:bQ ((jb e z m d).set 5 (Z (.int k))) (p.map Õ)=Fa 3 cJ (Bh (X 15)) Hx j (p.map Õ):=by have eB:bQ=(fw (fY 6 (Q cK (Q cK (X 1) (R 1)) (Q k9 (R 14) (X 5)))) (fw (fY 4 (Q cK (X 4) (ae ag 3 (bT (X 0) (X 6) (R 4))))) (fw (fY 7 (Q Î (fj (iE (Ñ "n") (Ñ "m-1") (Ñ "safe-a") (Ñ "N_2"))) (ae ag 3 (bT (X 0) (Q cK (X 6) (R 1)) (R 4))))) (fw (fY 8 (Q Î (fj (bT (Ñ "5") (Ñ "") (Ñ "a!b~"))) (ae ag 3 (bT (X 0) (Q cK (X 6) (R 2)) (R 3))))) (fw (fY 9 (Q Î (fj (bA (fC .non) (ae ag 3 (bT (X 0) (Q cK (X 6) (R 7)) (R 60))))) (ae ag 3 (bT (X 0) (Q cK (X 6) (R 6)) (R 2))))) (fw (fY 10 (Q Þ (ae ag 3 (bT (X 0) (Q cK (X 6) (R 4)) (R 2))) (R 0))) (fw (fY 11 (fW (jf (X 7) (X 8) (ae bj 2 (bA (X 0) (Q cK (X 6) (R 3)))) (X 10) (ae cz 2 (bA (X 0) (Q cK (X 6) (R 5))))))) (fw (fY 12 (Q Î (fj (bT (Ñ "any") (Ñ "any") (Ñ "near"))) (ae ag 3 (bT (X 0) (Q cK (X 6) (R 9)) (R 3))))) (fw (fY 13 (Q Þ (ae ag 3 (bT (X 0) (Q cK (X 6) (R 8)) (R 2))) (R 0))) (fw (fY 14 (Q cK (X 4) (ae ag 3 (bT (X 0) (Q cK (X 6) (R 10)) (R 5))))) (fw (fY 15 (Q cK (X 11) (fW (jf (X 9) (X 13) (X 12) (X 4) (X 14))))) (Fa 3 cJ (Bh (X 15)) Hx)))))))))))):=rfl;rw[eB];subst hh;simp[jb,fw,fY,vv,Ù,ae,aK,cM,X,fC,Q,fW,fj,addT_ii,A,e0,e1,e2,e3,e4,e5,e6,e7,e8,e9,c',i1,i2,i6,i9,Þ,ĩ,j,Õ,n];simp[cK]
 rw[y];cases H:(p.filter (λo=>A_ (key o=key n)))with|nil=>rw[H]at E;refine⟨j,p++[n],d+g,?_,rfl,J.add a0 b0 gn (by show d+g+h<=39;omega) rfl H⟩;unfold Fa;rw[E];show(if(p.map Õ).length<100000 then _ else _)=_;rw[if_pos (by have:=J.l;simp;omega)];show Z (Fo.nx _ (p.map Õ++[Õ n]))=_;simp|cons c r=>rw[H]at E;refine⟨j,p,d+g,?_,rfl,J.keep a0 b0⟩;unfold Fa;rw[E];rfl
theorem uS(j:List Int)(t:j.length<=63)(z m:Int):∀(d:List Int)(i:Ev)(now:Int)(B:Nat)(h:List Note),B+d.length<=10->fgt [5,6,7,8,9,10,11,12,13,14,15] i=jb j z m now->JI B h now->∃b a,mM 5 [5,6,7,8,9,10,11,12,13,14,15] bQ (d.map N.int) i (h.map Õ)=Z (.nx (jb j z m a) (b.map Õ))/\JI (B+d.length) b a|[],i,now,B,h,_,g,J=>⟨h,now,by show Z (Fo.nx _ _)=_;rw[g],J⟩|k::d,i,now,B,h,u,g,J=>by simp only[Q1]at u;obtain⟨f,b,a,e,p,y⟩:=zO j t z m now k J (by omega);obtain⟨r,n,v,w⟩:=uS j t z m d f a (B+1) b (by omega) p y;refine⟨r,n,?_,by rw[Q1,show B+(d.length+1)=B+1+d.length by omega];exact w⟩;show(match bQ ((fgt _ i).set 5 (Z (.int k))) (h.map Õ)with|some (.nx f q)=>mM 5 _ bQ (d.map N.int) f q|o=>o)=_;rw[g,e];exact v
theorem jar_ok(a:List Int)(t:a.length<=63)(z:Int)(m:Nat)(y:m<=8):∃b now,jk [.scr a,.int z,.int m]=Z (.ok (ej b))/\Jar b/\b.length<=m/\JI m b now:=by
 obtain⟨d,E,A,v⟩:=aZ a t z (m+1) (by omega);obtain⟨c,rfl⟩:∃c:Nat,d=(c:Int):=⟨d.toNat,by omega⟩;have u:v7 [.int (c:Int)]=Z (.ok (((rl c).map λi:Nat=>(i:Int)).map N.int)):=by rw[Le (by omega),tR];simp
 obtain⟨b,now,e,J⟩:=uS a t z m ((rl c).map λi:Nat=>(i:Int)) (jb a z m 0) 0 0 [] (by simp;omega) rfl ⟨by simp,U4,by simp,by simp,by omega,by omega,by simp,by simp⟩;have n:((rl c).map λi:Nat=>(i:Int)).length=c:=by simp
 rw[n]at J;have H:=J.l;refine⟨b,now,?_,J.jar (by omega),by omega,⟨J.g,J.s,J.k,by omega,J.n0,by have:=J.n1;omega,J.m,J.u⟩⟩;refine eR (j:=ej b) ?_;show xH 3 cM _ [Z (.scr a),Z (.int z),Z (.int m),Y,Y,Y,Y,Y,Y,Y,Y,Y,Y,Y,Y,Y]=_;have j:(λg=>Ù ((ax (ae ag 3 (bT (X 0) (X 1) (Q cK (X 2) (R 1))))) g) v7) (jb a z m 0)=Z (.ok (((rl c).map λi:Nat=>(i:Int)).map N.int)):=by
  have h:(ax (ae ag 3 (bT (X 0) (X 1) (Q cK (X 2) (R 1))))) (jb a z m 0)=Z (.ok [.int (c:Int)]):=by simp[Ù,aK,cM,ae,fC,X,Q,jb,addT_ii,v]
  exact(DS (k:=v7) h).trans u
 have p:xI 5 [5,6,7,8,9,10,11,12,13,14,15] (λg=>Ù ((ax (ae ag 3 (bT (X 0) (X 1) (Q cK (X 2) (R 1))))) g) v7) bQ (jb a z m 0) []=Z (.nx (jb a z m now) (b.map Õ)):=by unfold xI;rw[j];show(if æ (((rl c).map λi:Nat=>(i:Int)).map N.int)=U then _ else Y)=_;rw[if_pos (rF _)];exact e
 have w:b.length<=100000:=by omega
 have k:xF 3 (ß fX (ax (X 3))) (jb a z m now) (b.map Õ)=Z (.rt (ej b)):=by unfold xF;rw[dr (ac (j:=.lst (b.map Õ)) rfl aj)];rfl
 have f:(fw (fY 4 (R 0)) (fw (xI 5 [5,6,7,8,9,10,11,12,13,14,15] (λg=>Ù ((ax (ae ag 3 (bT (X 0) (X 1) (Q cK (X 2) (R 1))))) g) v7) bQ) (xF 3 (ß fX (ax (X 3)))))) [Z (.scr a),Z (.int z),Z (.int m),Y,Y,Y,Y,Y,Y,Y,Y,Y,Y,Y,Y,Y] []=Z (.rt (ej b)):=by rw[zM (show fY 4 (R 0) [Z (.scr a),Z (.int z),Z (.int m),Y,Y,Y,Y,Y,Y,Y,Y,Y,Y,Y,Y,Y] []=Z (.nx (jb a z m 0) [])from rfl)];rw[zM p];exact k
 unfold xH;show(if([]:List N).length<=100000 then _ else Y)=_;rw[if_pos (by simp)];exact(congrArg (λo=>match o with|some (Fo.nx q r)=>Z (Fl.nx (List.set q 3 (Z (N.lst r))))|some (Fo.rt d)=>Z (Fl.rt d)|none=>Y) f).trans rfl
theorem rG(n:Note):fm [Õ n]=Z (.ok (ek n)):=by simp[fm,bt,Cf,aH,cu,Ù,aK,cM,X,fC,Q,Î,ö,fW,Õ,ek]
theorem rH:∀a:List Note,keysOf (a.map ek)=Z (a.map key)|[]=>rfl|n::a=>by show(match gJ [.str n.nm,.str n.house,.str n.path],keysOf (a.map ek)with|some k,Z b=>Z (k::b)|_,_=>Y)=_;rw[rH a];rfl
theorem CB(J:Jar n):cQ [ej n]=bo U:=by
 have g:=J.l;have e:cq 1 [] (da (X 0)) (gN 0) Y (ae fm 1 (ax (X 0))) [Z (ej n),Y]=Z (.ok (.lst (n.map ek))):=rf Õ ek (gm rfl) (by omega) λa f=>gH fm rfl (rG a);have d:lT [.lst (n.map ek)]=Z (.ok (.int (n.length:Int))):=by show(match keysOf (n.map ek)with|some b=>if b.Nodup/\b.length<=18 then(Z (.ok (.int (b.length:Nat))):Option (Rs N))else Y|none=>Y)=_;rw[rH];dsimp only;rw[if_pos ⟨J.k,by simp;omega⟩,QL]
 refine eR ?_;show cf [Z (ej n),Y]=_;unfold cf;rw[ar (aV (a:=[Z (ej n),Z (.lst (n.map ek))]) e rfl)];refine cH ((bV ((dr (ac (j:=.lst (n.map ek)) rfl aj)).trans d) (δ:=.int n.length) (by show Z (Rs.ok (N.int ((n.map ek).length:Int)))=_;rw[QL])).trans ?_);show Z (Rs.ok (N.bl ((n.length:Int)==(n.length:Int))))=_;simp
theorem all_map(p:υ->Bool)(l:List υ):mK [.lst (l.map λa=>N.bl (p a))]=bo (l.all p):=by unfold mK;dsimp only;rw[mB p l];dsimp only;rw[List.all_map];rfl
theorem uT(l:List υ):mK [.lst (l.map λ_=>N.bl U)]=bo U:=by rw[all_map (λ_=>U) l];simp
theorem LW(h:d<n.length):Î (ej n) (.int d)=Z (.ok (Õ n[d])):=by show(match ö (n.map Õ) (d:Int)with|some a=>_|none=>_)=_;unfold ö;rw[if_pos (by omega)];simp[h]
theorem LX(n:Note):Î (Õ n) (.int 8)=Z (.ok (.int n.md)):=rfl
theorem LY(a:List Note)(d:a.length<=18):(λb=>Ù ((bA (R 1) (ß iC (ax (X 0)))) b) Ab) [Z (ej a)]=Z (.ok ((rl (a.length-1)).map λi:Nat=>N.int (1+(i:Int)))):=by
 have h:(bA (R 1) (ß iC (ax (X 0)))) [Z (ej a)]=Z (.ok [.int 1,.int a.length]):=by simp[Ù,aK,cM,ß,fC,X,ej,iC]
 refine(DS (k:=Ab) h).trans ?_;rw[Ld (by omega),tR,show((a.length:Int)-1).toNat=a.length-1 by omega]
def Pr:Ò:=(Q į (Q Î (Q Î (X 1) (Q xg (X 0) (R 1))) (R 8)) (Q Î (Q Î (X 1) (X 0)) (R 8)))
theorem GY(J:Jar n){i:Nat}(a:i+1<n.length):Pr [Z (.int (1+(i:Int))),Z (ej n)]=Z (.ok (.bl U)):=by
 have b:=J.s i a;have f:Q Î (X 1) (Q xg (X 0) (R 1)) [Z (.int (1+(i:Int))),Z (ej n)]=Z (.ok (Õ n[i])):=by have q:=LW (n:=n) (d:=i) (by omega);rw[show(i:Int)=1+(i:Int)-1 by omega]at q;exact q
 have e:Q Î (X 1) (X 0) [Z (.int (1+(i:Int))),Z (ej n)]=Z (.ok (Õ n[i+1])):=by have q:=LW (n:=n) (d:=i+1) a;rw[show((i+1:Nat):Int)=1+(i:Int)by omega]at q;exact q
 have d:į (.int n[i].md) (.int n[i+1].md)=Z (.ok (.bl U)):=by simp[į,b]
 exact(bV ((bV f rfl).trans (LX _)) ((bV e rfl).trans (LX _))).trans d
theorem OD(J:Jar n):bU [("notes",0)] (λa=>Ù ((bA (R 1) (ß iC (ax (X 0)))) a) Ab) Y Pr [Z (ej n)]=Z (.ok (.lst ((rl (n.length-1)).map λ_=>N.bl U))):=ef (λi:Nat=>N.int (1+(i:Int))) (λ_=>N.bl U) (LY n J.l) (by have:=J.l;rw[Ua];omega) λi b=>GY J (by have:=Rt.mp b;omega)
theorem GZ(J:Jar n):gf [ej n]=bo U:=eR (j:=.bl U) (cH ((dr (ac (OD J) aj)).trans (uT _)))
theorem t_a(J:Jar n):bU [] (da (X 0)) Y (ae fL 1 (ax (X 0))) [Z (ej n)]=Z (.ok (.lst (n.map λ_=>N.bl U))):=ef Õ (λ_=>N.bl U) (gm rfl) (by have:=J.l;omega) λa b=>gH fL rfl (LS (J.g a b))
theorem t_b(J:Jar n):(ÿ (cg (fB (f1 (jt rW) (X 0)))) (fB (Q ō (ß iC (ax (X 0))) (R 20)))) [Z (ej n)]=Z (.ok L):=by
 have a:¬(20<(n.length:Int)):=by have:=J.l;omega
 simp[ÿ,cg,fB,f1,Q,jt,rW,X,Ù,ð,ß,aK,cM,fC,ej,iC,Nl,a]
theorem t_c(J:Jar n):ß mK (ax (bU [] (da (X 0)) Y (ae fL 1 (ax (X 0))))) [Z (ej n)]=bo U:=(dr (ac (t_a J) aj)).trans (uT n)
theorem t_d(J:Jar n):ki [Z (ej n)]=Z (.rt (.bl U)):=by unfold ki;rw[ar (cw (t_b J))];rw[ar (cw (kz (A:=U) (bx (t_c J))))];refine cH ?_;rw[JE (gH gf rfl (GZ J))];exact gH cQ rfl (CB J)
theorem jar_y(J:Jar n):ii [ej n]=bo U:=eR (j:=.bl U) (t_d J)
abbrev zz1:Û:=(jf (X 0) (X 1) (X 2) (X 3) (X 4))
abbrev zz2:Û:=(iE (X 0) (X 2) (X 3) (X 4))
theorem ls(n:Note)(k:Int):bh [Õ n,.int k]=bo (ā n k):=by cases h:n.ends<;>simp[bh,bt,ig,sq,aH,Nf,cu,Ù,ð,X,fC,Q,Î,ö,iD,lP,Õ,eO,ā,h,į]
theorem G0:(ì.all λp=>ì.all λq=>ż (bp [.str p,.str q]))=U:=by lk
theorem OE(h:b∈ì)(a:i∈ì):∃k,bp [.str b,.str i]=bo k:=DN (aS (p:=λi=>ż (bp [.str b,.str i])) (aS (p:=λb=>ì.all λi=>ż (bp [.str b,.str i])) G0 h) a)
def ŉ(p q:Str):Bool:=ļ (aI [.str p,.str q])
def Ž(p q:Str):Bool:=ļ (bp [.str p,.str q])
theorem G9(h:b∈En)(a:i∈En):aI [.str b,.str i]=bo (ŉ b i):=by obtain⟨k,e⟩:=Pl h a;unfold ŉ;rw[e];cases k<;>rfl
theorem LZ(h:b∈ì)(a:i∈ì):bp [.str b,.str i]=bo (Ž b i):=by obtain⟨k,e⟩:=OE h a;unfold Ž;rw[e];cases k<;>rfl
def Ai(o N:Note)(a:Int):Bool:=o.S&&(!ā o a&&(seq o.nm N.nm&&((ŉ N.house o.house||ŉ o.house N.house)&&Ž N.path o.path)))
theorem i0(n:Note):Î (Õ n) (.int 0)=Z (.ok (.str n.nm)):=rfl
theorem i2(n:Note):Î (Õ n) (.int 2)=Z (.ok (.str n.house)):=rfl
theorem i4(n:Note):Î (Õ n) (.int 4)=Z (.ok (.str n.path)):=rfl
theorem i6(n:Note):Î (Õ n) (.int 6)=Z (.ok (.bl n.S)):=rfl
theorem DT(a:Μ H=Z (.ok A)):aA (ba Μ (aH (fC (.bl L))) (λH=>Z (.nx H))) Ο H=if A=U then Z (.rt (.bl L))else Ο H:=by unfold aA ba;rw[a];cases A<;>rfl
theorem zP{b:ã}(d:Μ H=Z (.ok A))(a:b H=Z (.ok Χ)):lN Μ b H=Z (.ok (A&&Χ)):=by
 unfold lN;rw[d];cases A;·rfl
 ·exact a
theorem gp(a:Μ H=Z (.ok A)):cg Μ H=Z (.ok (!A)):=by unfold cg;rw[a];rfl
theorem vZ{N:Note}(b:à ν)(d:à N)(a:Int):iU [Õ ν,Õ N,.int a]=bo (Ai ν N a):=by have f:=G9 d.house b.house;have e:=G9 b.house d.house;have g:=LZ d.path b.path;have i:(ÿ (cg (fB (Q Î (X 0) (R 6)))) (ÿ (fB (ae bh 2 (bA (X 0) (X 2)))) (fB (Q Ě (Q Î (X 0) (R 0)) (Q Î (X 1) (R 0)))))) [Z (Õ ν),Z (Õ N),Z (.int a)]=Z (.ok (!ν.S||(ā ν a||!seq ν.nm N.nm))):=nU (gp (bx (A:=ν.S) ((bV (j:=Õ ν) (δ:=.int 6) rfl rfl).trans (i6 ν)))) (nU (bx (dw bh rfl rfl (ls ν a))) (bx ((bV (j:=.str ν.nm) (δ:=.str N.nm) rfl rfl).trans rfl)));have h:(lN (cg (fB (ae aI 2 (bA (Q Î (X 1) (R 2)) (Q Î (X 0) (R 2)))))) (cg (fB (ae aI 2 (bA (Q Î (X 0) (R 2)) (Q Î (X 1) (R 2))))))) [Z (Õ ν),Z (Õ N),Z (.int a)]=Z (.ok (!ŉ N.house ν.house&&!ŉ ν.house N.house)):=zP (gp (bx (dw aI rfl rfl f))) (gp (bx (dw aI rfl rfl e)));refine eR ?_;show iT [Z (Õ ν),Z (Õ N),Z (.int a)]=_;unfold iT;rw[DT i,DT h,GL (dw bp rfl rfl g)];unfold Ai;cases ν.S<;>cases ā ν a<;>cases seq ν.nm N.nm<;>cases ŉ N.house ν.house<;>cases ŉ ν.house N.house<;>rfl
theorem zQ(p:υ->Bool)(l:List υ):Fw [.lst (l.map λa=>N.bl (p a))]=bo (l.any p):=by show(match jr (l.map λa=>N.bl (p a))with|some bs=>Z (Rs.ok (N.bl (bs.any id)))|none=>Y)=_;rw[mB];simp
def wv(e:N)(s:Bool)(f:List Note)(a:Note)(b:Int):N:=match e with|.non=>if(!s&&f.any λo=>Ai o a b)=U then .str "shadowed"else if ā a b=U then .str "gone"else .str "kept"|d=>d
theorem DU(a:Μ H=Z (.ok A)):aA (ba Μ (aH (fC j)) (λH=>Z (.nx H))) Ο H=if A=U then Z (.rt j)else Ο H:=by unfold aA ba;rw[a];cases A<;>rfl
theorem word_x{w:Str}{R:Str}{a d:Str}{o:Bool}{f:N}(W:Wt q b i j θ w δ ι Γ À A R Χ a d o f)(m:f≠.non):bq [.tup q,ej n,á Χ b i j,Ā θ w δ ι Γ À A R,.int k]=Z (.ok f):=by
 obtain⟨x,h⟩:∃x,f=.str x:=by
  rcases W.win with e|⟨x,_,e⟩;·exact absurd e m
  ·exact⟨_,e⟩
 subst h;refine kU ?_;show eI [Z (.tup q),Z (ej n),Z (á Χ b i j),Z (Ā θ w δ ι Γ À A R),Z (.int k),Y,Y]=_;unfold eI;have g:av bE 3 (bT (X 0) (X 2) (X 3)) [Z (.tup q),Z (ej n),Z (á Χ b i j),Z (Ā θ w δ ι Γ À A R),Z (.int k),Y,Y]=Z (.ok (.str x)):=cE bE (ac rfl (ac rfl (ac rfl aj))) rfl W.why;rw[ar (aV g rfl)];simp only[SZ,SY];rfl
theorem word_y{w:Str}{d:Str}{f h:Str}{m:Bool}(y:q∈jo å)(a:Ak b i j)(g:Gv θ w δ ι Γ À A d)(v:0<=k)(u:k<=9999)(W:Wt q b i j θ w δ ι Γ À A d Χ f h m .non)(E:Õ ν=ZX θ w f m h (Cz Γ À k) A d k)(I:à ν)(H:∀e∈n,à e)(hl:n.length<=18):bq [.tup q,ej n,á Χ b i j,Ā θ w δ ι Γ À A d,.int k]=Z (.ok (wv .non Χ n ν k)):=by
 have p:=zL y a g v u W;rw[<-E]at p;refine kU ?_;show eI [Z (.tup q),Z (ej n),Z (á Χ b i j),Z (Ā θ w δ ι Γ À A d),Z (.int k),Y,Y]=_;unfold eI;have t:av bE 3 (bT (X 0) (X 2) (X 3)) [Z (.tup q),Z (ej n),Z (á Χ b i j),Z (Ā θ w δ ι Γ À A d),Z (.int k),Y,Y]=Z (.ok .non):=cE bE (ac rfl (ac rfl (ac rfl aj))) rfl W.why;rw[ar (aV t rfl)];simp only[SZ,SY];rw[ar (cw (show fB (Q lP (X 5) (fC .non)) [Z (.tup q),Z (ej n),Z (á Χ b i j),Z (Ā θ w δ ι Γ À A d),Z (.int k),Z .non,Y]=Z (.ok L)from rfl))];have r:av dF 4 (iE (X 0) (X 2) (X 3) (X 4)) [Z (.tup q),Z (ej n),Z (á Χ b i j),Z (Ā θ w δ ι Γ À A d),Z (.int k),Z .non,Y]=Z (.ok (Õ ν)):=cE dF (ac rfl (ac rfl (ac rfl (ac rfl aj)))) rfl p;rw[ar (aV r rfl)];simp only[SZ,SY];have c1:(lN (cg (fB (Q Î (X 2) (R 0)))) (fB (ß Fw (ax (bU [("now",4),("note",6)] (da (X 1)) Y (ae iU 3 (bT (X 0) (X 2) (X 1)))))))) [Z (.tup q),Z (ej n),Z (á Χ b i j),Z (Ā θ w δ ι Γ À A d),Z (.int k),Z .non,Z (Õ ν)]=Z (.ok (!Χ&&n.any λo=>Ai o ν k)):=by refine zP (gp (bx (A:=Χ) rfl)) (bx ((dr (ac (j:=.lst (n.map λo=>N.bl (Ai o ν k))) ?_ aj)).trans (zQ _ _)));exact ef Õ (λo=>N.bl (Ai o ν k)) (gm rfl) (by omega) λo z=>rp iU rfl rfl rfl (vZ (H o z) I k)
 rw[DU c1];have P:fB (ae bh 2 (bA (X 6) (X 4))) [Z (.tup q),Z (ej n),Z (á Χ b i j),Z (Ā θ w δ ι Γ À A d),Z (.int k),Z .non,Z (Õ ν)]=Z (.ok (ā ν k)):=bx (dw bh rfl rfl (ls ν k));rw[DU P];show _=Z (Fl.rt (if(!Χ&&n.any λo=>Ai o ν k)=U then .str "shadowed"else if ā ν k=U then .str "gone"else .str "kept"));split;·rfl
 ·split<;>rfl
def Ha(a:List Note)(n:Note):List Note:=match a.filter (λo=>A_ (key o=key n))with|[]=>a++[n]|o::_=>a.map λx=>if key x=key n then{n with md:=o.md}else x
theorem L3(m:∀o∈n,à o)(v:à ν)(y:n.length<=18):Cg [ej n,Õ ν]=Z (.ok (ej (Ha n ν))):=by have k:∀o∈n,∀(r:Ev),(fB (Q Þ (ae fm 1 (ax (X 0))) (ae fm 1 (ax (X 1))))) (Z (Õ o)::Z (Õ ν)::r)=Z (.ok (A_ (key o=key ν))):=λo b r=>bx ((bV (gH fm rfl (rG o)) (gH fm rfl (rG ν))).trans (GW (m o b) v).1);have g:=kT (d:=[("note",1)]) (ε:=da (X 0)) (Μ:=(fB (Q Þ (ae fm 1 (ax (X 0))) (ae fm 1 (ax (X 1)))))) (y:=X 0) (H:=[Z (ej n),Z (Õ ν),Y,Y]) Õ (λo=>A_ (key o=key ν)) Õ (gm rfl) (by omega) λo b=>⟨k o b [],rfl⟩;unfold Ha;cases f:n.filter (λo=>A_ (key o=key ν))with
 |nil=>
 rw[f]at g;refine eR (j:=ej (n++[ν])) ?_;show sP [Z (ej n),Z (Õ ν),Y,Y]=_;unfold sP;rw[ar (aV g rfl)];simp only[SZ,SY];refine lQ ?_;rw[Ca (by lk)];refine cH ?_;have j:n.length+1<=100000:=by omega
 simp[Ù,aK,cM,X,Q,fW,ej,cK,j]|cons o rest=>
 rw[f]at g;have b:o∈n:=(Rp.mp (f▸q_:o∈n.filter _)).1;refine eR (j:=ej (n.map λx=>if key x=key ν then{ν with md:=o.md}else x)) ?_;show sP [Z (ej n),Z (Õ ν),Y,Y]=_;unfold sP;rw[ar (aV g rfl)];simp only[SZ,SY];have i:(fB (Q Þ (X 2) (fj cM))) [Z (ej n),Z (Õ ν),Z (.lst ((o::rest).map Õ)),Y]=Z (.ok L):=by
  have q:ē 2 (.lst ((o::rest).map Õ)):=rh λd u=>by
   obtain⟨x,h,rfl⟩:=QW.mp u;have:x∈n.filter (λo=>A_ (key o=key ν)):=by rw[f];exact h
   exact rE (m x (Rp.mp this).1)
  have i2:=q.okP (by omega);have p:okP (.lst [])=U:=by lk
  have i4:Þ (.lst ((o::rest).map Õ)) (.lst [])=bo L:=by unfold Þ;rw[show ĩ (.lst ((o::rest).map Õ)) (.lst [])=Y from rfl,i2,p];simp[ei,ç,Rn,SS]
  exact bx i4
 rw[ar (cw i)];have a:(Q cK (Q cK (ju (X 1) fA (dk (R 8))) (fW (ax (Q Î (Q Î (X 2) (R 0)) (R 8))))) (ju (X 1) (dk (Q cK (R 8) (R 1))) fA)) [Z (ej n),Z (Õ ν),Z (.lst ((o::rest).map Õ)),Y]=Z (.ok (Õ {ν with md:=o.md})):=by lk
 rw[ar (aV a rfl)];simp only[SZ,SY];refine cH ?_;have w:=ef (d:=[("note",1),("newer",3)]) (ε:=da (X 0)) (y:=(ĺ (fB (Q Þ (ae fm 1 (ax (X 0))) (ae fm 1 (ax (X 1))))) (X 2) (X 0))) (H:=[Z (ej n),Z (Õ ν),Z (.lst ((o::rest).map Õ)),Z (Õ {ν with md:=o.md})]) Õ (λx=>Õ (if key x=key ν then{ν with md:=o.md}else x)) (gm rfl) (by omega) λx h=>by
  have t:=k x h [Z (Õ {ν with md:=o.md})];by_cases e:key x=key ν;·rw[if_pos e];rw[decide_eq_true e]at t;exact(Nx t).trans rfl
  ·rw[if_neg e];rw[decide_eq_false e]at t;exact(Ny t).trans rfl
 rw[dr (ac w aj)];show Z (Rs.ok (N.tup _))=_;simp[ej]
def Č(b:List Note)(a:Int):List Note:=b.filter λn=>!ā n a
theorem nV(d:n.length<=18):bF [ej n,.int k]=Z (.ok (ej (Č n k))):=by refine eR ?_;show cX [Z (ej n),Z (.int k)]=_;unfold cX;refine cH ?_;have e:(bU [("now",1)] (da (X 0)) (Z (cg (fB (ae bh 2 (bA (X 0) (X 1)))))) (X 0)) [Z (ej n),Z (.int k)]=Z (.ok (.lst ((Č n k).map Õ))):=kn Õ _ Õ (gm rfl) (by omega) λa b=>⟨gp (bx (dw bh rfl rfl (ls a k))),rfl⟩;exact(dr (ac e aj)).trans rfl
def E8(T:N)(f:List Note)(A g:N)(a:Int)(e d b:Option N):Ev:=[Z T,Z (ej f),Z A,Z g,Z (.int a),e,d,b]
theorem pB(e:n.length<=18)(d:bq [j,ej n,δ,ι,.int k]=Z (.ok Γ)){f:Ö}{r:Option Fl}(h:f (E8 j n δ ι k (Z Γ) (Z (ej (Č n k))) Y)=r):aA (bI 5 (av bq 5 zz1)) (aA (bI 6 (ae bF 2 (bA (X 1) (X 4)))) f) (E8 j n δ ι k Y Y Y)=r:=by have b:bI 5 (av bq 5 zz1) (E8 j n δ ι k Y Y Y)=Z (.nx (E8 j n δ ι k (Z Γ) Y Y)):=aV (cE bq (ac rfl (ac rfl (ac rfl (ac rfl (ac rfl aj))))) rfl d) rfl;have a:bI 6 (ae bF 2 (bA (X 1) (X 4))) (E8 j n δ ι k (Z Γ) Y Y)=Z (.nx (E8 j n δ ι k (Z Γ) (Z (ej (Č n k))) Y)):=aV (dw bF rfl rfl (nV e)) rfl;rw[ar b,ar a];exact h
theorem zR:(Č n k).length<=n.length:=RJ _ _
theorem jq(b:n.length<=18)(a:bq [j,ej n,δ,ι,.int k]=Z (.ok Γ))(d:Þ Γ (.str "kept")=bo L)(e:Þ Γ (.str "gone")=bo L):bw [j,ej n,δ,ι,.int k]=Z (.ok (ej (Č n k))):=by refine kU ?_;show de (E8 j n δ ι k Y Y Y)=_;unfold de;refine pB b a ?_;have g:fB (Q Þ (X 5) (Ñ "kept")) (E8 j n δ ι k (Z Γ) (Z (ej (Č n k))) Y)=Z (.ok L):=bx ((bV (j:=Γ) (δ:=.str "kept") rfl rfl).trans d);have f:fB (Q Þ (X 5) (Ñ "gone")) (E8 j n δ ι k (Z Γ) (Z (ej (Č n k))) Y)=Z (.ok L):=bx ((bV (j:=Γ) (δ:=.str "gone") rfl rfl).trans e);rw[ar (cw g),ar (cw f)];rfl
theorem mG(b:n.length<=18)(f:∀a∈n,à a)(g:à ν)(d:bq [j,ej n,δ,ι,.int k]=Z (.ok (.str "kept")))(h:dF [j,δ,ι,.int k]=Z (.ok (Õ ν))):bw [j,ej n,δ,ι,.int k]=Z (.ok (ej (Ha (Č n k) ν))):=by refine kU ?_;show de (E8 j n δ ι k Y Y Y)=_;unfold de;refine pB b d ?_;have i:fB (Q Þ (X 5) (Ñ "kept")) (E8 j n δ ι k (Z (.str "kept")) (Z (ej (Č n k))) Y)=Z (.ok U):=bx ((bV (j:=.str "kept") (δ:=.str "kept") rfl rfl).trans (by lk));refine lQ ?_;rw[Ca i];have v:av dF 4 zz2 (E8 j n δ ι k (Z (.str "kept")) (Z (ej (Č n k))) Y)=Z (.ok (Õ ν)):=cE dF (ac rfl (ac rfl (ac rfl (ac rfl aj)))) rfl h;exact cH (dw Cg rfl v (L3 (λo e=>f o (Rp.mp e).1) g (QV zR b)))
theorem OF{o:Note}(a:à o)(b:à ν):Ě (ek o) (ek ν)=bo (!A_ (key o=key ν)):=(GW a b).2
theorem mH(b:n.length<=18)(h:∀a∈n,à a)(i:à ν)(f:bq [j,ej n,δ,ι,.int k]=Z (.ok (.str "gone")))(m:dF [j,δ,ι,.int k]=Z (.ok (Õ ν))):bw [j,ej n,δ,ι,.int k]=Z (.ok (ej ((Č n k).filter λo=>!A_ (key o=key ν)))):=by have r:(Č n k).length<=18:=QV zR b;refine kU ?_;show de (E8 j n δ ι k Y Y Y)=_;unfold de;refine pB b f ?_;have q:fB (Q Þ (X 5) (Ñ "kept")) (E8 j n δ ι k (Z (.str "gone")) (Z (ej (Č n k))) Y)=Z (.ok L):=bx ((bV (j:=.str "gone") (δ:=.str "kept") rfl rfl).trans (by lk));have p:fB (Q Þ (X 5) (Ñ "gone")) (E8 j n δ ι k (Z (.str "gone")) (Z (ej (Č n k))) Y)=Z (.ok U):=bx ((bV (j:=.str "gone") (δ:=.str "gone") rfl rfl).trans (by lk));rw[ar (cw q)];refine lQ ?_;rw[Ca p];have v:av dF 4 zz2 (E8 j n δ ι k (Z (.str "gone")) (Z (ej (Č n k))) Y)=Z (.ok (Õ ν)):=cE dF (ac rfl (ac rfl (ac rfl (ac rfl aj)))) rfl m;have d:bI 7 (ae fm 1 (ax (av dF 4 zz2))) (E8 j n δ ι k (Z (.str "gone")) (Z (ej (Č n k))) Y)=Z (.nx (E8 j n δ ι k (Z (.str "gone")) (Z (ej (Č n k))) (Z (ek ν)))):=aV (gH fm v (rG ν)) rfl;rw[ar d];refine cH ?_;have e:(bU [("ended",7)] (da (X 6)) (Z (fB (Q Ě (ae fm 1 (ax (X 0))) (X 1)))) (X 0)) (E8 j n δ ι k (Z (.str "gone")) (Z (ej (Č n k))) (Z (ek ν)))=Z (.ok (.lst (((Č n k).filter λo=>!A_ (key o=key ν)).map Õ))):=kn Õ (λo=>!A_ (key o=key ν)) Õ (gm rfl) (by omega) λo g=>⟨bx ((bV (j:=ek o) (δ:=ek ν) (gH fm rfl (rG o)) rfl).trans (OF (h o (Rp.mp g).1) i)),rfl⟩;exact(dr (ac e aj)).trans rfl
theorem CF(h:ii [j]=bo U):aW [j]=Z (.ok .non):=by simp[aW,dL,ij,ba,cu,Ù,cg,fB,ð,ae,aK,cM,X,h]
theorem dY(F:Ï){a:N}{f:Ò}{b:Ev}(d:f b=Z (.ok a))(h:F [a]=Z (.ok .non)):cU (av F 1 (ax f)) b=Z (.nx b):=jZ (cE F (ac d aj) rfl h)
theorem dX(F:Ï){a:N}{f:Ò}{b:Ev}(e:f b=Z (.ok a))(h:F [a]=Z (.exc d)):cU (av F 1 (ax f)) b=Z (.exc d):=ME (cE F (ac e aj) rfl h)
def E6(T b A X a:N)(x:Option N):Ev:=[Z T,Z b,Z A,Z X,Z a,x]
theorem rwy(g:cD [j]=bo U)(f:ii [Γ]=bo U)(e:cy [δ]=bo U){a:N}(d:aB [ι]=Z (.ok a))(h:bc [À]=bo U):ao [j,Γ,δ,ι,À]=Z (.ok a):=kU (by show aM (E6 j Γ δ ι À Y)=_;unfold aM;rw[ar (dY aL rfl (Cp g)),ar (dY aW rfl (CF f)),ar (dY bg rfl (Lp e))];have b:bI 5 (av aB 1 (ax (X 3))) (E6 j Γ δ ι À Y)=Z (.nx (E6 j Γ δ ι À (Z a))):=aV (cE aB (ac rfl aj) rfl d) rfl;rw[ar b,ar (dY aT rfl (Cq h))];rfl)
def E7(T:N)(e:List Note)(A X:N)(a:Int)(d b:Option N):Ev:=[Z T,Z (ej e),Z A,Z X,Z (.int a),d,b]
theorem Hb{b a:_}(g:b.length<=18){e d:Option N}:fB (ß Fw (ax (bU [("now",4)] (da (X 1)) Y (Q ō (Q Î (X 0) (R 9)) (X 1))))) (E7 j b δ ι a e d)=Z (.ok (b.any λo=>A_ (o.us>a))):=by refine bx ((dr (ac (j:=.lst (b.map λo=>N.bl (A_ (o.us>a)))) ?_ aj)).trans (zQ _ _));exact ef Õ (λo=>N.bl (A_ (o.us>a))) (gm rfl) (by omega) λo f=>(bV (j:=.int o.us) (δ:=.int a) rfl rfl).trans rfl
theorem s5T{b a d:_}(e:ao [j,ej b,δ,ι,.int a]=Z (.ok d)):bI 5 (av ao 5 zz1) (E7 j b δ ι a Y Y)=Z (.nx (E7 j b δ ι a (Z d) Y)):=aV (cE ao (ac rfl (ac rfl (ac rfl (ac rfl (ac rfl aj))))) rfl e) rfl
theorem taken_of{b a e:_}(m:b.length<=18)(k:ao [j,ej b,δ,ι,.int a]=Z (.ok e))(h:(b.any λo=>A_ (o.us>a))=L)(i:bw [j,ej b,δ,e,.int a]=Z (.ok (ej n)))(q:n.length<=20):io [j,ej b,δ,ι,.int a]=Z (.ok (ej n)):=kU (by
 show kj (E7 j b δ ι a Y Y)=_;unfold kj;rw[ar (s5T k)];have c:=Hb (j:=j) (δ:=δ) (ι:=ι) (a:=a) (e:=Z e) (d:=Y) m;rw[h]at c;rw[ar (cw c)];have f:bI 6 (av bw 5 (jf (X 0) (X 1) (X 2) (X 5) (X 4))) (E7 j b δ ι a (Z e) Y)=Z (.nx (E7 j b δ ι a (Z e) (Z (ej n)))):=aV (cE bw (ac rfl (ac rfl (ac rfl (ac rfl (ac rfl aj))))) rfl i) rfl;have g:aR [ej n]=Z (.ok .non):=by
  have:¬((n.length:Int)>20):=by omega
  unfold aR dL;show(match aQ [Z (ej n)]with|some (.nx _)=>Z (Rs.ok N.non)|some (.rt d)=>Z (Rs.ok d)|some (.exc c)=>Z (Rs.exc c)|none=>Y)=_;unfold aQ;have p:fB (Q ō (ß iC (ax (X 0))) (R 20)) [Z (ej n)]=Z (.ok L):=by
   refine bx ((bV (j:=.int (n.length:Int)) (δ:=.int 20) ((dr (ac (j:=ej n) rfl aj)).trans ?_) rfl).trans ?_);·show Z (Rs.ok (N.int ((n.map Õ).length:Int)))=_;rw[QL]
   ·show Z (Rs.ok (N.bl (A_ ((n.length:Int)>20))))=_;rw[decide_eq_false this]
  rw[cw p]
 rw[ar f,ar (dY aR rfl g)];rfl)
theorem OG(g:Gv b i j δ ι Γ A θ)(f:0<=k):∃e:Option Int,eO e=Cz ι Γ k/\∀a,e=Z a->0<=a/\a<=9999:=by
 rcases LR g f with q|⟨a,o,n,q⟩;·exact⟨Y,q.symm,λa m=>by cases m⟩
 ·exact⟨Z a,q.symm,λd h=>by cases h;exact⟨o,n⟩⟩
theorem note_of{w:Str}{R:Str}{d f:Str}{h:Bool}{n:N}(g:Gv θ w δ ι Γ À A R)(W:Wt q b i j θ w δ ι Γ À A R Χ d f h n)(m:0<=k)(o:k<=99):∃a:Note,Õ a=ZX θ w d h f (Cz Γ À k) A R k/\à a/\a.us=k:=by obtain⟨e,p,r⟩:=OG (k:=k) g m;refine⟨⟨θ,w,d,h,f,e,A,R,k,k⟩,?_,⟨g.nm,g.w,W.hs,W.ph,g.r,r,m,Int.le_refl _,o⟩,rfl⟩;show N.tup [.str θ,.str w,.str d,.bl h,.str f,eO e,.bl A,.str R,.int k,.int k]=_;rw[p]
open TS
structure AW(h p:Str)(O:N):Prop where
 hn:h∈En
 pn:cA [.str p]=bo U
 o:O=.non\/∃o∈Ć,O=.str o
 un:∀q∈ì,bp [.str p,.str q]=bo (Ž p q)
theorem aw_of(a:Ak b i j):AW b i j:=⟨a.h,MF a.p,a.o,λq d=>LZ a.p d⟩
noncomputable def py(p:Str):Str:=p++b_ "/y"
theorem L4(a:AW b i j):cy [á A b i j]=bo U:=by
 have f:bN [.tup [.bl A,.str b,.str i,j],.int 4]=bo U:=by lk
 have e:=HH a.hn;have d:=a.pn;rcases a.o with rfl|⟨o,g,rfl⟩;·simp[cy,bt,ic,aA,sq,ba,aH,cu,Ù,cg,fB,ð,ae,aK,cM,X,fC,f1,Q,Î,ö,Ġ,fj,ß,Ą,jt,ez,f,e,d,mK,jr]
 ·have h:=HH (me g);simp[cy,bt,ic,aA,sq,ba,aH,cu,Ù,cg,fB,ð,ae,aK,cM,X,fC,f1,Q,Î,ö,Ġ,fj,ß,Ą,jt,ez,f,e,d,h,mK,jr]
theorem near_w(d:q∈jo å){h:Str}{O:N}(m:h∈En)(i:O=.non\/∃o∈Ć,O=.str o):∃k,(O=.non->k=U)/\∀s p,al [.tup q,á s h p O]=bo k:=by
 rcases i with rfl|⟨o,j,rfl⟩;·exact⟨U,λ_=>rfl,λs p=>by simp[al,bt,aG,aA,sq,ba,aH,bI,cu,Ù,ÿ,fB,ð,X,fC,Q,Î,ö,Ą]⟩
 ·obtain⟨w,u,_,r,b⟩:=vX d m;obtain⟨v,t,_,n,e⟩:=vX d (me j);cases a:seq o h with|true=>exact⟨U,λ_=>rfl,λs p=>by simp[al,bt,aG,aA,sq,ba,aH,bI,cu,Ù,ÿ,fB,ð,X,fC,Q,Î,ö,Ą,Þ,ĩ,a]⟩|false=>
 rcases r with rfl|⟨g,rfl⟩;·exact⟨L,(λz=>nomatch z),λs p=>by simp[al,bt,aG,aA,sq,ba,aH,bI,cu,Ù,ÿ,fB,ð,ae,aK,cM,X,fC,Q,Î,ö,iD,Ą,lP,Þ,ĩ,a,b]⟩
 · rcases n with rfl|⟨f,rfl⟩;·exact⟨L,(λz=>nomatch z),λs p=>by simp[al,bt,aG,aA,sq,ba,aH,bI,cu,Ù,ÿ,fB,ð,ae,aK,cM,X,fC,Q,Î,ö,iD,Ą,lP,Þ,ĩ,a,b,e]⟩
   ·exact⟨seq g f,(λz=>nomatch z),λs p=>by simp[al,bt,aG,aA,sq,ba,aH,bI,cu,Ù,ÿ,fB,ð,ae,aK,cM,X,fC,Q,Î,ö,iD,Ą,lP,Þ,ĩ,a,b,e]⟩
theorem CG(x y:Str):seq x y=seq y x:=by unfold seq;rw[RH];simp;exact⟨λh=>h.symm,λh=>h.symm⟩
def gB(b:Bool)(n:Note)(s:Bool)(h p:Str)(a:Int):Bool:=!ā n a&&(if n.ex=U then seq h n.house else ŉ h n.house)&&Ž p n.path&&(!(n.S&&!s))&&(seq n.R (b_ "any")||b)
theorem zS(a:Μ H=Z (.ok A)):aA (ba Μ (aH (fC (.bl L))) (λH=>Z (.nx H))) Ο H=if A=U then Z (.rt (.bl L))else Ο H:=by unfold aA ba;rw[a];cases A<;>rfl
theorem L5(g:à ν)(a:AW b i j)(v:∀Χ i,al [.tup q,á Χ b i j]=bo A):qX [.tup q,Õ ν,á Χ b i j,.int k]=bo (gB A ν Χ b i k):=by
 have o:=G9 a.hn g.house;have p:=a.un ν.path g.path;have r:Þ (.str ν.house) (.str b)=bo (seq b ν.house):=by rw[CG];rfl
 have w:=ls ν k;have h:=v Χ i;obtain⟨e,f⟩:∃d,d=á Χ b i j:=⟨_,rfl⟩;have i0:Î e (.int 0)=Z (.ok (.bl Χ)):=by rw[f];rfl
 have t:Î e (.int 1)=Z (.ok (.str b)):=by rw[f];rfl
 have i2:Î e (.int 2)=Z (.ok (.str i)):=by rw[f];rfl
 rw[<-f]at h⊢;have f1:jm [Õ ν,.str b]=bo (if ν.ex=U then seq b ν.house else ŉ b ν.house):=by cases u:ν.ex<;>simp[jm,bt,lm,aA,sq,ba,aH,cu,Ù,fB,ð,ae,aK,cM,X,fC,Q,Î,ö,Õ,u,r,o]
 have z:(lN (fB (Q Î (X 1) (R 6))) (cg (fB (Q Î (X 2) (R 0))))) [Z (.tup q),Z (Õ ν),Z e,Z (.int k)]=Z (.ok (ν.S&&!Χ)):=zP (bx (A:=ν.S) rfl) (gp (bx ((bV (j:=e) (δ:=.int 0) rfl rfl).trans i0)));have n:Q Þ (Q Î (X 1) (R 7)) (Ñ "any") [Z (.tup q),Z (Õ ν),Z e,Z (.int k)]=bo (seq ν.R (b_ "any")):=(bV (j:=.str ν.R) (δ:=.str "any") rfl rfl).trans rfl;have H:(ÿ (fB (ae bh 2 (bA (X 1) (X 3)))) (cg (fB (ae jm 2 (bA (X 1) (Q Î (X 2) (R 1))))))) [Z (.tup q),Z (Õ ν),Z e,Z (.int k)]=Z (.ok (ā ν k||!(if ν.ex=U then seq b ν.house else ŉ b ν.house))):=nU (bx (dw bh rfl rfl w)) (gp (bx (dw jm rfl ((bV (j:=e) (δ:=.int 1) rfl rfl).trans t) f1)));have E:(cg (fB (ae bp 2 (bA (Q Î (X 2) (R 2)) (Q Î (X 1) (R 4)))))) [Z (.tup q),Z (Õ ν),Z e,Z (.int k)]=Z (.ok (!Ž i ν.path)):=gp (bx (dw bp ((bV (j:=e) (δ:=.int 2) rfl rfl).trans i2) rfl p));have y:(Ġ (Q Þ (Q Î (X 1) (R 7)) (Ñ "any")) (ae al 2 (bA (X 0) (X 2)))) [Z (.tup q),Z (Õ ν),Z e,Z (.int k)]=bo (seq ν.R (b_ "any")||A):=by
  have m:ae al 2 (bA (X 0) (X 2)) [Z (.tup q),Z (Õ ν),Z e,Z (.int k)]=bo A:=dw al rfl rfl h;unfold Ġ;rw[n];cases seq ν.R (b_ "any");·exact m
  ·rfl
 refine eR ?_;show qW [Z (.tup q),Z (Õ ν),Z e,Z (.int k)]=_;unfold qW;rw[zS H,zS E,zS z,GL y];unfold gB;cases ā ν k<;>cases(if ν.ex=U then seq b ν.house else ŉ b ν.house)<;>cases Ž i ν.path<;>cases(ν.S&&!Χ)<;>rfl
def gon(b:Bool)(d:List Note)(s:Bool)(h p:Str)(a:Int):List Note:=d.filter λn=>gB b n s h p a
theorem zT(n:Note):ĝ (Õ n)=U:=by unfold Õ;cases h:n.ends<;>simp[ĝ,æ,eO]
theorem uU:∀a:List Note,æ (a.map Õ)=U|[]=>by simp[æ]|n::a=>by simp[æ,zT n,uU a]
noncomputable def kp(n:Note):Int:=-(n.path.length:Int)
theorem Hc:(ì.all λp=>A_ (p.length<=100000))=U:=by lk
theorem OH(g:à ν):HF 1 (f1 AG (ß iC (ax (Q Î (X 0) (R 4))))) [Õ ν]=Z (.ok (.int (kp ν))):=by
 have h:ν.path.length<=100000:=by simpa using aS (p:=λp:Str=>A_ (p.length<=100000)) Hc g.path
 show f1 AG (ß iC (ax (Q Î (X 0) (R 4)))) [Z (Õ ν)]=_;have e:iC [.str ν.path]=Z (.ok (.int (ν.path.length:Int))):=by show(if ν.path.length<=100000 then Z (Rs.ok (N.int (ν.path.length:Int)))else Y)=_;rw[if_pos h]
 exact(Nw ((dr (ac (j:=.str ν.path) rfl aj)).trans e)).trans rfl
theorem nW{F:Ï}:∀{l:List Note},(∀n∈l,F [Õ n]=Z (.ok (.int (kp n))))->iJ F (l.map Õ)=Z (l.map kp)|[],_=>rfl|n::l,h=>by show(match F [Õ n],iJ F (l.map Õ)with|some (.ok (.int k)),Z a=>Z (k::a)|_,_=>Y)=_;rw[h n q_,nW λm b=>h m (on _ b)];rfl
def snt(l:List Note):List Note:=isortB (λa b=>!A_ (kp b<kp a)) l
theorem pC(l:List Note):(snt l).Perm l:=isortB_perm _ _
theorem CH(h:∀d∈n,ψ [Õ d]=Z (.ok (.int (kp d))))(g:n.length<64):vD ψ [.lst (n.map Õ)]=Z (.ok (.lst ((snt n).map Õ))):=by
 show(match iJ ψ (n.map Õ)with|some f=>if f.length<64/\æ (n.map Õ)=U then Z (Rs.ok (N.lst (iK f (n.map Õ))))else Y|none=>Y)=_;rw[nW h];dsimp only;rw[if_pos ⟨by simpa using g,uU n⟩];unfold iK snt;have e:(n.map kp).zip (n.map Õ)=n.map λd=>(kp d,Õ d):=by clear h g;induction n with|nil=>rfl|cons d n i=>rw[QU,QU,TN,i];rfl
 rw[e,<-oJ (i:=λa b=>!A_ (kp b<kp a)) (λd=>(kp d,Õ d)) n λ_ _ _ _=>rfl,Tg];rfl
theorem a4{k m:Ò}(h:y H=Z (.ok j))(d:È H=Z (.ok δ))(a:k H=Z (.ok ι))(b:m H=Z (.ok Γ)):iE y È k m H=Z (.ok [j,δ,ι,Γ]):=ac h (ac d (ac a (ac b aj)))
theorem ZR(F:Ï){f g k m:Ò}{e:Ev}{a b c d:N}{r:Option (Rs N)}(h:f e=Z (.ok a))(o:g e=Z (.ok b))(i:k e=Z (.ok c))(n:m e=Z (.ok d))(j:F [a,b,c,d]=r):av F 4 (iE f g k m) e=r:=cE F (a4 h o i n) rfl j
theorem call4(F:Ï){f g k m:Ò}{i:Ev}{a b c d e:N}(h:f i=Z (.ok a))(p:g i=Z (.ok b))(j:k i=Z (.ok c))(o:m i=Z (.ok d))(n:F [a,b,c,d]=Z (.ok e)):ae F 4 (iE f g k m) i=Z (.ok e):=j3 (a4 h p j o) rfl n
theorem call5(F:Ï){f g k m q:Ò}{i:Ev}{a b c d e r:N}(h:f i=Z (.ok a))(t:g i=Z (.ok b))(j:k i=Z (.ok c))(p:m i=Z (.ok d))(o:q i=Z (.ok e))(n:F [a,b,c,d,e]=Z (.ok r)):ae F 5 (jf f g k m q) i=Z (.ok r):=j3 (ac h (a4 t j p o)) rfl n
theorem nsd(f:q∈jo å)(m:Jar n)(a:AW b i j)(h:0<=k)(g:k<=9999):bZ [.tup q,ej n,á A b i j,.int k]=Z (.ok .non):=by
 have e:bG [Z (.tup q),Z (ej n),Z (á A b i j),Z (.int k)]=Z (.nx [Z (.tup q),Z (ej n),Z (á A b i j),Z (.int k)]):=by unfold bG;rw[ar (dY aL rfl (Cp (dv f))),ar (dY aW rfl (CF (jar_y m))),ar (dY bg rfl (Lp (L4 a)))];exact dY aT rfl (Cq (mom_y h g))
 unfold bZ dL;show(match bG [Z (.tup q),Z (ej n),Z (á A b i j),Z (.int k)]with|some (.nx _)=>Z (Rs.ok N.non)|some (.rt d)=>Z (Rs.ok d)|some (.exc c)=>Z (Rs.exc c)|none=>Y)=_;rw[e]
theorem sent_w(h:q∈jo å)(e:Jar n)(a:AW b i j)(f:∀Χ i,al [.tup q,á Χ b i j]=bo A)(o:0<=k)(m:k<=9999):dZ [.tup q,ej n,á Χ b i j,.int k]=Z (.ok (.lst ((snt (gon A n Χ b i k)).map Õ))):=by have r:=e.l;have t:(gon A n Χ b i k).length<=n.length:=RJ _ _;refine kU ?_;show jN [Z (.tup q),Z (ej n),Z (á Χ b i j),Z (.int k),Y]=_;unfold jN;rw[ar (jZ (ZR bZ rfl rfl rfl rfl (nsd h e a o m)))];have p:(cq 1 [("table",0),("ask",2),("now",3)] (da (X 1)) (gN 0) (Z (fB (ae qX 4 (iE (X 1) (X 0) (X 2) (X 3))))) (X 0)) [Z (.tup q),Z (ej n),Z (á Χ b i j),Z (.int k),Y]=Z (.ok (.lst ((gon A n Χ b i k).map Õ))):=kT Õ (λd=>gB A d Χ b i k) Õ (gm rfl) (by omega) λd g=>⟨bx (call4 qX rfl rfl rfl rfl (L5 (e.g d g) a f)),rfl⟩;rw[ar (aV (a:=[Z (.tup q),Z (ej n),Z (á Χ b i j),Z (.int k),Z (.lst ((gon A n Χ b i k).map Õ))]) p rfl)];exact cH ((dr (ac rfl aj)).trans (CH (λd f=>OH (e.g d (Rp.mp f).1)) (by omega)))
theorem Hd(a:Jar n)(d:0<=k)(b:k<=9999):fu [ej n,.int k]=Z (.ok (ej (Č n k))):=by refine kU ?_;show ik [Z (ej n),Z (.int k)]=_;unfold ik;rw[ar (dY aW rfl (CF (jar_y a))),ar (dY aT rfl (Cq (mom_y d b)))];exact cH (dw bF rfl rfl (nV a.l))
theorem mem_snt:ν∈snt (gon A n Χ b i k)↔ν∈n/\gB A ν Χ b i k=U:=by rw[(pC _).mem_iff];exact Rp
theorem sent_g(e:Jar n):∀a∈snt (gon A n Χ b i k),à a:=λa d=>e.g a (mem_snt.mp d).1
theorem sent_l(a:Jar n):(snt (gon A n Χ b i k)).length<=18:=by have d:=a.l;have e:(gon A n Χ b i k).length<=n.length:=RJ _ _;have:=(pC (gon A n Χ b i k)).length_eq;omega
def mxE:Ò:=(ß HC (ax (Q cK (bU [] (da (X 2)) Y (Q Î (X 0) (R 9))) (fj (ax (R 0))))))
theorem zU:∀a:List Note,jz (a.map (λo=>N.int o.us)++[.int 0])=Z (a.map Note.us++[0])|[]=>rfl|o::a=>by show(jz (a.map (λo=>N.int o.us)++[.int 0])).map (o.us::·)=_;rw[zU a];rfl
theorem last_ok(P:n.length<=18)(g:∀o∈n,0<=o.us/\o.us<=39){j:Ev}(h:j[2]?=Z (Z (ej n))):∃a:Int,mxE j=Z (.ok (.int a))/\0<=a/\a<=39/\(∀o∈n,o.us<=a)/\(0<a->(n.any λo=>A_ (o.us>a-1))=U):=by
 have I:bU [] (da (X 2)) Y (Q Î (X 0) (R 9)) j=Z (.ok (.lst (n.map λo=>N.int o.us))):=ef Õ (λo=>N.int o.us) (gm h) (by omega) λo i=>rfl;have H:Q cK (bU [] (da (X 2)) Y (Q Î (X 0) (R 9))) (fj (ax (R 0))) j=Z (.ok (.lst (n.map (λo=>N.int o.us)++[.int 0]))):=by refine(bV I (ox (ac (j:=.int 0) rfl aj) (by show 1<=100000;decide))).trans ?_;show(if(n.map λo=>N.int o.us).length+1<=100000 then Z (Rs.ok (N.lst (n.map (λo=>N.int o.us)++[.int 0])))else Y)=_;rw[if_pos (by simp;omega)]
 have E:mxE j=HC [.lst (n.map (λo=>N.int o.us)++[.int 0])]:=dr (ac H aj);have k:∃x f,n.map Note.us++[0]=x::f:=by cases n with|nil=>exact⟨0,[],rfl⟩|cons o r=>exact⟨_,_,rfl⟩
 obtain⟨x,f,k⟩:=k;have A:HC [.lst (n.map (λo=>N.int o.us)++[.int 0])]=Z (.ok (.int (Į x f))):=by show(match jz (n.map (λo=>N.int o.us)++[.int 0])with|some (b::t)=>Z (Rs.ok (N.int (Į b t)))|_=>Y)=_;rw[zU,k]
 obtain⟨z,w,v⟩:=yg f x;have d:∀y∈n.map Note.us++[0],y<=Į x f:=by
  rw[k];intro y p;rcases t_.mp p with rfl|p;·exact z
  ·exact w y p
 have m:Į x f∈n.map Note.us++[0]:=by
  rw[k];rcases v with q|q;·rw[q];exact q_
  ·exact on _ q
 refine⟨Į x f,E.trans A,d 0 (by simp),?_,λo i=>d _ (G_ _ (List.mem_map_of_mem i)),λu=>?_⟩
 · rcases QS.mp m with q|q;·obtain⟨o,i,e⟩:=QW.mp q;rw[<-e];exact(g o i).2
   ·rw[QK.mp q];omega
 · rw[Tz];rcases QS.mp m with q|q;·obtain⟨o,i,e⟩:=QW.mp q;refine⟨o,i,?_⟩;rw[decide_eq_true_eq,e];omega
   ·rw[QK.mp q]at u;omega
theorem Qz(d:à ν)(f:∀a∈n,à a):jy (Õ ν) (.lst (n.map Õ))=Z (.ok (.bl (!A_ (ν∈n))))/\jy (Õ ν) (ej n)=Z (.ok (.bl (!A_ (ν∈n)))):=by
 have e:(n.any λa=>A_ (a=ν))=A_ (ν∈n):=by
  rw[RH,Tz,decide_eq_true_eq];constructor
  · rintro⟨a,b,h⟩;have:a=ν:=by simpa using h
    rw[<-this];exact b
  ·intro h;exact⟨ν,h,by simp⟩
 have:=Oh (p:=λa=>A_ (a=ν)) ((rE d).le (by omega)) rfl (λa b=>(rE (f a b)).le (by omega)) (λa _=>GV a ν);rw[e]at this;exact⟨this.2.1,this.2.2.2⟩
theorem zV(h:y H=Z (.ok (.lst q))):da y H=Z (.ok q):=by unfold da;rw[h];rfl
theorem nY:∀a:List Str,gJ (a.map N.str)=Z a|[]=>rfl|x::a=>by show(gJ (a.map N.str)).map (x::·)=_;rw[nY a];rfl
theorem nZ(h:z.length<=59):iH [.lst (z.map N.str)]=Z (.ok (.lst ((isortB leS (ST.ddk z)).map N.str))):=by show(match gJ (z.map N.str)with|some z=>if z.length<=59 then(Z (.ok (.lst ((isortB leS (ST.ddk z)).map N.str))):Option (Rs N))else Y|none=>Y)=_;rw[nY];dsimp only;rw[if_pos h]
theorem zW{d:Type}[DecidableEq d]:∀(b a:List d),∀x∈b.foldl ST.addK a,x∈b\/x∈a
 |[],a,x,h=>.inr h|k::b,a,x,h=>by
  rcases zW b _ x h with q|q;·exact .inl (on _ q)
  · unfold ST.addK at q;split at q;·exact .inr q
    · rcases t_.mp q with rfl|q;·exact .inl q_
      ·exact .inr q
theorem zX{d:Type}[DecidableEq d]:∀(b a:List d),(b.foldl ST.addK a).length<=b.length+a.length
 |[],a=>by simp|k::b,a=>by
  have:=zX b (ST.addK a k);have e:(ST.addK a k).length<=a.length+1:=by unfold ST.addK;split<;>simp
  simp only[W6,Q1];omega
def Ĉ(t:List N)(n:Note):Str:=match bO [.tup t,.str n.house]with|some (.ok (.str z))=>z|_=>n.house
theorem uV(b:q∈jo å)(g:à ν):bJ [.tup q,Õ ν]=Z (.ok (.str (Ĉ q ν)))/\QI (.str (Ĉ q ν))=U:=by
 obtain⟨m,o,_,d,e⟩:=vX b g.house;rcases d with rfl|⟨z,rfl⟩
 · have a:Ĉ q ν=ν.house:=by unfold Ĉ;rw[e]
   rw[a];exact⟨by simp[bJ,bt,gM,aA,sq,ba,aH,bI,cu,Ù,fB,ð,ae,aK,cM,X,fC,Q,Î,ö,Ą,Õ,e],pA (by unfold õ;simp[g.house])⟩
 · have a:Ĉ q ν=z:=by unfold Ĉ;rw[e]
   rw[a];exact⟨by simp[bJ,bt,gM,aA,sq,ba,aH,bI,cu,Ù,fB,ð,ae,aK,cM,X,fC,Q,Î,ö,Ą,Õ,e],GH b g.house e⟩
theorem groups_of(e:q∈jo å)(d:Jar n):∃h:List (Str×Int),i7 [.tup q,ej n]=Z (.ok (.lst (h.map λg=>.tup [.str g.1,.int g.2])))/\h.length<=18/\∀g∈h,QI (.str g.1)=U:=by
 have p:=d.l;have i:(isortB leS (ST.ddk (n.map (Ĉ q)))).length<=18:=by rw[(isortB_perm leS _).length_eq];have:=zX (n.map (Ĉ q)) [];unfold ST.ddk;simp at this;omega
 refine⟨(isortB leS (ST.ddk (n.map (Ĉ q)))).map λg=>(g,(((n.map λa=>N.str (Ĉ q a)).countP λy=>ű y (.str g):Nat):Int)),kU ?_,by simpa using i,λg j=>?_⟩
 · show i5 [Z (.tup q),Z (ej n),Y]=_;unfold i5;refine P_ (ar (dY aL rfl (Cp (dv e)))) (P_ (ar (dY aW rfl (CF (jar_y d)))) ?_);have o:(bU [("table",0)] (da (X 1)) Y (ae bJ 2 (bA (X 1) (X 0)))) [Z (.tup q),Z (ej n),Y]=Z (.ok (.lst (n.map λa=>N.str (Ĉ q a)))):=ef Õ (λa=>.str (Ĉ q a)) (gm rfl) (by omega) λa f=>dw bJ rfl rfl (uV e (d.g a f)).1;refine P_ (ar (aV (a:=[Z (.tup q),Z (ej n),Z (.lst (n.map λa=>N.str (Ĉ q a)))]) o rfl)) ?_;rw[Tg];refine cH ?_;have m:ß iH (ax (X 2)) [Z (.tup q),Z (ej n),Z (.lst (n.map λa=>N.str (Ĉ q a)))]=Z (.ok (.lst ((isortB leS (ST.ddk (n.map (Ĉ q)))).map N.str))):=by refine(dr (ac (j:=.lst (n.map λa=>N.str (Ĉ q a))) rfl aj)).trans ?_;have:=nZ (z:=n.map (Ĉ q)) (by simp;omega);rw[Tg]at this;exact this
   refine ef N.str (λg=>.tup [.str g,.int (((n.map λa=>N.str (Ĉ q a)).countP λy=>ű y (.str g):Nat):Int)]) (zV m) (by omega) λg j=>?_;refine jE (ac rfl (ac ?_ aj)) (by show 2<=100000;decide);show Mq (n.map λa=>N.str (Ĉ q a)) [.str g]=_;show(if _ then Z (Rs.ok (N.int (((n.map λa=>N.str (Ĉ q a)).countP (λy=>ű y (.str g)):Nat):Int)))else Y)=_;rw[if_pos (by simp[iy];omega)]
 · obtain⟨x,k,rfl⟩:=QW.mp j;have:=zW (n.map (Ĉ q)) [] x ((isortB_perm leS _).subset k);rcases this with b|b;·obtain⟨a,f,rfl⟩:=QW.mp b;exact(uV e (d.g a f)).2
   ·simp at b
theorem pD(h:y H=Z (.ok j))(a:r≠d):Ad d r y Ç H=Ç (H.set r (Z j)):=by unfold Ad;rw[h];exact if_neg a
theorem L6(h:y H=Z (.exc Β)):Ad d r y Ç H=Z (.exc Β):=by unfold Ad;rw[h]
theorem lu(h:y H=Z (.ok j)):mO y Ç H=Ç H:=by unfold mO;rw[h]
theorem He(h:y H=Z (.exc d)):mO y Ç H=Z (.exc d):=by unfold mO;rw[h]
theorem Hh(h:y H=Z (.ok j))(a:H[d]?=Z (Z δ)):qE d y H=Z (.rt j δ):=by unfold qE;rw[h,a]
theorem jP(h:y H=Z (.ok j))(b:H[d]?=Z (Z δ))(i:Ă j=U)(g:Ę Β δ=U)(f:ň d H=U)(e:ZB δ=U)(a:N4 r j δ=Z ι):wa d Β r y Ç H=nox (Ç (H.set d (Z ι))):=by unfold wa;rw[h,b];dsimp only;rw[if_pos ⟨i,g,f,e⟩,a]
theorem uW{a:ò}(h:Μ H=Z (.ok A)):ź Μ a Ç H=if A=U then a H else Ç H:=by unfold ź;rw[h];cases A<;>rfl
theorem uX{F:List N->Option Đ}{a:N->ò}(b:H[d]?=Z (Z δ))(i:Ę r δ=U)(h:ň d H=U)(f:ε H=Z (.ok q))(e:q.length=Β)(g:F (δ::q)=Z (.ok j ι)):qF d r F Β ε a H=nox (a j (H.set d (Z ι))):=by unfold qF;rw[b];dsimp only;rw[if_pos ⟨i,h⟩,f];dsimp only;rw[if_pos e,g]
theorem jd(a:y H=Z (.ok j))(f:Ę d j=U)(e:ε H=Z (.ok q))(b:q.length=r):gq d ψ r y ε H=ψ (j::q):=by unfold gq;rw[a];show(if Ę d j=U then Ù (ε H) λq=>(if q.length=r then ψ (j::q)else Y)else Y)=_;rw[if_pos f,e];exact if_pos b
theorem Hi(n:Note):Ă (Õ n)=U:=by unfold Õ;cases h:n.ends<;>rfl
theorem pE:∀a:List Note,ù (a.map Õ)=U|[]=>rfl|n::a=>by show(Ă (Õ n)&&ù (a.map Õ))=U;rw[Hi,pE a];rfl
theorem rJ(a:List Note):Ă (ej a)=U:=pE a
theorem Hj(n:Note):Ĭ (Õ n)=U:=by unfold Õ;cases h:n.ends<;>rfl
theorem pF:∀a:List Note,þ (a.map Õ)=U|[]=>rfl|n::a=>by show(Ĭ (Õ n)&&þ (a.map Õ))=U;rw[Hj,pF a];rfl
theorem CI:((jo å).all λt=>ù t&&þ t)=U:=by lk
theorem OI(a:q∈jo å):ù q=U/\þ q=U:=by have:=aS (p:=λq=>ù q&&þ q) CI a;simpa using this
theorem MG{f:Nat->Bool}(a:f 0=U)(b:f 1=U)(c:f 2=U)(d:f 3=U):(rl 4).all f=U:=by show(f 0&&(f 1&&(f 2&&(f 3&&U))))=U;rw[a,b,c,d];rfl
theorem OJ{f:Nat->Bool}(h:(rl 4).all f=U)(e:f 4=U)(g:f 5=U):(rl 6).all f=U:=by have h:(f 0&&(f 1&&(f 2&&(f 3&&U))))=U:=h;show(f 0&&(f 1&&(f 2&&(f 3&&(f 4&&(f 5&&U))))))=U;rw[e,g];exact h
theorem L7{f:Nat->Bool}(h:(rl 6).all f=U)(a:f 6=U)(b:f 7=U)(c:f 8=U)(d:f 9=U)(e:f 10=U)(g:f 11=U):(rl 12).all f=U:=by have h:(f 0&&(f 1&&(f 2&&(f 3&&(f 4&&(f 5&&U))))))=U:=h;show(f 0&&(f 1&&(f 2&&(f 3&&(f 4&&(f 5&&(f 6&&(f 7&&(f 8&&(f 9&&(f 10&&(f 11&&U))))))))))))=U;rw[a,b,c,d,e,g];exact h
def kpr(T:N)(e m:Int)(a:N)(c:Int):N:=.obj 0 [T,.int e,.int m,a,.int c]
variable{Ν Ω:Int}
theorem zY(h:Ω<Ν):aE [kpr j k π δ Ν,.int Ω]=Z (.exc 6):=by refine uN ?_;show ba (fB (Q Ţ (X 1) (f1 (kJ 0 4) (X 0)))) _ _ [Z (kpr j k π δ Ν),Z (.int Ω)]=_;have:fB (Q Ţ (X 1) (f1 (kJ 0 4) (X 0))) [Z (kpr j k π δ Ν),Z (.int Ω)]=Z (.ok U):=bx ((bV (j:=.int Ω) (δ:=.int Ν) rfl rfl).trans (by show Z (Rs.ok (N.bl (A_ (Ω<Ν))))=_;rw[decide_eq_true h]));unfold ba;rw[this];rfl
theorem L8(h:Ν<=Ω):aE [kpr j k π δ Ν,.int Ω]=Z (.ok .non):=by show dL 2 bf _=_;have:fB (Q Ţ (X 1) (f1 (kJ 0 4) (X 0))) [Z (kpr j k π δ Ν),Z (.int Ω)]=Z (.ok L):=bx ((bV (j:=.int Ω) (δ:=.int Ν) rfl rfl).trans (by show Z (Rs.ok (N.bl (A_ (Ω<Ν))))=_;rw[decide_eq_false (by omega)]));unfold dL bf;show(match ba (fB (Q Ţ (X 1) (f1 (kJ 0 4) (X 0)))) _ _ [Z (kpr j k π δ Ν),Z (.int Ω)]with|some (.nx _)=>Z (Rs.ok N.non)|some (.rt d)=>Z (.ok d)|some (.exc Ν)=>Z (.exc Ν)|none=>Y)=_;unfold ba;rw[this];rfl
theorem init_of(m:cD [j]=bo U)(g:Ă j=U)(y:0<=k)(w:k<=20)(r:0<=π)(p:π<=20):cP [.obj 0 [],j,.int k,.int π]=Z (.ok .non (kpr j k π (ej []) 0)):=by
 have a:∀i:Int,0<=i->i<=20->cV [.int i]=Z (.ok .non):=λi v m=>by
  have:aF [.int i,.int 0,.int 20]=bo U:=by simp[aF,bt,aY,aA,sq,ba,aH,cu,Ù,ÿ,cg,fB,ð,f1,Q,X,jt,oA,ez,iD,į,v,m]
  simp[cV,dL,gc,ba,cu,Ù,cg,fB,ð,ae,aK,cM,X,fC,this]
 have k:bu [Z (.obj 0 []),Z j,Z (.int k),Z (.int π)]=Z (.nx [Z (kpr j k π (ej []) 0),Z j,Z (.int k),Z (.int π)]):=by
  have e:∀o:N,ň 0 [Z o,Z j,Z (.int k),Z (.int π)]=U:=λo=>MG rfl g rfl rfl;have f:∀(b:List N),(∀d∈b,d=j\/Ă d=U)->ZB (.obj 0 b)=U:=λb h=>by show ù b=U;induction b with|nil=>rfl|cons d b t=>
   show(Ă d&&ù b)=U;rw[t λx u=>h x (on _ u)];rcases h d (by simp)with rfl|q;·rw[g];rfl
   ·rw[q];rfl
  unfold bu;refine P_ (lu (cE aL (ac (j:=j) rfl aj) rfl (Cp m))) (P_ (lu (cE cV (ac (j:=.int k) rfl aj) rfl (a k y w))) (P_ (lu (cE cV (ac (j:=.int π) rfl aj) rfl (a π r p))) ?_));refine P_ (jP (j:=j) (δ:=.obj 0 []) (ι:=.obj 0 [j]) rfl rfl g rfl (e _) rfl rfl) (P_ (congrArg nox (jP (j:=.int k) (δ:=.obj 0 [j]) (ι:=.obj 0 [j,.int k]) rfl rfl rfl rfl (e _) (f _ (by simp)) rfl)) ?_);refine P_ (congrArg (λz=>nox (nox z)) (jP (j:=.int π) (δ:=.obj 0 [j,.int k]) (ι:=.obj 0 [j,.int k,.int π]) rfl rfl rfl rfl (e _) (f _ (by simp[Ă])) rfl)) ?_;refine P_ (congrArg (λz=>nox (nox (nox z))) (jP (j:=.tup []) (δ:=.obj 0 [j,.int k,.int π]) (ι:=.obj 0 [j,.int k,.int π,.tup []]) (jE aj (by show 0<=100000;decide)) rfl rfl rfl (e _) (f _ (by simp[Ă])) rfl)) ?_;refine P_ (congrArg (λz=>nox (nox (nox (nox z)))) (jP (j:=.int 0) (δ:=.obj 0 [j,.int k,.int π,.tup []]) (ι:=.obj 0 [j,.int k,.int π,.tup [],.int 0]) rfl rfl rfl rfl (e _) (f _ (by simp[Ă,ù])) rfl)) ?_;rfl
 show Ae 4 bu _=_;unfold Ae;show(match bu [Z (.obj 0 []),Z j,Z (.int _),Z (.int π)]with|some (.nx n)=>(match n[0]? with|some (Z o)=>Z (Đ.ok N.non o)|_=>Y)|some (.rt d o)=>Z (Đ.ok d o)|some (.exc c)=>Z (.exc c)|none=>Y)=_;rw[k];rfl
noncomputable def E6k(o A X:N)(a:Int)(d b:Option N):Ev:=[Z o,Z A,Z X,Z (.int a),d,b]
noncomputable def OK:Option Ŷ->Option Đ|some (.nx a)=>(match a[0]? with|some (Z o)=>Z (.ok .non o)|_=>Y)|some (.rt d o)=>Z (.ok d o)|some (.exc c)=>Z (.exc c)|none=>Y
theorem CL(n:Nat)(B:ò)(a:List N):Ae n B a=OK (B (a.map Z++L_ (n-a.length) Y)):=by unfold Ae OK;generalize B _=r;match r with|some (.nx b)=>rfl|some (.rt d o)=>rfl|some (.exc c)=>rfl|none=>rfl
theorem tU{r:Option Ŷ}{q:Option Đ}(h:bP (E6k (kpr j k π Γ Ν) δ ι Ω Y Y)=r)(a:OK r=q):aU [kpr j k π Γ Ν,δ,ι,.int Ω]=q:=by refine(CL 6 bP _).trans ?_;rw[<-a,<-h];rfl
theorem DV(a:bd [j,Γ,δ,ι,.int Ω]=Z (.exc d)):aU [kpr j k π Γ Ν,δ,ι,.int Ω]=Z (.exc d):=tU (r:=Z (.exc d)) (by unfold bP;exact L6 (cE bd (ac (j:=j) rfl (ac (j:=Γ) rfl (ac (j:=δ) rfl (ac (j:=ι) rfl (ac (j:=.int Ω) rfl aj))))) rfl a)) rfl
theorem zZ(a:bd [j,À,δ,ι,.int Ω]=Z (.ok Γ))(h:Ω<Ν):aU [kpr j k π À Ν,δ,ι,.int Ω]=Z (.exc 6):=tU (r:=Z (.exc 6)) (by unfold bP;refine P_ (pD (cE bd (ac (j:=j) rfl (ac (j:=À) rfl (ac (j:=δ) rfl (ac (j:=ι) rfl (ac (j:=.int Ω) rfl aj))))) rfl a) (by decide)) ?_;exact He ((jd (j:=kpr j k π À Ν) rfl rfl (ac (j:=.int Ω) rfl aj) rfl).trans (zY h))) rfl
theorem z0{a:List Note}(m:bd [j,ej n,δ,ι,.int Ω]=Z (.ok À))(u:Ν<=Ω)(r:aB [ι]=Z (.ok Γ))(p:bw [j,ej n,δ,Γ,.int Ω]=Z (.ok (ej a)))(t:zd [j,ej a,.int k,.int π]=Z (.ok (ej a)))(h:Ă j=U)(i:Ă δ=U)(g:Ă ι=U)(f:Ă À=U):aU [kpr j k π (ej n) Ν,δ,ι,.int Ω]=Z (.ok À (kpr j k π (ej a) Ω)):=by
 have d:∀(b:List Note)(q:Int),ZB (kpr j k π (ej b) q)=U:=λb q=>by show(Ă j&&(U&&(U&&(Ă (ej b)&&(U&&U)))))=U;rw[h,rJ];rfl
 have e:∀o:N,ň 0 (E6k o δ ι Ω (Z À) (Z (ej a)))=U:=λo=>OJ (MG rfl i g rfl) f (rJ a);refine tU (r:=Z (.rt À (kpr j k π (ej a) Ω))) ?_ rfl;unfold bP;refine P_ (pD (cE bd (ac (j:=j) rfl (ac (j:=ej n) rfl (ac (j:=δ) rfl (ac (j:=ι) rfl (ac (j:=.int Ω) rfl aj))))) rfl m) (by decide)) ?_;refine P_ (lu ((jd (j:=kpr j k π (ej n) Ν) rfl rfl (ac (j:=.int Ω) rfl aj) rfl).trans (L8 u))) ?_;refine P_ (pD (cE bw (ac (j:=j) rfl (ac (j:=ej n) rfl (ac (j:=δ) rfl (ac (j:=Γ) (cE aB (ac (j:=ι) rfl aj) rfl r) (ac (j:=.int Ω) rfl aj))))) rfl p) (by decide)) ?_;refine P_ (jP (j:=ej a) (δ:=kpr j k π (ej n) Ν) (ι:=kpr j k π (ej a) Ν) (call4 zd (a:=j) (b:=ej a) (c:=.int k) (d:=.int π) rfl rfl rfl rfl t) rfl (rJ a) rfl (e _) (d _ _) rfl) ?_;refine P_ (congrArg nox (jP (j:=.int Ω) (δ:=kpr j k π (ej a) Ν) (ι:=kpr j k π (ej a) Ω) rfl rfl rfl rfl (e _) (d _ _) rfl)) ?_;rfl
theorem Hk(n:Note):nO [Õ n]=Z (.ok (.tup [.bl n.S,.int n.us])):=eR (cH (jE (ac (j:=.bl n.S) rfl (ac (j:=.int n.us) rfl aj)) (by show 2<=100000;decide)))
theorem ln1(b:n.length<=1):n=[]\/∃a,n=[a]:=by cases n with|nil=>exact .inl rfl|cons a r=>cases r with|nil=>exact .inr ⟨a,rfl⟩|cons m r=>simp at b
theorem so1(b:n.length<=1):FD.srt1 nO (n.map Õ)=Z (.ok (.lst (n.map Õ))):=by
 rcases ln1 b with rfl|⟨a,rfl⟩;·rfl
 ·show(match nO [Õ a]with|some (.ok k)=>if ĝ (Õ a)=U/\ĝ k=U then(Z (.ok (.lst [Õ a])):Option (Rs N))else Y|_=>Y)=_;rw[Hk];dsimp only;rw[if_pos ⟨zT a,rfl⟩];rfl
theorem L9(b:j=.lst (n.map Õ)\/j=ej n)(e:n.length<=1)(g:1<=k):fz [j,.int k]=Z (.ok (.lst [])):=by
 refine eR ?_;show gO [Z j,Z (.int k),Y]=_;unfold gO;have f:ß (vF nO) (ax (X 0)) [Z j,Z (.int k),Y]=Z (.ok (.lst (n.map Õ))):=by refine(dr (ac (j:=j) rfl aj)).trans ?_;rcases b with rfl|rfl<;>exact so1 e
 have d:ß iC (ax (X 0)) [Z j,Z (.int k),Z (.lst (n.map Õ))]=Z (.ok (.int n.length)):=by
  refine(dr (ac (j:=j) rfl aj)).trans ?_;rcases b with rfl|rfl;·show Z (Rs.ok (N.int ((n.map Õ).length:Nat)))=_;rw[QL]
  ·show Z (Rs.ok (N.int ((n.map Õ).length:Nat)))=_;rw[QL]
 refine P_ (ar (aV (a:=[Z j,Z (.int k),Z (.lst (n.map Õ))]) f rfl)) ?_;refine cH ?_;have:(ß JX (bA (Q xg (ß iC (ax (X 0))) (X 1)) (R 0))) [Z j,Z (.int k),Z (.lst (n.map Õ))]=Z (.ok (.int 0)):=by
  refine(dr (ac (j:=.int (n.length-k)) ((bV d (δ:=.int k) rfl).trans rfl) (ac (j:=.int 0) rfl aj))).trans ?_;show Z (Rs.ok (N.int (if 0>(n.length:Int)-k then 0 else(n.length:Int)-k)))=_;by_cases q:0>(n.length:Int)-k;·rw[if_pos q]
  ·rw[if_neg q];congr 3;omega
 unfold ju;rw[show(dk (ß JX (bA (Q xg (ß iC (ax (X 0))) (X 1)) (R 0)))) [Z j,Z (.int k),Z (.lst (n.map Õ))]=Z (.ok (Z 0))from by unfold dk;rw[this];rfl];show Z (Rs.ok (N.lst (AH (n.map Õ) Y (Z 0))))=_;clear this f d b;rcases ln1 e with rfl|⟨a,rfl⟩<;>rfl
theorem Ma(d:∀a∈n,à a)(f:n.length<=18):gQ [ej n,.lst []]=Z (.ok (ej n)):=by refine eR ?_;show iO [Z (ej n),Z (.lst [])]=_;unfold iO;refine cH ?_;have e:(bU [("dropped",1)] (da (X 0)) (Z (fB (Q jy (X 0) (X 1)))) (X 0)) [Z (ej n),Z (.lst [])]=Z (.ok (.lst ((n.filter λ_=>U).map Õ))):=kn Õ (λ_=>U) Õ (gm rfl) (by omega) λo b=>⟨bx ((bV (j:=Õ o) (δ:=.lst []) rfl rfl).trans (Qz (n:=[]) (d o b) (by simp)).1),rfl⟩;refine(dr (ac e aj)).trans ?_;rw[List.filter_eq_self.mpr (by simp)];rfl
theorem QC(i:q∈jo å)(f:∀a∈n,à a)(j:n.length<=1)(u:1<=k)(m:1<=π):zd [.tup q,ej n,.int k,.int π]=Z (.ok (ej n)):=by
 refine eR ?_;show zc [Z (.tup q),Z (ej n),Z (.int k),Z (.int π),Y,Y,Y]=_;unfold zc;obtain⟨e,b⟩:∃e:Ev,e=[Z (.tup q),Z (ej n),Z (.int k),Z (.int π),Z (ej n),Y,Y]:=⟨_,rfl⟩;refine P_ (ar (aV (j:=ej n) (a:=e) rfl (by rw[b];rfl))) ?_;have p:(bU [("table",0)] (da (X 1)) Y (ae bJ 2 (bA (X 1) (X 0)))) e=Z (.ok (.lst (n.map λa=>N.str (Ĉ q a)))):=by rw[b];exact ef Õ (λa=>.str (Ĉ q a)) (gm rfl) (by omega) λa h=>dw bJ rfl rfl (uV i (f a h)).1
 have t:da (ß iH (ax (bU [("table",0)] (da (X 1)) Y (ae bJ 2 (bA (X 1) (X 0)))))) e=Z (.ok ((isortB leS (ST.ddk (n.map (Ĉ q)))).map N.str)):=by refine zV ((dr (ac p aj)).trans ?_);have:=nZ (z:=n.map (Ĉ q)) (by simp;omega);rw[Tg]at this;exact this
 have lp:lO 5 [5,6] mi ((isortB leS (ST.ddk (n.map (Ĉ q)))).map N.str) e=Z (.nx e):=by refine lZ (λd o=>?_) e (by rw[b];rfl);obtain⟨g,_,rfl⟩:=QW.mp o;refine⟨[Z (.tup q),Z (ej n),Z (.int k),Z (.int π),Z (ej n),Z (.str g),Z (.lst ((n.filter λa=>seq (Ĉ q a) g).map Õ))],?_,by rw[b];rfl⟩;rw[b];show mi [Z (.tup q),Z (ej n),Z (.int k),Z (.int π),Z (ej n),Z (.str g),Y]=_;unfold mi;have r:(cq 1 [("table",0),("group",5)] (da (X 1)) (gN 0) (Z (fB (Q Þ (ae bJ 2 (bA (X 1) (X 0))) (X 2)))) (X 0)) [Z (.tup q),Z (ej n),Z (.int k),Z (.int π),Z (ej n),Z (.str g),Y]=Z (.ok (.lst ((n.filter λa=>seq (Ĉ q a) g).map Õ))):=kT Õ (λa=>seq (Ĉ q a) g) Õ (gm rfl) (by omega) λa h=>⟨bx ((bV (j:=.str (Ĉ q a)) (δ:=.str g) (dw bJ rfl rfl (uV i (f a h)).1) rfl).trans rfl),rfl⟩;refine P_ (ar (aV (a:=[Z (.tup q),Z (ej n),Z (.int k),Z (.int π),Z (ej n),Z (.str g),Z (.lst ((n.filter λa=>seq (Ĉ q a) g).map Õ))]) r rfl)) ?_;exact aV (j:=ej n) (dw gQ (a:=ej n) (b:=.lst []) rfl (dw fz (a:=.lst ((n.filter λa=>seq (Ĉ q a) g).map Õ)) (b:=.int k) rfl rfl (L9 (.inl rfl) (QV (RJ _ _) j) u)) (Ma f (by omega))) rfl
 refine P_ (ar ((EO t).trans lp)) ?_;rw[b];exact cH (dw gQ (a:=ej n) (b:=.lst []) rfl (dw fz (a:=ej n) (b:=.int π) rfl rfl (L9 (.inr rfl) j m)) (Ma f (by omega)))
theorem jar0:Jar []:=⟨by simp,by simp,by simp,by simp⟩
theorem QD(g:à ν):Jar [ν]:=⟨by simpa using g,by simp,by simp,by simp⟩
theorem ś:∀x:Str,x∈[b_ "foreign",b_ "open",b_ "unsafe",b_ "marked",b_ "far",b_ "shadowed"]->Þ (.str x) (.str "kept")=bo L/\Þ (.str x) (.str "gone")=bo L:=by intro x a;simp only[t_,K_,or_false]at a;rcases a with rfl|rfl|rfl|rfl|rfl|rfl<;>exact⟨by lk,by lk⟩
noncomputable def š:List Str:=[b_ "foreign",b_ "open",b_ "unsafe",b_ "marked",b_ "far",b_ "shadowed",b_ "gone",b_ "kept"]
theorem wds_lay:(š.all λx=>QI (.str x))=U:=by lk
theorem twice{w:Str}{R:Str}(v:q∈jo å)(a:Ak b i j)(g:Gv θ w δ ι Γ À A R)(u:0<=k)(n1:k<=99):∃x∈š,∃n:List Note,n.length<=1/\Jar n/\bq [.tup q,ej [],á Χ b i j,Ā θ w δ ι Γ À A R,.int k]=Z (.ok (.str x))/\bq [.tup q,ej n,á Χ b i j,Ā θ w δ ι Γ À A R,.int k]=Z (.ok (.str x))/\bw [.tup q,ej [],á Χ b i j,Ā θ w δ ι Γ À A R,.int k]=Z (.ok (ej n))/\bw [.tup q,ej n,á Χ b i j,Ā θ w δ ι Γ À A R,.int k]=Z (.ok (ej n)):=by
 obtain⟨m,t,ex,wd,W⟩:=GK v a g Χ;rcases W.win with rfl|⟨x,P,rfl⟩
 · obtain⟨d,y,gN,a'⟩:=note_of (k:=k) g W u n1;have r:=zL v a g u (by omega) W;rw[<-y]at r;have f:=word_y (n:=[]) v a g u (by omega) W y gN (by simp) (by simp);have p:=word_y (n:=[d]) v a g u (by omega) W y gN (by simpa using gN) (by simp);have E:d.S=A:=by have:Õ d=ZX θ w m ex t (Cz Γ À k) A R k:=y;unfold Õ at this;injection this with this;simp only[YV,N.bl.injEq]at this;exact this.2.2.2.2.2.2.1
   have sh:(!Χ&&[d].any λo=>Ai o d k)=L:=by cases Χ with|true=>rfl|false=>have:d.S=L:=E.trans (W.un rfl rfl);simp[Ai,this]
   unfold wv at f p;dsimp only at f p;rw[if_neg (by simp)]at f;rw[sh,if_neg (by simp)]at p;by_cases z:ā d k=U;·rw[if_pos z]at f;exact⟨b_ "gone",by simp[š],[],by simp,jar0,f,f,mH (by simp) (by simp) gN f r,mH (by simp) (by simp) gN f r⟩
   · rw[if_neg z]at f p;have sw:Č [d] k=[d]:=by unfold Č;simp[z]
     have p1:Ha (Č [d] k) d=[d]:=by rw[sw];unfold Ha;simp
     refine⟨b_ "kept",by simp[š],[d],by simp,QD gN,f,p,?_,?_⟩;·have:=mG (by simp) (by simp) gN f r;exact this
     ·have:=mG (n:=[d]) (by simp) (by simpa using gN) gN p r;rw[p1]at this;exact this
 · have f:=word_x (n:=[]) (k:=k) W (by simp);have h:b_ x∈[b_ "foreign",b_ "open",b_ "unsafe",b_ "marked",b_ "far",b_ "shadowed"]:=by simp only[t_,K_,or_false]at P⊢;rcases P with rfl|rfl|rfl|rfl|rfl<;>simp
   obtain⟨I,H⟩:=ś _ h;refine⟨b_ x,?_,[],by simp,jar0,f,f,jq (by simp) f I H,jq (by simp) f I H⟩;simp only[t_,K_,or_false]at h;rcases h with e|e|e|e|e|e<;>rw[e]<;>simp[š]
theorem take_any{w:Str}{R:Str}(H:q∈jo å)(a:Ak b i j)(g:Gv θ w δ ι Γ À A R)(t:Jar n)(E:0<=k)(n1:k<=99)(hu:∀o∈n,o.us<=k):∃x∈š,bq [.tup q,ej n,á Χ b i j,Ā θ w δ ι Γ À A R,.int k]=Z (.ok (.str x))/\∃v:List Note,bw [.tup q,ej n,á Χ b i j,Ā θ w δ ι Γ À A R,.int k]=Z (.ok (ej v))/\(∀o∈v,à o)/\v.length<=20:=by
 have r:=t.l;obtain⟨P,a',ex,wd,W⟩:=GK H a g Χ;have gs:∀o∈Č n k,à o:=λo m=>t.g o (Rp.mp m).1;have sl:(Č n k).length<=18:=QV zR r;rcases W.win with rfl|⟨x,hx,rfl⟩
 · obtain⟨e,hN,gN,b'⟩:=note_of (k:=k) g W E n1;have I:=zL H a g E (by omega) W;rw[<-hN]at I;have f:=word_y (n:=n) H a g E (by omega) W hN gN t.g r;unfold wv at f;dsimp only at f;by_cases c1:(!Χ&&n.any λo=>Ai o e k)=U;·rw[if_pos c1]at f;obtain⟨h,y⟩:=ś (b_ "shadowed") (by simp);exact⟨_,by simp[š],f,Č n k,jq r f h y,gs,by omega⟩
   · rw[if_neg c1]at f;by_cases c2:ā e k=U;·rw[if_pos c2]at f;exact⟨_,by simp[š],f,_,mH r t.g gN f I,λo m=>gs o (Rp.mp m).1,QV (RJ _ _) (by omega)⟩
     · rw[if_neg c2]at f;refine⟨_,by simp[š],f,_,mG r t.g gN f I,?_,?_⟩
       · intro o m;unfold Ha at m;split at m
         · rcases QS.mp m with d|d;·exact gs o d
           ·rw[QK.mp d];exact gN
         · rename_i h r1 hf;obtain⟨z,hz,rfl⟩:=QW.mp m;split
           · have hm:h∈(Č n k).filter (λo=>A_ (key o=key e)):=by rw[hf];exact q_
             have u:=(Rp.mp hm).1;have g1:=gs h u;have u1:=hu h (Rp.mp u).1;refine⟨gN.nm,gN.w,gN.house,gN.path,gN.R,gN.ends,g1.mk0,?_,gN.us⟩;show h.md<=e.us;have:=g1.mu;omega
           ·exact gs z hz
       · unfold Ha;split;·simp;omega
         ·simp;omega
 · have w0:=word_x (n:=n) (k:=k) W (by simp);have p:b_ x∈[b_ "foreign",b_ "open",b_ "unsafe",b_ "marked",b_ "far",b_ "shadowed"]:=by simp only[t_,K_,or_false]at hx⊢;rcases hx with rfl|rfl|rfl|rfl|rfl<;>simp
   obtain⟨h,y⟩:=ś _ p;refine⟨b_ x,?_,w0,Č n k,jq r w0 h y,gs,by omega⟩;simp only[t_,K_,or_false]at p;rcases p with d|d|d|d|d|d<;>rw[d]<;>simp[š]
theorem verdict_of{b:N}{a:N}(e:ao [δ,ι,Γ,j,a]=Z (.ok À))(d:bq [δ,ι,Γ,À,a]=Z (.ok b)):bd [δ,ι,Γ,j,a]=Z (.ok b):=by refine kU ?_;show eM [Z δ,Z ι,Z Γ,Z j,Z a,Y]=_;unfold eM;refine P_ (ar (aV (a:=[Z δ,Z ι,Z Γ,Z j,Z a,Z À]) (cE ao (ac rfl (ac rfl (ac rfl (ac rfl (ac rfl aj))))) rfl e) rfl)) ?_;exact cH (cE bq (ac rfl (ac rfl (ac rfl (ac rfl (ac rfl aj))))) rfl d)
theorem rK(a:ao [δ,ι,Γ,j,À]=Z (.exc d)):bd [δ,ι,Γ,j,À]=Z (.exc d):=by refine uN ?_;show eM [Z δ,Z ι,Z Γ,Z j,Z À,Y]=_;unfold eM aA bI;rw[show av ao 5 (jf (X 0) (X 1) (X 2) (X 3) (X 4)) [Z δ,Z ι,Z Γ,Z j,Z À,Y]=Z (.exc d)from cE ao (ac rfl (ac rfl (ac rfl (ac rfl (ac rfl aj))))) rfl a];rfl
theorem Hl(d:cD [δ]=bo U)(b:ii [ι]=bo U)(a:cy [Γ]=bo L):ao [δ,ι,Γ,j,À]=Z (.exc 3):=by refine uN ?_;show aM [Z δ,Z ι,Z Γ,Z j,Z À,Y]=_;unfold aM;refine P_ (ar (dY aL rfl (Cp d))) (P_ (ar (dY aW rfl (CF b))) ?_);unfold aA;rw[dX bg (f:=X 2) (a:=Γ) rfl (Pn a)];rfl
theorem CM(f:cD [δ]=bo U)(e:ii [ι]=bo U)(b:cy [Γ]=bo U)(a:aB [j]=Z (.exc d)):ao [δ,ι,Γ,j,À]=Z (.exc d):=by refine uN ?_;show aM [Z δ,Z ι,Z Γ,Z j,Z À,Y]=_;unfold aM;refine P_ (ar (dY aL rfl (Cp f))) (P_ (ar (dY aW rfl (CF e))) (P_ (ar (dY bg rfl (Lp b))) ?_));unfold aA bI;rw[show av aB 1 (ax (X 3)) [Z δ,Z ι,Z Γ,Z j,Z À,Y]=Z (.exc d)from cE aB (ac rfl aj) rfl a];rfl
theorem z4:cy [.tup [.bl A,.str b,.str i]]=bo L:=by rfl
theorem CN:aB [.str ""]=Z (.exc 4):=by lk
theorem Hm:eW [.str "a..b"]=Z (.exc 0):=by lk
theorem Hn:bc [.int (-1)]=bo L:=by lk
def xR:Ö:=(Ń (fB (Q Þ (X 1) (R 0))) (jI 0 eP 3 (X 0) (bT (X 2) (X 3) (X 4))) (Ń (fB (Q Þ (X 1) (R 1))) (jI 0 cj 2 (X 0) (bA (X 2) (X 4))) (Ń (fB (Q Þ (X 1) (R 2))) (jI 0 cF 1 (X 0) (ax (X 4))) (jI 0 cC 1 (X 0) (ax (X 3))))))
theorem lw(g:y H=Z (.ok j))(f:ε H=Z (.ok q))(e:Ę d j=U)(b:q.length=r)(a:ψ (j::q)=Z (.exc Β)):jI d ψ r y ε H=Z (.exc Β):=by unfold jI;rw[g,f];dsimp only;rw[if_pos ⟨e,b⟩,a]
theorem Ho{g:Ö}(h:Μ H=Z (.ok U)):Ń Μ Ο g H=Ο H:=by unfold Ń;rw[h];rfl
theorem v3{g:Ö}(h:Μ H=Z (.ok L)):Ń Μ Ο g H=g H:=by unfold Ń;rw[h];rfl
theorem Hq(e:∀a∈n,à a):ē 3 (.tup [ej n,.int k]):=rg λd b=>by
 rcases t_.mp b with rfl|b;·exact it_ej e
 ·rw[QK.mp b];exact Ģ.le (by omega)
def EK(T:N)(e m:Int)(d:List Note)(c a:Int)(A X:N)(b:Int)(x:Option N):Ev:=[Z (kpr T e m (ej d) c),Z (.int a),Z A,Z X,Z (.int b),x]
theorem pG{b:Int}(e:∀a∈n,à a)(g:d<7)(f:xR (EK j k π n Ν b δ ι Ω (Z (.tup [ej n,.int Ν])))=Z (.exc d)):ai [kpr j k π (ej n) Ν,.int b,δ,ι,.int Ω]=bo U:=by
 refine eR ?_;show du (EK j k π n Ν b δ ι Ω Y)=_;unfold du;have v:fW (bA (gq 0 bY 0 (X 0) cM) (gq 0 bX 0 (X 0) cM)) (EK j k π n Ν b δ ι Ω Y)=Z (.ok (.tup [ej n,.int Ν])):=jE (ac ((jd (j:=kpr j k π (ej n) Ν) rfl rfl aj rfl).trans rfl) (ac ((jd (j:=kpr j k π (ej n) Ν) rfl rfl aj rfl).trans rfl) aj)) (by show 2<=100000;decide);refine P_ (ar (aV (a:=EK j k π n Ν b δ ι Ω (Z (.tup [ej n,.int Ν]))) v rfl)) ?_;refine lQ ?_;show yT 7 xR _ _=_;unfold yT;rw[f];dsimp only;rw[if_pos g];have q:Q Þ (fW (bA (nM 0 fU (X 0)) (nM 0 fR (X 0)))) (X 5) (EK j k π n Ν b δ ι Ω (Z (.tup [ej n,.int Ν])))=Z (.ok (.bl U)):=by refine(bV (j:=.tup [ej n,.int Ν]) (δ:=.tup [ej n,.int Ν]) ?_ rfl).trans (GE ((Hq e).okP (by omega)) (Hq e).p);exact jE (ac (j:=ej n) rfl (ac (j:=.int Ν) rfl aj)) (by show 2<=100000;decide)
 rw[q]
theorem OL(h:aU [kpr j k π (ej n) Ν,δ,ι,.int Ω]=Z (.exc d)):eP [kpr j k π (ej n) Ν,δ,ι,.int Ω]=Z (.exc d):=by show(if Ę 0 (kpr j k π (ej n) Ν)=U then(match aU [kpr j k π (ej n) Ν,δ,ι,.int Ω]with|some (.exc Ν)=>(Z (.exc Ν):Option (Rs N))|_=>Y)else Y)=_;rw[if_pos (show Ę 0 (kpr j k π (ej n) Ν)=U from rfl),h]
theorem pH(b:∀a∈n,à a)(e:d<7)(h:aU [kpr j k π (ej n) Ν,δ,ι,.int Ω]=Z (.exc d)):ai [kpr j k π (ej n) Ν,.int 0,δ,ι,.int Ω]=bo U:=pG b e (P_ (Ho rfl) (lw (j:=kpr j k π (ej n) Ν) rfl (ac (j:=δ) rfl (ac (j:=ι) rfl (ac (j:=.int Ω) rfl aj))) rfl rfl (OL h)))
theorem uY(b:∀a∈n,à a)(e:d<7)(h:cj [kpr j k π (ej n) Ν,δ,.int Ω]=Z (.exc d)):ai [kpr j k π (ej n) Ν,.int 1,δ,ι,.int Ω]=bo U:=pG b e (P_ (v3 rfl) (P_ (Ho rfl) (lw (j:=kpr j k π (ej n) Ν) rfl (ac (j:=δ) rfl (ac (j:=.int Ω) rfl aj)) rfl rfl h)))
theorem uZ(b:∀a∈n,à a)(e:d<7)(h:cF [kpr j k π (ej n) Ν,.int Ω]=Z (.exc d)):ai [kpr j k π (ej n) Ν,.int 2,δ,ι,.int Ω]=bo U:=pG b e (P_ (v3 rfl) (P_ (v3 rfl) (P_ (Ho rfl) (lw (j:=kpr j k π (ej n) Ν) rfl (ac (j:=.int Ω) rfl aj) rfl rfl h))))
theorem CO(b:∀a∈n,à a)(e:d<7)(h:cC [kpr j k π (ej n) Ν,ι]=Z (.exc d)):ai [kpr j k π (ej n) Ν,.int 3,δ,ι,.int Ω]=bo U:=pG b e (P_ (v3 rfl) (P_ (v3 rfl) (P_ (v3 rfl) (lw (j:=kpr j k π (ej n) Ν) rfl (ac (j:=ι) rfl aj) rfl rfl h))))
theorem Mb(h:fu [ej n,.int Ω]=Z (.exc d)):cF [kpr j k π (ej n) Ν,.int Ω]=Z (.exc d):=by refine uN ?_;show cm [Z (kpr j k π (ej n) Ν),Z (.int Ω),Y]=_;unfold cm aA bI;rw[show av fu 2 (bA (f1 (kJ 0 3) (X 0)) (X 1)) [Z (kpr j k π (ej n) Ν),Z (.int Ω),Y]=Z (.exc d)from cE fu (ac (j:=ej n) rfl (ac (j:=.int Ω) rfl aj)) rfl h];rfl
theorem z7(h:fu [ej n,.int Ω]=Z (.ok δ))(a:Ω<Ν):cF [kpr j k π (ej n) Ν,.int Ω]=Z (.exc 6):=by refine uN ?_;show cm [Z (kpr j k π (ej n) Ν),Z (.int Ω),Y]=_;unfold cm;refine P_ (ar (aV (a:=[Z (kpr j k π (ej n) Ν),Z (.int Ω),Z δ]) (cE fu (ac (j:=ej n) rfl (ac (j:=.int Ω) rfl aj)) rfl h) rfl)) ?_;unfold aA;rw[ME ((jd (d:=0) (r:=1) (ψ:=aE) (y:=X 0) (ε:=ax (X 1)) (j:=kpr j k π (ej n) Ν) rfl rfl (ac (j:=.int Ω) rfl aj) rfl).trans (zY a))];rfl
theorem Mc(h:bR [j,ej n,δ,.int Ω]=Z (.exc d)):cj [kpr j k π (ej n) Ν,δ,.int Ω]=Z (.exc d):=by refine uN ?_;show ci [Z (kpr j k π (ej n) Ν),Z δ,Z (.int Ω),Y]=_;unfold ci aA bI;rw[show av bR 4 (iE (f1 (kJ 0 0) (X 0)) (f1 (kJ 0 3) (X 0)) (X 1) (X 2)) [Z (kpr j k π (ej n) Ν),Z δ,Z (.int Ω),Y]=Z (.exc d)from cE bR (ac (j:=j) rfl (ac (j:=ej n) rfl (ac (j:=δ) rfl (ac (j:=.int Ω) rfl aj)))) rfl h];rfl
theorem z8(h:bR [j,ej n,δ,.int Ω]=Z (.ok ι))(a:Ω<Ν):cj [kpr j k π (ej n) Ν,δ,.int Ω]=Z (.exc 6):=by refine uN ?_;show ci [Z (kpr j k π (ej n) Ν),Z δ,Z (.int Ω),Y]=_;unfold ci;refine P_ (ar (aV (a:=[Z (kpr j k π (ej n) Ν),Z δ,Z (.int Ω),Z ι]) (cE bR (ac (j:=j) rfl (ac (j:=ej n) rfl (ac (j:=δ) rfl (ac (j:=.int Ω) rfl aj)))) rfl h) rfl)) ?_;unfold aA;rw[ME ((jd (d:=0) (r:=1) (ψ:=aE) (y:=X 0) (ε:=ax (X 2)) (j:=kpr j k π (ej n) Ν) rfl rfl (ac (j:=.int Ω) rfl aj) rfl).trans (zY a))];rfl
theorem Md(b:Jar n):cC [kpr j k π (ej n) Ν,.str "a..b"]=Z (.exc 0):=by
 have a:eY [ej n,.str "a..b"]=Z (.exc 0):=by refine uN ?_;show eX [Z (ej n),Z (.str "a..b")]=_;unfold eX;refine P_ (ar (dY aW rfl (CF (jar_y b)))) ?_;unfold aA;rw[dX eW (f:=X 1) (a:=.str "a..b") rfl Hm];rfl
 refine uN ?_;show cB [Z (kpr j k π (ej n) Ν),Z (.str "a..b"),Y,Y]=_;unfold cB;unfold aA bI;rw[show av eY 2 (bA (f1 (kJ 0 3) (X 0)) (X 1)) [Z (kpr j k π (ej n) Ν),Z (.str "a..b"),Y,Y]=Z (.exc 0)from cE eY (ac (j:=ej n) rfl (ac (j:=.str "a..b") rfl aj)) rfl a];rfl
theorem Me(a:Jar n):fu [ej n,.int (-1)]=Z (.exc 6):=by refine uN ?_;show ik [Z (ej n),Z (.int (-1))]=_;unfold ik;refine P_ (ar (dY aW rfl (CF (jar_y a)))) ?_;unfold aA;rw[dX aT (f:=X 1) (a:=.int (-1)) rfl (Qp Hn)];rfl
theorem Mf(g:q∈jo å)(i:Jar n)(h:cy [j]=bo L):bR [.tup q,ej n,j,.int k]=Z (.exc 3):=by
 have f:bZ [.tup q,ej n,j,.int k]=Z (.exc 3):=by refine uN ?_;show bG [Z (.tup q),Z (ej n),Z j,Z (.int k)]=_;unfold bG;refine P_ (ar (dY aL rfl (Cp (dv g)))) (P_ (ar (dY aW rfl (CF (jar_y i)))) ?_);unfold aA;rw[dX bg (f:=X 2) (a:=j) rfl (Pn h)];rfl
 have e:dZ [.tup q,ej n,j,.int k]=Z (.exc 3):=by refine uN ?_;show jN [Z (.tup q),Z (ej n),Z j,Z (.int k),Y]=_;unfold jN;unfold aA;rw[ME (ZR bZ (f:=X 0) (g:=X 1) (k:=X 2) (m:=X 3) (a:=.tup q) (b:=ej n) (c:=j) (d:=.int k) rfl rfl rfl rfl f)];rfl
 refine uN ?_;show cY [Z (.tup q),Z (ej n),Z j,Z (.int k)]=_;have d:da (av dZ 4 (iE (X 0) (X 1) (X 2) (X 3))) [Z (.tup q),Z (ej n),Z j,Z (.int k)]=Z (.exc 3):=by unfold da;rw[ZR dZ (f:=X 0) (g:=X 1) (k:=X 2) (m:=X 3) (a:=.tup q) (b:=ej n) (c:=j) (d:=.int k) rfl rfl rfl rfl e];rfl
 have b:bU [] (da (av dZ 4 (iE (X 0) (X 1) (X 2) (X 3)))) Y (Q cR (Q cR (Q Î (X 0) (R 0)) (Ñ "=")) (Q Î (X 0) (R 1))) [Z (.tup q),Z (ej n),Z j,Z (.int k)]=Z (.exc 3):=by unfold bU;rw[d];rfl
 have a:ax (bU [] (da (av dZ 4 (iE (X 0) (X 1) (X 2) (X 3)))) Y (Q cR (Q cR (Q Î (X 0) (R 0)) (Ñ "=")) (Q Î (X 0) (R 1)))) [Z (.tup q),Z (ej n),Z j,Z (.int k)]=Z (.exc 3):=by show Ù (bU _ _ _ _ _) _=_;rw[b];rfl
 unfold cY aH;show cu (Ù (aK _ _ _) _) _=_;rw[show aK _ _ _=_ from a];rfl
def ZG(a b:Str):Option (Rs N):=Ù (cR (.str a) (.str "=")) λx=>cR x (.str b)
theorem Mg:(ħ.all λa=>ĭ.all λb=>match ZG a b with|some (.ok (.str x))=>(match mL (b_ "; ") [.lst [.str x]]with|some (.ok _)=>U|_=>L)|_=>L)=U:=by lk
theorem QE(g:à ν):∃x d,ZG ν.nm ν.w=Z (.ok (.str x))/\mL (b_ "; ") [.lst [.str x]]=Z (.ok d):=by
 have q:=aS (p:=λb=>match ZG ν.nm b with|some (.ok (.str x))=>(match mL (b_ "; ") [.lst [.str x]]with|some (.ok _)=>U|_=>L)|_=>L) (aS (p:=λa=>ĭ.all λb=>match ZG a b with|some (.ok (.str x))=>(match mL (b_ "; ") [.lst [.str x]]with|some (.ok _)=>U|_=>L)|_=>L) Mg g.nm) g.w;split at q
 · rename_i x e;split at q;·rename_i d f;exact⟨x,d,e,f⟩
   ·cases q
 ·cases q
theorem Hr(y:q∈jo å)(u:Jar n)(a:AW b i j){o:Bool}(z:∀A i,al [.tup q,á A b i j]=bo o)(I:0<=k)(H:k<=9999)(E:n.length<=1):∃d,bR [.tup q,ej n,á A b i j,.int k]=Z (.ok d):=by
 have e:=sent_w (Χ:=A) y u a z I H;have h:(snt (gon o n A b i k)).length<=1:=by rw[(pC _).length_eq];exact QV (RJ _ _) E
 have t:=sent_g (A:=o) (Χ:=A) (b:=b) (i:=i) (k:=k) u;generalize snt (gon o n A b i k)=R0 at e h t;have g:da (av dZ 4 (iE (X 0) (X 1) (X 2) (X 3))) [Z (.tup q),Z (ej n),Z (á A b i j),Z (.int k)]=Z (.ok (R0.map Õ)):=zV (ZR dZ (f:=X 0) (g:=X 1) (k:=X 2) (m:=X 3) (a:=.tup q) (b:=ej n) (c:=á A b i j) (d:=.int k) rfl rfl rfl rfl e);have m:∀(p:List Str)(d:N),(bU [] (da (av dZ 4 (iE (X 0) (X 1) (X 2) (X 3)))) Y (Q cR (Q cR (Q Î (X 0) (R 0)) (Ñ "=")) (Q Î (X 0) (R 1))) [Z (.tup q),Z (ej n),Z (á A b i j),Z (.int k)]=Z (.ok (.lst (p.map N.str))))->mL (b_ "; ") [.lst (p.map N.str)]=Z (.ok d)->bR [.tup q,ej n,á A b i j,.int k]=Z (.ok d):=λp d w v=>by refine kU ?_;show cY [Z (.tup q),Z (ej n),Z (á A b i j),Z (.int k)]=_;unfold cY;refine cH ?_;show Ù (aK _ _ _) _=_;rw[ac w aj];exact v
 rcases ln1 h with rfl|⟨f,rfl⟩;·exact⟨_,m [] _ (ef Õ (λ_=>N.non) g (by simp) (by simp)) rfl⟩
 ·obtain⟨x,d,e1,P⟩:=QE (t f (by simp));refine⟨d,m [x] d (ef Õ (λ_=>N.str x) g (by simp) λn' r=>?_) P⟩;rw[QK.mp r];exact e1
def OM(h:Str):Bool:=match gU [.str h]with|some (.ok (.lst a))=>a.all (λd=>match d with|.str x=>QI (.str x)|_=>L)&&(ù a&&þ a)&&A_ (a.length<=100)|_=>L
theorem Hs:(Ć.all OM)=U:=by lk
theorem lab_y(f:b∈Ć):∃a:List N,gU [.str b]=Z (.ok (.lst a))/\ē 1 (.lst a)/\ù a=U/\þ a=U/\a.length<=100:=by
 have q:=aS (p:=OM) Hs f;unfold OM at q;split at q
 · rename_i a e;simp only[p_,Q2,decide_eq_true_eq]at q;refine⟨a,e,rh λd g=>?_,q.1.2.1,q.1.2.2,q.2⟩;have z:=q.1.1 d g;split at z;·exact iq z
   ·cases z
 ·cases q
noncomputable def HJ(g:Str×Int):N:=.tup [.str g.1,.int g.2]
theorem z9:∀a:List (Str×Int),ù (a.map HJ)=U/\þ (a.map HJ)=U|[]=>⟨rfl,rfl⟩|g::a=>z9 a
theorem QF{b:List (Str×Int)}(h:∀g∈b,QI (.str g.1)=U):ē 2 (.lst (b.map HJ)):=rh λd a=>by
 obtain⟨g,e,rfl⟩:=QW.mp a;refine rg λd a=>?_;rcases t_.mp a with rfl|a;·exact iq (h g e)
 ·rw[QK.mp a];exact Ģ
def KL(a:List N)(d:List Note)(b:List (Str×Int)):N:=.lst [.lst a,.lst (d.map Õ),.lst (b.map HJ)]
theorem it_KL{e:List (Str×Int)}(i:ē 1 (.lst q))(h:∀a∈n,à a)(f:∀g∈e,QI (.str g.1)=U):ē 3 (KL q n e):=rh λd b=>by
 rcases t_.mp b with rfl|b;·exact i.le (by omega)
 · rcases t_.mp b with rfl|b;·exact zN h
   ·rw[QK.mp b];exact QF f
theorem noo_KL{a:List (Str×Int)}(b:ù q=U):Ă (KL q n a)=U:=by show(ù q&&(ù (n.map Õ)&&(ù (a.map HJ)&&U)))=U;rw[b,pE,(z9 a).1];rfl
theorem noo_A(a:j=.non\/∃o∈Ć,j=.str o):Ă (á A b i j)=U/\Ĭ (á A b i j)=U:=by rcases a with rfl|⟨o,_,rfl⟩<;>exact⟨rfl,rfl⟩
def EF(e:List Int)(t:List N)(g:List Note)(A X:N)(a:Int)(d f b k w o:Option N):Ev:=[Z (.scr e),Z (.tup t),Z (ej g),Z A,Z X,Z (.int a),d,f,b,k,w,o]
theorem Mh{b:List Int}{a w o:Option N}(i:ù q=U)(m:Ă j=U)(h:Ă δ=U)(g:Ă ι=U)(e:∀d,w=Z d->Ă d=U)(f:∀d,o=Z d->Ă d=U):ň 9 (EF b q n j δ k Y (Z ι) Y a w o)=U:=by
 refine L7 (OJ (MG rfl i (rJ n) m) h rfl) rfl g rfl rfl ?_ ?_;·cases w with|none=>rfl|some d=>exact e d rfl
 ·cases o with|none=>rfl|some d=>exact f d rfl
theorem ON{a:List Int}(g:þ q=U)(h:Ĭ j=U)(f:Ĭ δ=U)(b:N):Mx 6 (EF a q n j δ k (Z b) Y Y Y Y Y)=U:=by
 have e:Zt j=U:=by cases j<;>first|exact h|rfl
 have d:Zt δ=U:=by cases δ<;>first|exact f|rfl
 exact L7 (OJ (MG rfl g (pF n) e) d rfl) rfl rfl rfl rfl rfl rfl
theorem told_of{e:List Int}{d:List Note}{a:List N}{b:List (Str×Int)}(g:þ q=U)(h:Ĭ j=U)(f:Ĭ δ=U)(i:þ a=U)(p:a.length<=100)(o:d.length<=100)(m:b.length<=100):vL 6 7 8 Ο (EF e q n j δ k (Z (KL a d b)) Y Y Y Y Y)=Ο (EF e q n j δ k Y (Z (KL a d b)) Y Y Y Y):=by
 unfold vL;show(if _ then _ else _)=_;rw[if_pos];·rfl
 ·refine⟨by show 3<=1000;decide,?_,ON g h f _,by show 7<12;decide,by decide,by decide,by decide⟩;show(wb (.lst a)&&(wb (.lst (d.map Õ))&&(wb (.lst (b.map HJ))&&U)))=U;unfold wb;simp only[i,pF,(z9 b).2,QL,p_,decide_eq_true_eq,and_true,true_and];omega
theorem CP{F:List N->Option Đ}(i:Μ H=Z (.ok L))(b:H[d]?=Z (Z ι))(n:Ę r ι=U)(m:ň d H=U)(g:ε H=Z (.ok q))(f:q.length=Β)(k:F (ι::q)=Z (.ok δ Γ))(e:Ă δ=U)(h:y (H.set d (Z Γ))=Z (.ok À))(a:Ě δ À=Z (.ok (.bl L))):vK d r F Β ε Μ y j Ç H=nox (Ç (H.set d (Z Γ))):=by unfold vK;rw[i];dsimp only;refine P_ (uX b n m g f k) ?_;rw[if_pos e,h];dsimp only;rw[a]
theorem Ht{r:Option (Rs N)}(b:y H=Z (.ok (.bl U)))(a:È H=r):iD y È H=r:=by unfold iD;rw[b];exact a
theorem behind{h:List Int}{e:List Note}(x:Str)(r:q∈jo å)(a:Ak b i j)(hr:aB [δ]=Z (.ok Γ))(t:Ă δ=U)(P:Ă ι=U)(wl:QI (.str x)=U)(I:e.length<=1)(m:Jar e)(e1:1<=π)(m1:1<=Ν)(v0:bd [.tup q,ej [],á A b i j,δ,.int 5]=Z (.ok (.str x)))(v1:bd [.tup q,ej e,á A b i j,δ,.int 5]=Z (.ok (.str x)))(v:∃d,bd [.tup q,ej e,á A b i j,δ,.int 4]=Z (.ok d))(t0:bw [.tup q,ej [],á A b i j,Γ,.int 5]=Z (.ok (ej e)))(t1:bw [.tup q,ej e,á A b i j,Γ,.int 5]=Z (.ok (ej e))):∃o',o7 (EF h q n (á A b i j) δ k Y (Z ι) Y (Z (kpr (.tup q) π Ν (ej []) 0)) Y Y)=Z (.rt (.bl U) o'):=by
 have hT:=(OI r).1;have u:=(noo_A (A:=A) (b:=b) (i:=i) a.o).1;have W:=aw_of a;obtain⟨nr,_,E⟩:=near_w r a.h a.o;have g:=m.g;have fy:=QC (k:=π) (π:=Ν) r g I e1 m1;have H0:=z0 (k:=π) (π:=Ν) (Ν:=0) v0 (by decide) hr t0 fy (show Ă (.tup q)=U from hT) u t rfl;have H1:=z0 (k:=π) (π:=Ν) (Ν:=5) v1 (by decide) hr t1 fy (show Ă (.tup q)=U from hT) u t rfl;obtain⟨K,hK⟩:∃K,K=kpr (.tup q) π Ν (ej e) 5:=⟨_,rfl⟩;have nb:Ă (.tup [ej e,.int 5])=U:=by show(Ă (ej e)&&(U&&U))=U;rw[rJ];rfl
 refine⟨K,?_⟩;unfold o7;refine P_ (uX (δ:=kpr (.tup q) π Ν (ej []) 0) rfl rfl (Mh hT u t P (by simp) (by simp)) (ac (j:=á A b i j) rfl (ac (j:=δ) rfl (ac (j:=.int 5) rfl aj))) rfl H0) ?_;show nox (o6 (EF h q n (á A b i j) δ k Y (Z ι) Y (Z (kpr (.tup q) π Ν (ej e) 5)) (Z (.str x)) Y))=_;unfold o6;have nc:∀w o,fW (bA (gq 0 bY 0 (X 9) cM) (gq 0 bX 0 (X 9) cM)) (EF h q n (á A b i j) δ k Y (Z ι) Y (Z (kpr (.tup q) π Ν (ej e) 5)) w o)=Z (.ok (.tup [ej e,.int 5])):=λw o=>jE (ac ((jd (j:=kpr (.tup q) π Ν (ej e) 5) rfl rfl aj rfl).trans rfl) (ac ((jd (j:=kpr (.tup q) π Ν (ej e) 5) rfl rfl aj rfl).trans rfl) aj)) (by show 2<=100000;decide);refine P_ (congrArg nox (pD (j:=.tup [ej e,.int 5]) (nc _ _) (by decide))) ?_;show nox (o5 (EF h q n (á A b i j) δ k Y (Z ι) Y (Z (kpr (.tup q) π Ν (ej e) 5)) (Z (.str x)) (Z (.tup [ej e,.int 5]))))=_;have ib:=Hq (k:=5) g;have z:Ě (.tup [ej e,.int 5]) (.tup [ej e,.int 5])=Z (.ok (.bl L)):=zK ib (by omega);have c7:tK (EF h q n (á A b i j) δ k Y (Z ι) Y (Z (kpr (.tup q) π Ν (ej e) 5)) (Z (.str x)) (Z (.tup [ej e,.int 5])))=Z (.ok L):=bx ((bV (δ:=.tup [ej e,.int 5]) (nc _ _) rfl).trans z);have c6:tJ (EF h q n (á A b i j) δ k Y (Z ι) Y (Z (kpr (.tup q) π Ν (ej e) 5)) (Z (.str x)) (Z (.tup [ej e,.int 5])))=Z (.ok L):=c7;unfold o5;refine P_ (congrArg nox (CP (ι:=kpr (.tup q) π Ν (ej e) 5) (À:=.str x) c7 rfl rfl (Mh hT u t P (λd y=>by cases y;rfl) (λd y=>by cases y;exact nb)) (ac (j:=á A b i j) rfl (ac (j:=δ) rfl (ac (j:=.int 5) rfl aj))) rfl H1 rfl rfl (zK (iq wl) (by omega)))) ?_;show nox (nox (mz (EF h q n (á A b i j) δ k Y (Z ι) Y (Z (kpr (.tup q) π Ν (ej e) 5)) (Z (.str x)) (Z (.tup [ej e,.int 5])))))=_;obtain⟨d4,v⟩:=v;have R1:ai [kpr (.tup q) π Ν (ej e) 5,.int 0,á A b i j,δ,.int 4]=bo U:=pH g (by decide) (zZ v (by decide));have R2:ai [kpr (.tup q) π Ν (ej e) 5,.int 0,á A b i j,.str "",.int 6]=bo U:=pH g (d:=4) (by decide) (DV (rK (CM (dv r) (jar_y m) (zv a) CN)));have R3:ai [kpr (.tup q) π Ν (ej e) 5,.int 0,.tup [.bl A,.str b,.str i],δ,.int 6]=bo U:=pH g (d:=3) (by decide) (DV (rK (Hl (dv r) (jar_y m) z4)));obtain⟨d5,s5⟩:=Hr (A:=A) (k:=4) r m W E (by omega) (by omega) I;have R4:ai [kpr (.tup q) π Ν (ej e) 5,.int 1,á A b i j,δ,.int 4]=bo U:=uY g (by decide) (z8 s5 (by decide));have R5:ai [kpr (.tup q) π Ν (ej e) 5,.int 1,.tup [.bl A,.str b,.str i],δ,.int 6]=bo U:=uY g (d:=3) (by decide) (Mc (Mf r m z4));have R6:ai [kpr (.tup q) π Ν (ej e) 5,.int 2,á A b i j,δ,.int 4]=bo U:=uZ g (by decide) (z7 (Hd m (by omega) (by omega)) (by decide));have R7:ai [kpr (.tup q) π Ν (ej e) 5,.int 2,á A b i j,δ,.int (-1)]=bo U:=uZ g (d:=6) (by decide) (Mb (Me m));have R8:ai [kpr (.tup q) π Ν (ej e) 5,.int 3,á A b i j,.str "a..b",.int 0]=bo U:=CO g (d:=0) (by decide) (Md m);obtain⟨p,f⟩:∃p:Ev,p=EF h q n (á A b i j) δ k Y (Z ι) Y (Z (kpr (.tup q) π Ν (ej e) 5)) (Z (.str x)) (Z (.tup [ej e,.int 5])):=⟨_,rfl⟩;have c5:tH p=Z (.ok L):=by rw[f];exact nU (A:=L) (Χ:=L) (gp (A:=U) (bx (call5 ai rfl rfl rfl rfl rfl R1))) (gp (A:=U) (bx (call5 ai rfl rfl rfl rfl rfl R2)))
 have c4:tE p=Z (.ok L):=by rw[f];exact nU (A:=L) (Χ:=L) (gp (A:=U) (bx (call5 ai rfl rfl rfl rfl rfl R3))) (gp (A:=U) (bx (call5 ai rfl rfl rfl rfl rfl R4)))
 have c3:tx p=Z (.ok L):=by rw[f];exact nU (A:=L) (Χ:=L) (gp (A:=U) (bx (call5 ai rfl rfl rfl rfl rfl R5))) (gp (A:=U) (bx (call5 ai rfl rfl rfl rfl rfl R6)))
 have v6:tj p=Z (.ok (.bl U)):=by rw[f];exact Ht (call5 ai rfl rfl rfl rfl rfl R7) (call5 ai rfl rfl rfl rfl rfl R8)
 rw[<-f]at c6⊢;have H:mz p=Z (.rt (.bl U) K):=by unfold mz tI tG tz tw;rw[uW c6,if_neg (by decide),uW c5,if_neg (by decide),uW c4,if_neg (by decide),uW c3,if_neg (by decide)];exact Hh v6 (by rw[f,hK];rfl)
 rw[H];rfl
end J
open TS
open J in
theorem CQ(k:List Int)(hl:k.length<=63):zp [.scr k]=Z (.ok (.bl U)):=by
 obtain⟨t,q,eT⟩:=Ck k hl;obtain⟨n,jn,eJ,Jr,z',JJ⟩:=J.jar_ok k hl 10 4 (by omega);obtain⟨s,h,p,O,m1,m2,m3,eA⟩:=Co k hl 80;obtain⟨nm,w,H,P,u,l,S,e,g,eG⟩:=Cw k hl 90 m1;have a:Ak h p O:=⟨me m1,m2,m3⟩;obtain⟨qh,qp,qu,ql,gw,f'⟩:=Ox g;have gj:=Jr.g;have jl:=Jr.l;obtain⟨b,hX⟩:∃b,b=N.str (T nm w qh qp qu ql S e):=⟨_,rfl⟩;have rd:aB [b]=Z (.ok (Ā nm w H P u l S e)):=by rw[hX,f'];exact LP gw
 have nX:Ă b=U/\Ĭ b=U:=by rw[hX];exact⟨rfl,rfl⟩
 obtain⟨f,eL,L0,L1,hu,_⟩:=J.last_ok (n:=n) jl (λo ho=>⟨by have:=(gj o ho).mk0;have:=(gj o ho).mu;omega,JJ.u o ho⟩) (j:=[Z (.scr k),Z (.tup t),Z (J.ej n),Z (á s h p O),Z b,Y,Y,Y,Y,Y,Y,Y]) rfl;obtain⟨now,k'⟩:∃now,now=f+1:=⟨_,rfl⟩;have n0:0<=now:=by omega
 have n1:now<=99:=by omega
 have n9:now<=9999:=by omega
 have b':∀o∈n,o.us<=now:=λo ho=>by have:=hu o ho;omega
 have A:J.AW h p O:=J.aw_of a;obtain⟨nr,_,n'⟩:=J.near_w q a.h a.o;obtain⟨m,u',j',g',a',h'⟩:=J.lab_y m1;obtain⟨r,r',y',v'⟩:=J.groups_of q Jr;have e':=J.sent_w (Χ:=s) q Jr A n' n0 n9;have d':=J.sent_g (A:=nr) (Χ:=s) (b:=h) (i:=p) (k:=now) Jr;have l':=J.sent_l (A:=nr) (Χ:=s) (b:=h) (i:=p) (k:=now) Jr;generalize J.snt (J.gon nr n s h p now)=v at e' d' l';obtain⟨xw,m',ew,ys,et,gy,ly⟩:=J.take_any (Χ:=s) q a g Jr n0 n1 b';have c':ao [.tup t,J.ej n,á s h p O,b,.int now]=Z (.ok (Ā nm w H P u l S e)):=J.rwy (dv q) (J.jar_y Jr) (zv a) rd (J.mom_y n0 n9);have i':(n.any λo=>A_ (o.us>now))=L:=by rw[Yq];intro o ho;have:=b' o ho;simp;omega
 have q':io [.tup t,J.ej n,á s h p O,b,.int now]=Z (.ok (J.ej ys)):=J.taken_of jl c' i' et ly;have p':=J.verdict_of c' ew;refine eR ?_;show zo [Z (.scr k),Y,Y,Y,Y,Y,Y,Y,Y,Y,Y,Y]=_;unfold zo;refine P_ (ar (aV (a:=[Z (.scr k),Z (.tup t),Y,Y,Y,Y,Y,Y,Y,Y,Y,Y]) (dw eZ rfl rfl eT) rfl)) ?_;refine P_ (ar (aV (a:=[Z (.scr k),Z (.tup t),Z (J.ej n),Y,Y,Y,Y,Y,Y,Y,Y,Y]) (rp jk rfl rfl rfl eJ) rfl)) ?_;refine P_ (ar (aV (a:=[Z (.scr k),Z (.tup t),Z (J.ej n),Z (á s h p O),Y,Y,Y,Y,Y,Y,Y,Y]) (dw jj rfl rfl eA) rfl)) ?_;have w3:sV [Z (.scr k),Z (.tup t),Z (J.ej n),Z (á s h p O),Y,Y,Y,Y,Y,Y,Y,Y]=Z (.ok b):=by refine gH il (a:=Ā nm w H P u l S e) (rp eV (c:=.str h) rfl rfl rfl eG) ?_;rw[hX,f'];exact GM (Oy gw)
 refine P_ (ar (aV (a:=[Z (.scr k),Z (.tup t),Z (J.ej n),Z (á s h p O),Z b,Y,Y,Y,Y,Y,Y,Y]) w3 rfl)) ?_;have w4:sW [Z (.scr k),Z (.tup t),Z (J.ej n),Z (á s h p O),Z b,Y,Y,Y,Y,Y,Y,Y]=Z (.ok (.int now)):=by rw[k'];exact(bV (j:=.int f) (δ:=.int 1) eL rfl).trans (J.addT_ii f 1)
 refine P_ (ar (aV (a:=J.EF k t n (á s h p O) b now Y Y Y Y Y Y) w4 rfl)) ?_;have w5:∀x6 x7 x8,sX (J.EF k t n (á s h p O) b now x6 x7 x8 Y Y Y)=Z (.ok (J.KL m v r)):=λx6 x7 x8=>ox (ac (gH gU (a:=.str h) rfl u') (ac (J.call4 dZ rfl rfl rfl rfl e') (ac (dw i7 rfl rfl r') aj))) (by show 3<=100000;decide);refine P_ (ar (aV (a:=J.EF k t n (á s h p O) b now (Z (J.KL m v r)) Y Y Y Y Y) (w5 _ _ _) rfl)) ?_;refine P_ (J.told_of (OI q).2 (J.noo_A m3).2 nX.2 a' h' (by omega) (by omega)) ?_;unfold tL;have c0:sY (J.EF k t n (á s h p O) b now Y (Z (J.KL m v r)) Y Y Y Y)=Z (.ok L):=bx ((bV (δ:=J.KL m v r) (w5 _ _ _) rfl).trans (zK (J.it_KL j' d' v') (by omega)));have c1:sZ (J.EF k t n (á s h p O) b now Y (Z (J.KL m v r)) Y Y Y Y)=Z (.ok L):=by have z:ae io 5 (jf (X 1) (X 2) (X 3) (X 4) (X 5)) (J.EF k t n (á s h p O) b now Y (Z (J.KL m v r)) Y Y Y Y)=Z (.ok (J.ej ys)):=J.call5 io rfl rfl rfl rfl rfl q';exact bx ((bV z z).trans (zK (J.it_ej gy) (by omega)))
 have c2:td (J.EF k t n (á s h p O) b now Y (Z (J.KL m v r)) Y Y Y Y)=Z (.ok L):=by have z:ae bd 5 (jf (X 1) (X 2) (X 3) (X 4) (X 5)) (J.EF k t n (á s h p O) b now Y (Z (J.KL m v r)) Y Y Y Y)=Z (.ok (.str xw)):=J.call5 bd rfl rfl rfl rfl rfl p';exact bx ((bV z z).trans (zK (iq (aS (p:=λx=>QI (.str x)) J.wds_lay m')) (by omega)))
 refine P_ (ar (cw c0)) (P_ (ar (cw c1)) (P_ (ar (cw c2)) ?_));obtain⟨d1,i0,i1,t'⟩:=aZ k hl 110 4 (by omega);obtain⟨I,i2,i3,s'⟩:=aZ k hl 111 4 (by omega);obtain⟨x,hx,zs,lz,Jz,w0,w1,t0,t1⟩:=J.twice (Χ:=s) (k:=5) q a g (by omega) (by omega);have E:∀qs:List J.Note,J.Jar qs->∀i:Int,0<=i->i<=9999->ao [.tup t,J.ej qs,á s h p O,b,.int i]=Z (.ok (Ā nm w H P u l S e)):=λqs Jq i i0 i1=>J.rwy (dv q) (J.jar_y Jq) (zv a) rd (J.mom_y i0 i1);have v4:∃d,bd [.tup t,J.ej zs,á s h p O,b,.int 4]=Z (.ok d):=by
  obtain⟨w',x',ex,wd,W⟩:=GK q a g s;rcases W.win with rfl|⟨y,_,rfl⟩;·obtain⟨j,hN,gN,_⟩:=J.note_of (k:=4) g W (by omega) (by omega);exact⟨_,J.verdict_of (E zs Jz 4 (by omega) (by omega)) (J.word_y q a g (by omega) (by omega) W hN gN Jz.g (by omega))⟩
  ·exact⟨_,J.verdict_of (E zs Jz 4 (by omega) (by omega)) (J.word_x W (by simp))⟩
 obtain⟨o',eb⟩:=J.behind (h:=k) (n:=n) (k:=now) (π:=1+d1) (Ν:=1+I) (ι:=J.KL m v r) x q a rd nX.1 (J.noo_KL g') (aS (p:=λx=>QI (.str x)) J.wds_lay hx) lz Jz (by omega) (by omega) (J.verdict_of (E [] J.jar0 5 (by omega) (by omega)) w0) (J.verdict_of (E zs Jz 5 (by omega) (by omega)) w1) v4 t0 t1;unfold vJ;rw[show(bT (X 1) (Q cK (R 1) (ae ag 3 (bT (X 0) (R 110) (R 4)))) (Q cK (R 1) (ae ag 3 (bT (X 0) (R 111) (R 4))))) (J.EF k t n (á s h p O) b now Y (Z (J.KL m v r)) Y Y Y Y)=Z (.ok [.tup t,.int (1+d1),.int (1+I)])from ac rfl (ac ((bV (j:=.int 1) (δ:=.int d1) rfl (rp ag rfl rfl rfl t')).trans (J.addT_ii 1 d1)) (ac ((bV (j:=.int 1) (δ:=.int I) rfl (rp ag rfl rfl rfl s')).trans (J.addT_ii 1 I)) aj))];dsimp only;rw[if_pos (show[N.tup t,.int (1+d1),.int (1+I)].length=3 from rfl),J.init_of (j:=.tup t) (k:=1+d1) (π:=1+I) (dv q) (OI q).1 (by omega) (by omega) (by omega) (by omega)];dsimp only;rw[show((J.EF k t n (á s h p O) b now Y (Z (J.KL m v r)) Y Y Y Y).set 9 (Z (J.kpr (.tup t) (1+d1) (1+I) (J.ej []) 0)))=J.EF k t n (á s h p O) b now Y (Z (J.KL m v r)) Y (Z (J.kpr (.tup t) (1+d1) (1+I) (J.ej []) 0)) Y Y from rfl,eb]
theorem walk{l:W3}{A:(Str->Option D)->J_->Prop}{j:w_->J_->Prop}{d:DefRec}{K:Vz->d_}(t:l.most=Z 63)(k:d.params.defaults=[])(y:∀(w:w_)(h:J_),j w h->(K w.params).In h)(m:∀(w:w_)(h:J_),j w h->h.get? e=Z {cls:=.none,data:=.fields #[]}/\Xm h e/\(K w.params).lookup e=Y)(F:∀(w:w_)(i:Str->Option D)(q:B)(h:J_),(K w.params).In h->h.Ns z_ i->i d.name=Z (.ref q)->∃o:Rj,(∀(s:g_)(u:D),WR s o ⟨[u],[]⟩ [("_law_script",u)])/\∀g:J_,(K w.params).In g->g.Ns z_ i->è l.prog w (K w.params) i g ċ 13 q o ["_law_script"] (KM e qL (K w.params) zp 1)):Ze p z A j l.row.toRowW d [] (λf r=>Y4 f r):=B9 (d:=63) (r:=13) (b:="_law_script") (CX:=λ_=>ċ) (sp:=λw=>KM e qL (K w.params) zp 1) t (by decide) k ⟨rfl,by decide,by decide,rfl⟩ y m F (λ_ _ a n v hS hT=>⟨hT,[.scr n],⟨.ref a,[],rfl,⟨a,rfl,hS⟩,rfl⟩,rfl,by rw[CQ n v];exactλ_=>rfl⟩) λ_ _ _ _ _ b=>b
end G
variable{ι Γ À:FD.N}{Υ:Option Str}{ν:G.J.Note}{n:List G.J.Note}{Ν Ω:Int}
open PySem.W
set_option maxRecDepth 100000 in
theorem PySem.Challenge.cw_notejar_k90_again_and_shared_holds : PySem.Challenge.rw_notejar_k90_again_and_shared.Holds := by
 refine G.hld fun d=>?_;refine PySem.W.holds_open (q:=G.VQ) (loose:=G.VL) (Xt:=fun s=>recOk [] s) (XP:=fun _ _=>True) (Yf:=Hook.obs (Zk G.KK G.KA G.KA_ok)) (Ya:=Hook.val (Zk G.KK G.KA G.KA_ok)) (YP:=Hook.says (Zk G.KK G.KA G.KA_ok)) (N:=10300) G.left (Hook.of (Zk G.KK G.KA G.KA_ok)) (Hook.keeps (Zk G.KK G.KA G.KA_ok)) (fun _ _=>trivial) (fun _ _ _ _ _=>trivial) (by rfl) (by rfl) (by rfl) (fun s e=>recFacts_of e) (by rfl) (by first | assumption | decide +kernel) (by decide +kernel) G.hbr ?hw ?hc
 (case hw=>w_witness2)
 refine G.walk (l:=r9_) rfl rfl (K:=G.KL) (e:=524) (fun w h a=>G.KL_in (Xo a)) (fun w h a=>⟨G.KT_in (Xo a),FD.ctB_tab (v:=527) (G.KL_in (Xo a)) (by lk),by lk⟩) ?F
 case F =>
  intro w i j h g f b;exact G.all_mk (C0:=37) (C1:=49) (C2:=61) (C3:=73) (C4:=85) (C5:=97) (C6:=109) (CJ:=24) g f b (G.af 123 "notejar.kinds" 319) (G.af 551 "notejar.room" 921) (G.af 116 "notejar.kinds" 319) (G.af 137 "notejar.names" 344) (G.af 142 "notejar.names" 344) (G.af 149 "notejar.names" 344) (G.af 154 "notejar.names" 344) (G.af 168 "notejar.names" 344) (G.af 187 "notejar.names" 344) (G.af 194 "notejar.names" 344) (G.af 201 "notejar.names" 344) (G.af 208 "notejar.names" 344) (G.af 215 "notejar.names" 344) (G.af 558 "notejar.room" 921) (G.af 582 "notejar.room" 921) (G.af 575 "notejar.room" 921) (G.af 587 "notejar.room" 921) (G.af 568 "notejar.room" 921) (G.af 292 "notejar.giving" 549) (G.af 297 "notejar.giving" 549) (G.af 222 "notejar.paths" 453) (G.af 304 "notejar.giving" 549) (G.af 325 "notejar.giving" 549) (G.af 332 "notejar.giving" 549) (G.af 337 "notejar.giving" 549) (G.af 407 "notejar.notes" 636) (G.af 393 "notejar.notes" 636) (G.af 379 "notejar.notes" 636) (G.af 344 "notejar.notes" 636) (G.af 351 "notejar.notes" 636) (G.af 130 "notejar.kinds" 319) (G.af 271 "notejar.asks" 489) (G.af 278 "notejar.asks" 489) (G.af 250 "notejar.asks" 489) (G.af 257 "notejar.asks" 489) (G.af 311 "notejar.giving" 549) (G.af 318 "notejar.giving" 549) (G.af 264 "notejar.asks" 489) (G.af 229 "notejar.paths" 453) (G.af 236 "notejar.paths" 453) (G.af 386 "notejar.notes" 636) (G.af 285 "notejar.asks" 489) (G.af 358 "notejar.notes" 636) (G.af 182 "notejar.names" 344) (G.af 365 "notejar.notes" 636) (G.af 400 "notejar.notes" 636) (G.af 479 "notejar.jars" 772) (G.af 414 "notejar.notes" 636) (G.af 469 "notejar.jars" 772) (G.af 243 "notejar.paths" 453) (G.af 505 "notejar.jars" 772) (G.af 498 "notejar.jars" 772) (G.af 515 "notejar.jars" 772) (G.af 443 "notejar.jars" 772) (G.af 438 "notejar.jars" 772) (G.af 372 "notejar.notes" 636) (G.af 433 "notejar.jars" 772) (G.af 450 "notejar.jars" 772) (G.af 486 "notejar.jars" 772) (G.af 493 "notejar.jars" 772) (G.af 664) (G.af 671) (G.af 678) (G.af 690) (G.af 697) (G.af 704) (G.af 716) (G.af 161 "notejar.names" 344) (G.af 474 "notejar.jars" 772) (G.af 421 "notejar.notes" 636) (G.af 428 "notejar.notes" 636) (G.af 522 "notejar.jars" 772) (G.af 527 "notejar.jars" 772) (G.af 532 "notejar.jars" 772) (G.af 464 "notejar.jars" 772) (G.af 723) (G.af 683) (G.af 711) (G.af 563 "notejar.room" 921) (G.af 175 "notejar.names" 344) (G.af 457 "notejar.jars" 772) (G.af 510 "notejar.jars" 772) (FD.ck_mk (d:=0) (e:=653) (by lk) (by lk) (by lk) (by lk) (by lk) (by lk)) (G.amf 601 "notejar.keepers" 975 600) ⟨by lk,by lk,by lk,by lk⟩ (G.am (G.amf 615 "notejar.keepers" 975 614)) (G.am (G.amf 622 "notejar.keepers" 975 621)) (G.am (G.amf 629 "notejar.keepers" 975 628)) (G.am (G.amf 608 "notejar.keepers" 975 607)) (G.am (G.amf 650 "notejar.keepers" 975 649)) (G.am (G.amf 636 "notejar.keepers" 975 635)) (G.am (G.amf 643 "notejar.keepers" 975 642)) (G.af 728) (by lk) (by lk) (by lk) (by lk)
#print axioms PySem.Challenge.cw_notejar_k90_again_and_shared_holds
