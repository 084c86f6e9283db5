import PyProof.Rows.All
import Wide.All
import OpenK.AllK
import Wide.FinOn
import Lean
import PyProof.EqAt
import PyProof.EqKinds
import PyProof.TupleCall
import PySem.SetTable
import PyProof.SetKind
import PyProof.TupleKey
import PyProof.DictKinds
import PyProof.Rows.SetFrom
import PyProof.ZipIter
import KE.KIntText
import PyProof.EnumIter
import PyProof.Rows.SortStr
import PyProof.Rows.SortWalk
import PyProof.Rows.MinMaxN
import PyProof.ConsumeWalk
import PyProof.CollectWalk
import PyProof.WalksMore
import PyProof.CollectStr
import PyProof.Rows.SortShellK
import PyProof.Rows.SortRunsK
import PyProof.SeqI3
import KE.KSortKey
import PyProof.Rows.CallKwBuiltin
import PyProof.SumAny
import KE.KLam
import PyProof.StrLawsTight
import PyProof.Rows.StrDigits
import PySem.Challenge.RW_notejar_k71_whole_keepers
open Option renaming some->Z,none->U,map_some->Ub,map_eq_some_iff->Ux,isSome_iff_exists->Vc,all_some->VD,bind_eq_some_iff->Wi,getD_some->aae,getD_none->aaf
open PySem.Str renaming ofString->b_,length->Xv
open PySem renaming wpAny_bind->c_,Value->R,Shared->g_,wpAny_pure->j_,Addr->O,starEach->l_,Program->on,wpAny->t_,Expr->u_,Around->x_,model->y_,World->z_,mainGlobals->H_,Heap->M_,behindInMarks->R5,backTo->R8,assignEach->Si,foldedSetIterable->Sj,compareOp->So,wpAny_newObj_type->Sv,wpAny_mono->Sw,wpAny_callSpecial?_slot->Sz,wpAny_holding->SL,strKind->SM,keywordEach->SN,FuncData->SO,wpAny_setState_of->SQ,wpAny_call_entry->SY,cellsFrom->SZ,wpAny_setField_rec->S5,Stmt->S7,wpAny_Call_Name_kw->S_,codeAny_builtin->Td,swapsWith->To,Builtin->Tq,wpAny_field->Ts,wpAny_seqItems->Tw,backToKw->Tx,bootBuiltins->TC,Scope->TF,rawInt->TH,attributeBase->TU,wpAny_truthy_bool->TW,codeAny_mono->TX,wpAny_attempt->UB,wpAny_rule->UG,wpAny_typeOf->UU,wpAny_of_eq->UV,binaryOp->UX,wpAny_setEntries_of->Vd,mem_of_lookup->Ve,codeAny->Vf,wpAny_getItem_str_slice->Vh,wpAny_askSetting->Vi,assign->Vj,NameKind->Vm,closureFor->Vu,Keyword->Vw,Model->VB,pyNext->VH,wpAny_pyIter_list->VI,holding->VJ,firstArgMember->VP,wpAny_newList->V3,wpAny_passesOwn->V6,wpAny_pyIter_tuple->V9,typeIs_str->V_,call_meets->Wa,sliceBounds->We,PassesOwn->Wf,wpAny_storeSet_of->Wo,wpAny_runValue->Wp,newFunctionEnv->Wq,IsPair->Ww,weight_type_call_type->WJ,wpAny_isInstance->WN,wpAny_forIn_list->WO,wpAny_call->WP,plainId_quiet->WU,sizeLine_eq->WX,codeAny_call_builtin->WY,post_val_or_str->W4,letOwnedTupleGo->W5,codeAny_of_tree->W6,Params->W7,pickOrder->Xm,Fin->Xn,wpAny_newFunctionEnv_cells->Xo,wpAny_fieldsOf->Xp,bindArgs->Xq,wpAny_comprehension_free->XV,setSearchFrom->XX,Result->XY,relayAll->X1,putSet_of->X2,noFill_tuple_add->X3,codeAmong->X4,check_set_init_1->X5,standAt->Ym,setNext->Yn,setAddHashed->Yo,getItem->Yp,IsPart->Yu,wpAny_execs_nil->YD,importedModules->YE,wpAny_eqIsQuiet_tuple->YL,builtinLookup_eq_fast->YM,wpAny_updateSeq_pair->YT,wpAny_newTuple->YU,unsupported->YV,setAddHashedIn->YW,lookup_relabel_local->YX,isSubtype_type->YY,isSubtype_stop->YZ,isCodeTable->Y0,IsZip->Y4,GenState->Y5,treeTable->Zd,getMethod->Ze,collect->Zf,callerA->Zg,wpAny_standAt->Zp,wpAny_onRaise->Zq,wpAny_handled->Zr,swapsWithSole->Zs,swappedStores->Zt,seq_tuple_add->Zu,setsByText->Zy,pyIter->Zz,notedBy->ZJ,newList->ZK,list_append->ZL,concat_meets->ZM,Within->ZN,BindsTo->ZV,TriplesOk->Z_,Thread->X',wpAny_throw->aaj,wpAny_letGo->aak,subscripted->aal,strIterType->aam,seqIndex_of->aan,relabel->aaw,typeOf->aaz,storeSet->aaA,slotArgs->aaB,newTuple->aaC,intText?->aaD,field->M',call->aaF,boot_len->aaG,bindL->j',bindC->ž,again->N',ZipApart->aaK,ItemsAre->aaO,CmpOp->J'
open PySem.W renaming Frag->d_,keepIn->SU,findIn->Te,kia_one->Tl,nsIn->Tp,emptyDict->Tt,fnOf->Uh,instObj->Um,mg_of->UC,kitOne->Vk,kla_obj->VA,plainGet->VU,hasDictIn->Wr,codeIn->Ws,cellsFrom_some->Wu,plainGet_of->Xd,lookIn->Xr,callWith_K->Xs,plainOver->XH,methodObj->XJ,isFn->Yq,absHeap->Yr,takerIn->YF,OpenLaw->YG,methodCall_KW->YN,kla_fn->Y1,kIn_of->Y2,kitx_list->ZO,kitx_dict->ZP,handedIn->Z8,makesIn->aat,through->aax,openEnds->aaL,WalkO->aaV,kHook->aaZ
open Bool renaming true->L,false->D,and_eq_true->pi,false_eq_true->A_,false_ne_true->C_,eq_iff_iff->SS,not_eq_true'->Tu,and_eq_true_iff->TQ,not_true->V5,not_false->WG,not_not->YB
open PySem.Heap renaming get?_push_of_some->i_,get?_push_size->n_,lt_size->v_,size_push->L_,get?_update_ne->SG,get?_update_self->Tv,get?_update_other->Ut,SameBut->Uu,get?_none_of_le->UY,size_update->X7,get?_push_ne->ZS,ExtBut->aap
open List renaming mem_cons_of_mem->m_,mem_cons_self->o_,mem_append_right->q_,range->rl,getElem?_eq_getElem->s_,mem_cons->w_,getElem?_eq_some_iff->xy,length_map->E_,size_toArray->G_,prefix_refl->I_,map_cons->K_,getElem?_map->O_,replicate->P_,mem_append_left->RX,pairwise_cons->RY,not_mem_nil->R6,mem_map->R7,mem_filter->R_,mem_singleton->Sf,mem_of_getElem?->Sg,getElem?_set_self->Sh,getElem?_append_right->Sn,lookup_cons->Sq,mem_append->Sr,getElem?_append_left->Su,getElem?_set_ne->Sy,length_cons->SD,length_set->SF,mem_range->SH,map_map->SJ,length_append->SV,length_filter_le->SX,all_eq_true->S3,set_cons_zero->Ta,set_cons_succ->Tc,filter_sublist->Th,all_cons->Tn,getD->Tr,nodup_cons->TD,length_eq_zero_iff->TN,filter_eq_self->T_,append_nil->Uc,length_replicate->Ud,getElem?_eq_none->Ue,getElem?_range->Us,lookup_append->UK,pairwise_iff_getElem->UN,map_append->UQ,mem_iff_getElem->U6,length_range->U7,filter_congr->U8,getElem_mem->Vr,lookup->Vt,zip_cons_cons->Vx,take_of_length_le->Vy,filter_filter->Vz,pairwise_map->VM,perm_append_singleton->VR,getD_eq_getElem?_getD->VS,getElem_map->VW,countP_cons->VX,any_eq_true->VY,toList_toArray->V1,filterMap_cons->V2,getElem?_replicate->Wl,getElem?_cons_succ->Wm,range_succ_eq_map->WD,forIn_nil->WE,append_assoc->WF,length_drop->WQ,ext_getElem->WR,drop_length->WS,any_cons->WW,length->W1,range_succ->W_,of_mem_zip->Xa,forIn_cons->Xb,countP_eq_length_filter->Xc,map_congr_left->Xe,set_set->Xl,prefix_append->XC,length_eraseIdx_of_lt->XD,getElem?_drop->XE,filterMap_map->XF,drop_zero->XG,any_eq_false->XR,getElem?_take_of_lt->X0,zipIdx_cons->Yg,pairwise_singleton->Yh,length_take->Yi,getElem_zip->Yj,filter_cons_of_pos->Yk,filter_cons_of_neg->Yl,pairwise_lt_range->YA,zipIdx_nil->YI,pairwise_reverse->YR,length_singleton->YS,not_lt->Y_,lt_irrefl->Za,reverse_append->Zn,getElem_of_mem->Zo,lt_trans->Zw,mem_filterMap->ZF,forIn_toArray->ZG,take_add_one->Z0,reverse_perm->Z1,nodup_append->Z2,mapM_toArray->Z3,getElem_take->Z4,ext_getElem?->Z5,le_antisymm->aah,getElem_inj->aai,foldl_cons->aau,countP_map->aav
open PySem.Value renaming type->p_,ref->B_,none->F_,bool->R9,str->Ti,builtin->Ui,isStrOf->VF,int->Zh,isStrOf_shape->Zj,float->aao
open Nat renaming le_refl->r_,ne_of_lt->D_,lt_of_lt_of_le->Q_,le_trans->RZ,zero_le->Sb,lt_succ_of_lt->SA,eq_of_beq_eq_true->SE,le_of_ble_eq_true->SW,lt_succ_self->Tf,lt_irrefl->Tg,le_add_right->Uf,ne_of_gt->Uy,ne_of_beq_eq_false->Uz,zero_add->U1,le_of_lt_succ->U4,le_of_lt->U5,beq->VV,not_lt_zero->V8,mod_lt->Wc,le_succ->Wj,succ_pos->WB,sub_self->WC,le_of_eq->Xj,ble->Xk,lt_trichotomy->XQ,add_sub_cancel_left->Ye,lt_trans->Yz,add_left_cancel->Zm,succ_add->ZZ,min_le_right->aag
open Decidable renaming decide->uk
open PySem.Obj renaming mapSeq->J_,mk->Tz,putSet->Va,data_mapFields->ZD
open Eq renaming trans->N_
open PySem.SetTable renaming insertAt->Sa,grown->TY,insertAt_perm->Yt,leap->Zv,turns->ZQ,tooFull->aab,advance->aac,runEnd->aaM,layClean->aaN,fits->aaW,fill->aaX
open Option.some renaming inj->Sd,injEq->U0
open PyProof.Rows renaming seqObj->Se,callWith_type1->S6,slot_tuple_getitem->S8,get?_update_seq->Ua,envOfC->Uo,SortSt->UJ,listItems_at->UZ,callWith_builtin1->Vn,SortKind->Vo,listUpdate_at->VG,arrOf->WA,Keyed->WK,AllBare->XO,pendingOf->Yd,subscriptTail_builtinR->Yw,call_function_entry_kw->Yx,IntsAre->Yy,entry_list_sort->YH,boot_max->YQ,slot_list_sort->Y8,failedOf->Y9,oneLt'_eq->Zi,lt_str->Zl,typeIs_bool'->ZW,plain_sorted->ZX,entry_sorted->ZY,strOf->Ż,seqEpoch_at->aar,kind_sorted->aas,StrsAre->aay,ksk_tree->aaR,ksk_rest->aaS,IsTup->F'
open PySem.Txt renaming startswith->Sk,stripChars->Uk,partition->UD,split->UO,join->Vl,endswith->Xh,slice_le->Ys,slice->Z9,rfind->aa0
open PySem.PyData renaming canLay0->Sl,eqv->SI,canLayAll0->TZ,eqvAll->UF,depthAll->V7,depth->Wv
open PySem.F renaming called_set->Sm,slot_tuple_iterator_next->UH,args_tuple_add_2->V4,plainAttrs_list->Wg,entry_tuple_add->Wh,slot_str_split->Wn,slot_tuple_add->Wx,slot_list_append->WZ,slot_zip_next->W8,args_tuple_iterator_next_1->W9,entry_tuple_iterator_next->Xi,args_str_split_2->Xw,entry_type_call->XM,entry_str_split->XN,typeCall_set_1->X8,slot_str_partition->X9,slot_list_index->X_,slot_list_count->Yb,entry_set_init->Yc,sub_list_frozenset->Y6,args_list_append_2->Y7,entry_list_append->Zk
open PySem.Builtin.Str renaming occurrences->Ss,strKind->Uq,glued->ZU
open Array renaming length_toList->Sx,getElem?_eq_some_iff->Tk,forIn_toList->UL,mem_toList_iff->U9,size_map->Vs,getD_eq_getD_getElem?->VO,getElem?_map->Wd,toList_push->WH,toList->WI,getElem?_toList->WL,size_append->XT,replicate->YK,append_assoc->ZH
open False renaming elim->SK
open PySem.Builtin.SmallTypes renaming nextOf->S9,ownedTupleIsFree->TB,ownedTupleHandOut->V0
open PySem.ClassData renaming mk->Tj
open PySem.Around renaming under_plainId->TJ,under_plain->XB,under->Yv
open PyProof.Rows.F renaming plain_set_update_loop->TM,entry_set_update_loop->Vq
open PySem.NameKind renaming free->TV,cell->Uj
open Int renaming emod_lt_of_pos->Ug,emod_nonneg->UR,toNat_natCast->VN,le_refl->W3,le_trans->Z6
open PySem.Data renaming fields->Ul,dict->UP,cls->W0
open PySem.Heap.SameBut renaming update->Ur
open PySem.Builtin.List renaming listExtendWith->Uw,listItems->Wz,listSameRef->XZ
open PySem.Builtin.Slice renaming slicePlaces->UM,sliceAdjust->VZ,sliceApplied->XA
open PySem.Shared renaming TypeIs->U_
open PySem.Builtin.Tuple renaming tupleExact->Vb,tupleItemsOf->Xz
open Ne renaming symm->Vg
open PySem.Builtin.Frozenset renaming updateFrom->VC,newClass->aaQ,sizeOf->aaY,slot0->aa1
open ForInStep renaming yield->VE
open Sum renaming inl->VT,inr->Zc
open PySem.Code renaming quiet_builtin->Wb,isFrame->ZT
open PySem.Calls renaming spliced_nil->Wy,spliced_cons->Xx,Name_function_global->Xy
open True renaming intro->WM
open LawfulBEq renaming eq_of_beq->WT
open PySem.SetTable.layClean renaming free->WV
open PySem.W.Fast renaming tw11892475500146522536->Xf,tw10156331382660048174->Xg,tw6613529449190102663->Xu
open List.Pairwise renaming nil->XS
open PySem.SetTable.probe renaming go->X6
open StateT renaming run_pure->YC
open List.cons renaming injEq->YJ
open PySem.StrLaws renaming glued_eq_join->YO
open PySem.SeqAt.EqAt renaming bool_bool->Y3,str_int->ZB,int_str->ZC
open List.Perm renaming swap->Zb
open Function renaming comp->Zx
open PySem.Walks renaming list->ZA
open PyProof.Rows.SortSt renaming mk'->ZE
open PySem.pickOrder renaming go->ZI
open PySem.SetTable.below renaming go->ZR
open Std.Legacy renaming Range->Z7
open PySem.IsL renaming update->aad
open ForIn renaming forIn->ſ
open PyProof.Rows.IsTup renaming new->aa2
set_option compiler.extract_closed false
set_option bootstrap.genMatcherCode false
set_option maxHeartbeats 4000000
set_option Elab.async false
open PySem.Challenge renaming pw_notejar_k71_whole_keepers->p9_,rw_notejar_k71_whole_keepers->r9_
local macro_rules|`(abbrev $i $s:optDeclSig $v)=>`(noncomputable abbrev $i $s:optDeclSig $v)
local macro_rules|`(def $i $s:optDeclSig $v)=>`(noncomputable def $i $s:optDeclSig $v)
local macro_rules|`(tactic|lk)=>`(tactic|kernel_rfl)
local macro_rules|`(tactic|room)=>`(tactic|with_unfolding_all assumption)
namespace TR
open PySem PySem.W
def j5(c:String->Option Tq)(p:on)(w:z_)(a:Nat)(b:Option R):Nat->SharedT->X'->Option SharedT|0,_,_=>U|n+1,s,t=>match aax t with|true=>Z s|false=>match stepOk a b t with|false=>U|true=>match stepT (denote c) p w s t with|some (e,d)=>j5 c p w a b n e d|none=>U
def ls:List Obj->BT->Nat->Option (BT×Nat)|[],t,n=>Z (t,n)|o::os,t,n=>match((t.ins n o).get n).isSome with|true=>ls os (t.ins n o) (n+1)|false=>U
def Bh(c:String->Option Tq)(p:on)(w:z_)(N:Nat):Option g_:=(fencedOpening c p w N).bind λa=>match a.heap.isNs H_&&a.gens.size==0 with
 |true=>(ls a.heap.objs.toList .nil 0).bind λx=>(j5 c p w a.heap.objs.size (a.heap.nsMap H_ "__annotations__") N ⟨x.1,x.2,a.heap.life,a.gens,a.drawn,a.toks,a.os⟩ (topStub p)).bind λb=>match staticsOk (YE p.main.body) a.heap b.abs.heap&&namesBound p b.abs.heap&&gensDone b.abs&&laidKept a.heap b.abs.heap with|true=>Z b.abs|false=>U
 |false=>U
def kA{d:String->Option Tq}{p:on}{w:z_}{a:Nat}{b:Option R}:∀(n:Nat)(s:SharedT)(t:X')(c:SharedT),j5 d p w a b n s t=Z c->topRun d p w a b n s.abs t=Z c.abs|0,_,_,_,h=>by cases h|n+1,s,t,c,h=>by unfold j5 at h;unfold topRun;cases f:aax t with|true=>rw[f]at h;cases h;rfl|false=>rw[f]at h;cases g:stepOk a b t with|false=>rw[g]at h;cases h|true=>rw[g]at h;cases e:stepT (denote d) p w s t with|none=>rw[e]at h;cases h|some x=>obtain⟨j,i⟩:=x;rw[e]at h;dsimp only at h⊢;rw[stepT_spec e];exact kA n j i c h
def lu{a:Life}:∀(os:List Obj)(t:BT)(n:Nat)(b:BT)(c:Nat),ls os t n=Z (b,c)->(Yr b c a).objs=(Yr t n a).objs++os.toArray|[],t,n,b,c,h=>by cases h;simp|o::os,t,n,b,c,h=>by unfold ls at h;cases e:((t.ins n o).get n).isSome with|false=>rw[e]at h;cases h|true=>rw[e]at h;rw[lu os _ _ _ _ h,absHeap_ins e];show(Yr t n a).objs.push o++os.toArray=_;simp
variable{q:on}{o:z_}{c:Nat}{d:g_}
def vO{n:String->Option Tq}(h:Bh n q o c=Z d):aaL n q o c=Z d:=by unfold Bh at h;unfold aaL;obtain⟨b,y,f⟩:=Wi.mp h;rw[y];show topFrom n q o c b=Z d;unfold topFrom;cases p:(b.heap.isNs H_&&b.gens.size==0)with|false=>rw[p]at f;cases f|true=>
 rw[p]at f;dsimp only at f⊢;obtain⟨⟨j,m⟩,w,v⟩:=Wi.mp f;obtain⟨E,u,t⟩:=Wi.mp v;have e:=lu (a:=b.heap.life) _ _ _ _ _ w;have B:Yr j m b.heap.life=b.heap:=by
  have A:(Yr j m b.heap.life).objs=b.heap.objs:=by rw[e];show(Yr BT.nil 0 b.heap.life).objs++b.heap.objs.toList.toArray=_;simp[Yr,BT.list]
  obtain⟨⟨s,i⟩,g,a,k,os⟩:=b;show Heap.mk _ _=Heap.mk _ _;exact congrArg (Heap.mk · i) A
 have r:=kA _ _ _ _ u;have z:(SharedT.abs ⟨j,m,b.heap.life,b.gens,b.drawn,b.toks,b.os⟩)=b:=by show Shared.mk (Yr j m b.heap.life) _ _ _ _=b;rw[B]
 rw[z]at r;rw[r];exact t
variable{z:Type}{É:z}
def wU{a:String->Option Tq}{f:g_->z}(h:(Bh a q o c).map f=Z É):(aaL a q o c).map f=Z É:=by obtain⟨s,d,b⟩:=Ux.mp h;rw[vO d];exact congrArg Z b
def NZ(c:String->Option Tq)(p:on)(w:z_)(a:Nat)(b:Option R)(n:Nat):SharedT->X'->Option SharedT:=@Nat.rec (λ_=>SharedT->X'->Option SharedT) (λ_ _=>U) (λ_ d s t=>@Bool.rec (λ_=>Option SharedT) (@Bool.rec (λ_=>Option SharedT) U (@Option.rec (SharedT×X') (λ_=>Option SharedT) U (λx=>d x.1 x.2) (Xg (Xf c) p w s t)) (Xu a b t)) (Z s) (aax t)) n
def wV{c:String->Option Tq}{p:on}{w:z_}{a:Nat}{b:Option R}:∀(n:Nat)(s:SharedT)(t:X'),NZ c p w a b n s t=j5 c p w a b n s t|0,_,_=>rfl|n+1,s,t=>by show@Bool.rec (λ_=>Option SharedT) (@Bool.rec (λ_=>Option SharedT) U (@Option.rec (SharedT×X') (λ_=>Option SharedT) U (λx=>NZ c p w a b n x.1 x.2) (Xg (Xf c) p w s t)) (Xu a b t)) (Z s) (aax t)=_;unfold j5;rw[<-Fast.te10156331382660048174,<-Fast.te11892475500146522536,<-Fast.te6613529449190102663];cases aax t with|true=>rfl|false=>cases stepOk a b t with|false=>rfl|true=>cases stepT (denote c) p w s t with|none=>rfl|some x=>exact wV n x.1 x.2
def openQ(c:String->Option Tq)(p:on)(w:z_)(N:Nat):Option g_:=(fencedOpening c p w N).bind λa=>match a.heap.isNs H_&&a.gens.size==0 with
 |true=>(ls a.heap.objs.toList .nil 0).bind λx=>(NZ c p w a.heap.objs.size (a.heap.nsMap H_ "__annotations__") N ⟨x.1,x.2,a.heap.life,a.gens,a.drawn,a.toks,a.os⟩ (topStub p)).bind λb=>match staticsOk (YE p.main.body) a.heap b.abs.heap&&namesBound p b.abs.heap&&gensDone b.abs&&laidKept a.heap b.abs.heap with|true=>Z b.abs|false=>U
 |false=>U
def openQ_map{a:String->Option Tq}{f:g_->z}(h:(openQ a q o c).map f=Z É):(aaL a q o c).map f=Z É:=by refine wU ?_;unfold openQ at h;unfold Bh;simp only[wV]at h;exact h
end TR
variable{q:on}{o:z_}{c:Nat}{d:g_}{z:Type}{É:z}
namespace G
open PySem PySem.W PyProof.Rows
def hT(i:Nat):S7:=p9_.main.body.getD i (.Pass ⟨0,0,0,0⟩)
def hA(s:S7):Arguments:=match s with|.FunctionDef _ a _ _ _ _ _ _ _ _=>a|_=>{posonlyargs:=[],args:=[],vararg:=U,kwonlyargs:=[],kw_defaults:=[],kwarg:=U,defaults:=[]}
def hB(s:S7):List S7:=match s with|.FunctionDef _ _ b _ _ _ _ _ _ _=>b|_=>[]
def hS(s:S7):TF:=match s with|.FunctionDef _ _ _ _ _ _ a _ _ _=>a|_=>{kind:=.function,names:=[],isGenerator:=D,isCoroutine:=D}
noncomputable abbrev kS(s:String)(t:Nat):R:=.str (b_ s) t
noncomputable abbrev kR(a:Nat):R:=.ref a
noncomputable abbrev kI(i:Int)(t:Nat):R:=.int i t
noncomputable abbrev kE(P:W7)(s:String)(t:Nat)(v:R):DictEntry:=⟨PySem.PyData.keyHash P (b_ s),.str (b_ s) t,v⟩
def kF(x:String)(i:Nat)(m:String)(t c:Nat):Obj:=Tz (p_ "function") U (Data.func (fnOf (b_ x) (b_ x) (hA (hT i)) (hB (hT i)) (hS (hT i)) .none F_ F_ (kS m t) U (kR c) F_)) #[]
def ř(x:String)(i c:Nat):=kF x i "law_notejar_k71_whole_keepers" 1065 c
def hC(s:S7)(j:Nat):S7:=match s with|.ClassDef _ _ _ b _ _ _ _ _ _ _=>b.getD j (.Pass ⟨0,0,0,0⟩)|_=>.Pass ⟨0,0,0,0⟩
def kM(x q:String)(i j:Nat)(m:String)(t c:Nat):Obj:=Tz (p_ "function") U (Data.func (fnOf (b_ x) (b_ q) (hA (hC (hT i) j)) (hB (hC (hT i) j)) (hS (hC (hT i) j)) .none F_ F_ (kS m t) U (kR c) F_)) #[]
def kC(x:String)(a b c:Nat)(d e f:Int)(g:Nat)(h:Int)(i j:Nat)(k l:Int)(m:Nat):Obj:=Tz (p_ "code") U (Ul #[kS x a,kS x b,kS "/claim/cut.py" c,kI d 0,kI e 0,kI 0 0,kI 0 0,kI f 0,kR g,R9 L,kI h 0,kR i,F_,F_,F_,kR j,kI k 0,kI l 0,kS "/claim/cut.py" m]) #[]
def kD(x:String)(a b c:Nat)(d e f:Int)(g:Nat)(h:Int)(i u v j:Nat)(k l:Int)(m:Nat):Obj:=Tz (p_ "code") U (Ul #[kS x a,kS x b,kS "/claim/cut.py" c,kI d 0,kI e 0,kI 0 0,kI 0 0,kI f 0,kR g,R9 L,kI h 0,kR i,F_,kR u,kR v,kR j,kI k 0,kI l 0,kS "/claim/cut.py" m]) #[]
def Z'(P:W7):Frag:=[(2,Tz F_ U (UP #[]) #[]),(3,Tz (p_ "dict") U (UP #[kE P "__name__" 165 (kS "law_notejar_k71_whole_keepers" 1065),kE P "__doc__" 166 F_,kE P "__package__" 167 F_,kE P "__loader__" 168 (Ui "__main__.__loader__#opaque"),kE P "__spec__" 169 F_,kE P "__annotations__" 170 (kR 6),kE P "__builtins__" 171 (kR 4),kE P "__file__" 173 (kS "/claim/cut.py" 172),kE P "__cached__" 174 F_,kE P "JarError" 206 (kR 24),kE P "NoName" 222 (kR 37),kE P "NoTable" 238 (kR 49),kE P "NoPath" 254 (kR 61),kE P "NoAsk" 270 (kR 73),kE P "NoNote" 286 (kR 85),kE P "NoJar" 302 (kR 97),kE P "NoNumber" 318 (kR 109),kE P "is_text_of" 326 (kR 116),kE P "is_whole_number" 335 (kR 123),kE P "is_tuple_of" 343 (kR 130),kE P "FIGURES" 347 (kS "0123456789" 346),kE P "LABEL_SIGNS" 349 (kS "abcdefghijklmnopqrstuvwxyz0123456789-" 348),kE P "LONGEST_LABEL" 351 (kI 8 350),kE P "MOST_LABELS" 353 (kI 5 352),kE P "MOST_RULES" 355 (kI 8 354),kE P "is_label" 362 (kR 137),kE P "is_name" 368 (kR 142),kE P "is_rule" 375 (kR 149),kE P "is_table" 381 (kR 154),kE P "need_name" 388 (kR 161),kE P "need_table" 395 (kR 168),kE P "lies_within" 403 (kR 175),kE P "ends_longest_first" 409 (kR 180),kE P "behind_first_dot" 416 (kR 187),kE P "is_told_open" 424 (kR 194),kE P "find_open_end" 434 (kR 201),kE P "find_own_end" 445 (kR 208),kE P "PATH_SIGNS" 449 (kS "abcdefghijklmnopqrstuvwxyz0123456789-_./" 448),kE P "LONGEST_PATH" 451 (kI 20 450),kE P "is_path" 458 (kR 215),kE P "need_path" 465 (kR 222),kE P "folder" 473 (kR 229),kE P "lies_under" 481 (kR 236),kE P "LAST_MOMENT" 485 (kI 9999 484),kE P "ASK_SAFE" 487 (kI 0 486),kE P "ASK_HOUSE" 489 (kI 1 488),kE P "ASK_PATH" 491 (kI 2 490),kE P "ASK_ORIGIN" 493 (kI 3 492),kE P "ASK_PARTS" 495 (kI 4 494),kE P "is_moment" 502 (kR 243),kE P "is_moment_or_none" 509 (kR 250),kE P "need_moment" 516 (kR 257),kE P "is_ask" 523 (kR 264),kE P "need_ask" 530 (kR 271),kE P "comes_from_near" 541 (kR 278),kE P "NOTE_NAME_SIGNS" 545 (kS "abcdefghijklmnopqrstuvwxyzABCDEFGHIJKLMNOPQRSTUVWXYZ0123456789-_" 544),kE P "LONGEST_NOTE_NAME" 547 (kI 10 546),kE P "NO_WORTH_SIGNS" 549 (kS ";,=" 548),kE P "LONGEST_WORTH" 551 (kI 12 550),kE P "MOST_FIGURES" 553 (kI 4 552),kE P "GIVEN_NAME" 555 (kI 0 554),kE P "GIVEN_WORTH" 557 (kI 1 556),kE P "GIVEN_HOUSE" 559 (kI 2 558),kE P "GIVEN_PATH" 561 (kI 3 560),kE P "GIVEN_UNTIL" 563 (kI 4 562),kE P "GIVEN_LASTS" 565 (kI 5 564),kE P "GIVEN_SAFE" 567 (kI 6 566),kE P "GIVEN_REACH" 569 (kI 7 568),kE P "GIVEN_PARTS" 571 (kI 8 570),kE P "is_note_name" 578 (kR 285),kE P "is_worth" 584 (kR 290),kE P "is_reach" 591 (kR 297),kE P "is_given" 598 (kR 304),kE P "need_given" 605 (kR 311),kE P "is_written_moment" 612 (kR 318),kE P "what_is_told" 622 (kR 325),kE P "read_given" 628 (kR 330),kE P "NOTE_NAME" 632 (kI 0 631),kE P "NOTE_WORTH" 634 (kI 1 633),kE P "NOTE_HOUSE" 636 (kI 2 635),kE P "NOTE_EXACT" 638 (kI 3 637),kE P "NOTE_PATH" 640 (kI 4 639),kE P "NOTE_ENDS" 642 (kI 5 641),kE P "NOTE_SAFE" 644 (kI 6 643),kE P "NOTE_REACH" 646 (kI 7 645),kE P "NOTE_MADE" 648 (kI 8 647),kE P "NOTE_USED" 650 (kI 9 649),kE P "NOTE_PARTS" 652 (kI 10 651),kE P "is_open" 660 (kR 337),kE P "is_exact" 670 (kR 344),kE P "keeps_its_mark" 680 (kR 351),kE P "why_refused" 690 (kR 358),kE P "is_note" 697 (kR 365),kE P "house_for" 705 (kR 372),kE P "path_for" 713 (kR 379),kE P "end_for" 721 (kR 386),kE P "made" 731 (kR 393),kE P "key" 738 (kR 400),kE P "has_ended" 746 (kR 407),kE P "is_for" 754 (kR 414),kE P "goes" 764 (kR 421),kE P "MOST_NOTES" 768 (kI 20 767),kE P "is_jar" 774 (kR 426),kE P "is_by_made" 780 (kR 431),kE P "has_no_key_twice" 786 (kR 436),kE P "need_jar" 793 (kR 443),kE P "swept" 801 (kR 450),kE P "without_ended" 807 (kR 455),kE P "forgotten" 813 (kR 460),kE P "put" 819 (kR 465),kE P "read_what_is_given" 831 (kR 472),kE P "verdict" 843 (kR 479),kE P "word_of" 849 (kR 484),kE P "shadows" 858 (kR 491),kE P "take_in" 864 (kR 496),kE P "need_sending" 874 (kR 503),kE P "sent" 880 (kR 508),kE P "sent_text" 886 (kR 513),kE P "used" 892 (kR 518),kE P "used_at" 900 (kR 525),kE P "LARGEST_ROOM" 904 (kI 20 903),kE P "need_room" 911 (kR 532),kE P "group_of" 920 (kR 539),kE P "groups" 926 (kR 544),kE P "fitted" 936 (kR 551),kE P "fit" 942 (kR 556),kE P "too_many" 951 (kR 563),kE P "rank" 958 (kR 570),kE P "without" 964 (kR 575),kE P "Keeper" 1064 (kR 641),kE P "_law_cell" 1074 (kR 652),kE P "_law_drawn" 1084 (kR 659),kE P "_law_name" 1093 (kR 666),kE P "_law_table" 1099 (kR 671),kE P "_law_path" 1108 (kR 678),kE P "_law_ask" 1117 (kR 685),kE P "_law_given" 1134 (kR 692),kE P "_law_text" 1152 (kR 699),kE P "_law_sends" 1163 (kR 706),kE P "_law_steps" 1172 (kR 713),kE P "law" 1178 (kR 718)] 141) #[]),(23,Tz (p_ "dict") U (UP #[kE P "__module__" 196 (kS "notejar.errors" 187),kE P "__firstlineno__" 200 (kI 2 199),kE P "__static_attributes__" 201 (kR 22),kE P "__weakref__" 203 (kR 25),kE P "__doc__" 204 F_] 3) #[]),(24,Tz (p_ "type") U (W0 (Tj (b_ "JarError") [p_ "ValueError"] [kR 24,p_ "ValueError",p_ "Exception",p_ "BaseException",p_ "object"] 23 (b_ "JarError") L [] [kR 37,kR 49,kR 61,kR 73,kR 85,kR 97,kR 109] D U D)) #[Z (kR 15),U,Z (kS "JarError" 189),Z (kS "JarError" 197),Z (Ui "ValueError.__new__"),Z (R9 L)]),(36,Tz (p_ "dict") U (UP #[kE P "__module__" 214 (kS "notejar.errors" 187),kE P "__firstlineno__" 218 (kI 4 217),kE P "__static_attributes__" 219 (kR 35),kE P "__doc__" 220 F_] 2) #[]),(37,Tz (p_ "type") U (W0 (Tj (b_ "NoName") [kR 24] [kR 37,kR 24,p_ "ValueError",p_ "Exception",p_ "BaseException",p_ "object"] 36 (b_ "NoName") L [] [] D U D)) #[Z (kR 28),U,Z (kS "NoName" 207),Z (kS "NoName" 215),Z (Ui "ValueError.__new__"),Z (R9 L)]),(48,Tz (p_ "dict") U (UP #[kE P "__module__" 230 (kS "notejar.errors" 187),kE P "__firstlineno__" 234 (kI 6 233),kE P "__static_attributes__" 235 (kR 47),kE P "__doc__" 236 F_] 2) #[]),(49,Tz (p_ "type") U (W0 (Tj (b_ "NoTable") [kR 24] [kR 49,kR 24,p_ "ValueError",p_ "Exception",p_ "BaseException",p_ "object"] 48 (b_ "NoTable") L [] [] D U D)) #[Z (kR 40),U,Z (kS "NoTable" 223),Z (kS "NoTable" 231),Z (Ui "ValueError.__new__"),Z (R9 L)]),(60,Tz (p_ "dict") U (UP #[kE P "__module__" 246 (kS "notejar.errors" 187),kE P "__firstlineno__" 250 (kI 8 249),kE P "__static_attributes__" 251 (kR 59),kE P "__doc__" 252 F_] 2) #[]),(61,Tz (p_ "type") U (W0 (Tj (b_ "NoPath") [kR 24] [kR 61,kR 24,p_ "ValueError",p_ "Exception",p_ "BaseException",p_ "object"] 60 (b_ "NoPath") L [] [] D U D)) #[Z (kR 52),U,Z (kS "NoPath" 239),Z (kS "NoPath" 247),Z (Ui "ValueError.__new__"),Z (R9 L)]),(72,Tz (p_ "dict") U (UP #[kE P "__module__" 262 (kS "notejar.errors" 187),kE P "__firstlineno__" 266 (kI 10 265),kE P "__static_attributes__" 267 (kR 71),kE P "__doc__" 268 F_] 2) #[]),(73,Tz (p_ "type") U (W0 (Tj (b_ "NoAsk") [kR 24] [kR 73,kR 24,p_ "ValueError",p_ "Exception",p_ "BaseException",p_ "object"] 72 (b_ "NoAsk") L [] [] D U D)) #[Z (kR 64),U,Z (kS "NoAsk" 255),Z (kS "NoAsk" 263),Z (Ui "ValueError.__new__"),Z (R9 L)]),(84,Tz (p_ "dict") U (UP #[kE P "__module__" 278 (kS "notejar.errors" 187),kE P "__firstlineno__" 282 (kI 12 281),kE P "__static_attributes__" 283 (kR 83),kE P "__doc__" 284 F_] 2) #[]),(85,Tz (p_ "type") U (W0 (Tj (b_ "NoNote") [kR 24] [kR 85,kR 24,p_ "ValueError",p_ "Exception",p_ "BaseException",p_ "object"] 84 (b_ "NoNote") L [] [] D U D)) #[Z (kR 76),U,Z (kS "NoNote" 271),Z (kS "NoNote" 279),Z (Ui "ValueError.__new__"),Z (R9 L)]),(96,Tz (p_ "dict") U (UP #[kE P "__module__" 294 (kS "notejar.errors" 187),kE P "__firstlineno__" 298 (kI 14 297),kE P "__static_attributes__" 299 (kR 95),kE P "__doc__" 300 F_] 2) #[]),(97,Tz (p_ "type") U (W0 (Tj (b_ "NoJar") [kR 24] [kR 97,kR 24,p_ "ValueError",p_ "Exception",p_ "BaseException",p_ "object"] 96 (b_ "NoJar") L [] [] D U D)) #[Z (kR 88),U,Z (kS "NoJar" 287),Z (kS "NoJar" 295),Z (Ui "ValueError.__new__"),Z (R9 L)]),(108,Tz (p_ "dict") U (UP #[kE P "__module__" 310 (kS "notejar.errors" 187),kE P "__firstlineno__" 314 (kI 16 313),kE P "__static_attributes__" 315 (kR 107),kE P "__doc__" 316 F_] 2) #[]),(109,Tz (p_ "type") U (W0 (Tj (b_ "NoNumber") [kR 24] [kR 109,kR 24,p_ "ValueError",p_ "Exception",p_ "BaseException",p_ "object"] 108 (b_ "NoNumber") L [] [] D U D)) #[Z (kR 100),U,Z (kS "NoNumber" 303),Z (kS "NoNumber" 311),Z (Ui "ValueError.__new__"),Z (R9 L)]),(115,kC "is_text_of" 321 322 323 19 4 3 112 181 113 114 324 19 325),(116,kF "is_text_of" 10 "notejar.kinds" 319 115),(122,kD "is_whole_number" 327 328 329 25 3 3 117 181 118 119 120 121 333 25 334),(123,kF "is_whole_number" 11 "notejar.kinds" 319 122),(129,kD "is_tuple_of" 336 337 338 29 2 3 124 181 125 126 127 128 341 29 342),(130,kF "is_tuple_of" 12 "notejar.kinds" 319 129),(136,kD "is_label" 356 357 358 37 1 3 131 181 132 133 134 135 360 37 361),(137,kF "is_label" 19 "notejar.names" 344 136),(141,kC "is_name" 363 364 365 41 1 3 138 181 139 140 366 41 367),(142,kF "is_name" 20 "notejar.names" 344 141),(148,kD "is_rule" 369 370 371 48 1 3 143 181 144 145 146 147 373 48 374),(149,kF "is_rule" 21 "notejar.names" 344 148),(153,kC "is_table" 376 377 378 56 1 3 150 181 151 152 379 56 380),(154,kF "is_table" 22 "notejar.names" 344 153),(160,kD "need_name" 382 383 384 62 1 3 155 181 156 157 158 159 386 62 387),(161,kF "need_name" 23 "notejar.names" 344 160),(167,kD "need_table" 389 390 391 65 1 3 162 181 163 164 165 166 393 65 394),(168,kF "need_table" 24 "notejar.names" 344 167),(174,kD "lies_within" 396 397 398 68 2 3 169 181 170 171 172 173 401 68 402),(175,kF "lies_within" 25 "notejar.names" 344 174),(179,kC "ends_longest_first" 404 405 406 70 1 3 176 181 177 178 407 70 408),(180,kF "ends_longest_first" 26 "notejar.names" 344 179),(186,kD "behind_first_dot" 410 411 412 73 1 3 181 181 182 183 184 185 414 73 415),(187,kF "behind_first_dot" 27 "notejar.names" 344 186),(193,kD "is_told_open" 417 418 419 75 2 3 188 181 189 190 191 192 422 75 423),(194,kF "is_told_open" 28 "notejar.names" 344 193),(200,kD "find_open_end" 425 426 427 79 2 3 195 181 196 197 198 199 432 79 433),(201,kF "find_open_end" 29 "notejar.names" 344 200),(207,kD "find_own_end" 435 436 437 88 2 3 202 181 203 204 205 206 443 88 444),(208,kF "find_own_end" 30 "notejar.names" 344 207),(214,kD "is_path" 452 453 454 98 1 3 209 181 210 211 212 213 456 98 457),(215,kF "is_path" 34 "notejar.paths" 446 214),(221,kD "need_path" 459 460 461 100 1 3 216 181 217 218 219 220 463 100 464),(222,kF "need_path" 35 "notejar.paths" 446 221),(228,kD "folder" 466 467 468 103 1 3 223 181 224 225 226 227 471 103 472),(229,kF "folder" 36 "notejar.paths" 446 228),(235,kD "lies_under" 474 475 476 109 2 3 230 181 231 232 233 234 479 109 480),(236,kF "lies_under" 37 "notejar.paths" 446 235),(242,kD "is_moment" 496 497 498 122 1 3 237 181 238 239 240 241 500 122 501),(243,kF "is_moment" 45 "notejar.asks" 482 242),(249,kD "is_moment_or_none" 503 504 505 124 1 3 244 181 245 246 247 248 507 124 508),(250,kF "is_moment_or_none" 46 "notejar.asks" 482 249),(256,kD "need_moment" 510 511 512 126 1 3 251 181 252 253 254 255 514 126 515),(257,kF "need_moment" 47 "notejar.asks" 482 256),(263,kD "is_ask" 517 518 519 129 1 3 258 181 259 260 261 262 521 129 522),(264,kF "is_ask" 48 "notejar.asks" 482 263),(270,kD "need_ask" 524 525 526 133 1 3 265 181 266 267 268 269 528 133 529),(271,kF "need_ask" 49 "notejar.asks" 482 270),(277,kD "comes_from_near" 531 532 533 136 2 3 272 181 273 274 275 276 539 136 540),(278,kF "comes_from_near" 50 "notejar.asks" 482 277),(284,kD "is_note_name" 572 573 574 158 1 3 279 181 280 281 282 283 576 158 577),(285,kF "is_note_name" 66 "notejar.giving" 542 284),(289,kC "is_worth" 579 580 581 160 1 3 286 181 287 288 582 160 583),(290,kF "is_worth" 67 "notejar.giving" 542 289),(296,kD "is_reach" 585 586 587 164 1 3 291 181 292 293 294 295 589 164 590),(297,kF "is_reach" 68 "notejar.giving" 542 296),(303,kD "is_given" 592 593 594 166 1 3 298 181 299 300 301 302 596 166 597),(304,kF "is_given" 69 "notejar.giving" 542 303),(310,kD "need_given" 599 600 601 170 1 3 305 181 306 307 308 309 603 170 604),(311,kF "need_given" 70 "notejar.giving" 542 310),(317,kD "is_written_moment" 606 607 608 173 1 3 312 181 313 314 315 316 610 173 611),(318,kF "is_written_moment" 71 "notejar.giving" 542 317),(324,kD "what_is_told" 613 614 615 175 1 3 319 181 320 321 322 323 620 175 621),(325,kF "what_is_told" 72 "notejar.giving" 542 324),(329,kC "read_given" 623 624 625 192 1 3 326 181 327 328 626 192 627),(330,kF "read_given" 73 "notejar.giving" 542 329),(336,kD "is_open" 653 654 655 217 2 3 331 181 332 333 334 335 658 217 659),(337,kF "is_open" 86 "notejar.notes" 629 336),(343,kD "is_exact" 661 662 663 219 3 3 338 181 339 340 341 342 668 219 669),(344,kF "is_exact" 87 "notejar.notes" 629 343),(350,kD "keeps_its_mark" 671 672 673 224 3 3 345 181 346 347 348 349 678 224 679),(351,kF "keeps_its_mark" 88 "notejar.notes" 629 350),(357,kD "why_refused" 681 682 683 231 3 3 352 181 353 354 355 356 688 231 689),(358,kF "why_refused" 89 "notejar.notes" 629 357),(364,kD "is_note" 691 692 693 247 1 3 359 181 360 361 362 363 695 247 696),(365,kF "is_note" 90 "notejar.notes" 629 364),(371,kD "house_for" 698 699 700 253 2 3 366 181 367 368 369 370 703 253 704),(372,kF "house_for" 91 "notejar.notes" 629 371),(378,kD "path_for" 706 707 708 257 2 3 373 181 374 375 376 377 711 257 712),(379,kF "path_for" 92 "notejar.notes" 629 378),(385,kD "end_for" 714 715 716 261 2 3 380 181 381 382 383 384 719 261 720),(386,kF "end_for" 93 "notejar.notes" 629 385),(392,kD "made" 722 723 724 265 4 3 387 181 388 389 390 391 729 265 730)]
def KKl(P:W7):Frag:=[(393,kF "made" 94 "notejar.notes" 629 392),(399,kD "key" 732 733 734 273 1 3 394 181 395 396 397 398 736 273 737),(400,kF "key" 95 "notejar.notes" 629 399),(406,kD "has_ended" 739 740 741 275 2 3 401 181 402 403 404 405 744 275 745),(407,kF "has_ended" 96 "notejar.notes" 629 406),(413,kD "is_for" 747 748 749 277 2 3 408 181 409 410 411 412 752 277 753),(414,kF "is_for" 97 "notejar.notes" 629 413),(420,kD "goes" 755 756 757 281 4 3 415 181 416 417 418 419 762 281 763),(421,kF "goes" 98 "notejar.notes" 629 420),(425,kC "is_jar" 769 770 771 291 1 3 422 181 423 424 772 291 773),(426,kF "is_jar" 101 "notejar.jars" 765 425),(430,kC "is_by_made" 775 776 777 297 1 3 427 181 428 429 778 297 779),(431,kF "is_by_made" 102 "notejar.jars" 765 430),(435,kC "has_no_key_twice" 781 782 783 299 1 3 432 181 433 434 784 299 785),(436,kF "has_no_key_twice" 103 "notejar.jars" 765 435),(442,kD "need_jar" 787 788 789 302 1 3 437 181 438 439 440 441 791 302 792),(443,kF "need_jar" 104 "notejar.jars" 765 442),(449,kD "swept" 794 795 796 305 2 3 444 181 445 446 447 448 799 305 800),(450,kF "swept" 105 "notejar.jars" 765 449),(454,kC "without_ended" 802 803 804 309 2 3 451 181 452 453 805 309 806),(455,kF "without_ended" 106 "notejar.jars" 765 454),(459,kC "forgotten" 808 809 810 311 2 3 456 181 457 458 811 311 812),(460,kF "forgotten" 107 "notejar.jars" 765 459),(464,kC "put" 814 815 816 315 2 3 461 181 462 463 817 315 818),(465,kF "put" 108 "notejar.jars" 765 464),(471,kD "read_what_is_given" 820 821 822 321 5 3 466 181 467 468 469 470 829 321 830),(472,kF "read_what_is_given" 109 "notejar.jars" 765 471),(478,kD "verdict" 832 833 834 328 5 3 473 181 474 475 476 477 841 328 842),(479,kF "verdict" 110 "notejar.jars" 765 478),(483,kC "word_of" 844 845 846 331 5 3 480 181 481 482 847 331 848),(484,kF "word_of" 111 "notejar.jars" 765 483),(490,kD "shadows" 850 851 852 341 3 3 485 181 486 487 488 489 856 341 857),(491,kF "shadows" 112 "notejar.jars" 765 490),(495,kC "take_in" 859 860 861 347 5 3 492 181 493 494 862 347 863),(496,kF "take_in" 113 "notejar.jars" 765 495),(502,kD "need_sending" 865 866 867 356 4 3 497 181 498 499 500 501 872 356 873),(503,kF "need_sending" 114 "notejar.jars" 765 502),(507,kC "sent" 875 876 877 361 4 3 504 181 505 506 878 361 879),(508,kF "sent" 115 "notejar.jars" 765 507),(512,kC "sent_text" 881 882 883 365 4 3 509 181 510 511 884 365 885),(513,kF "sent_text" 116 "notejar.jars" 765 512),(517,kC "used" 887 888 889 367 4 3 514 181 515 516 890 367 891),(518,kF "used" 117 "notejar.jars" 765 517),(524,kD "used_at" 893 894 895 370 2 3 519 181 520 521 522 523 898 370 899),(525,kF "used_at" 118 "notejar.jars" 765 524),(531,kD "need_room" 905 906 907 374 1 3 526 181 527 528 529 530 909 374 910),(532,kF "need_room" 121 "notejar.room" 901 531),(538,kD "group_of" 912 913 914 377 2 3 533 181 534 535 536 537 918 377 919),(539,kF "group_of" 122 "notejar.room" 901 538),(543,kC "groups" 921 922 923 382 2 3 540 181 541 542 924 382 925),(544,kF "groups" 123 "notejar.room" 901 543),(550,kD "fitted" 927 928 929 387 4 3 545 181 546 547 548 549 934 387 935),(551,kF "fitted" 124 "notejar.room" 901 550),(555,kC "fit" 937 938 939 393 4 3 552 181 553 554 940 393 941),(556,kF "fit" 125 "notejar.room" 901 555),(562,kD "too_many" 943 944 945 399 2 3 557 181 558 559 560 561 949 399 950),(563,kF "too_many" 126 "notejar.room" 901 562),(569,kD "rank" 952 953 954 402 1 3 564 181 565 566 567 568 956 402 957),(570,kF "rank" 127 "notejar.room" 901 569),(574,kC "without" 959 960 961 404 2 3 571 181 572 573 962 404 963),(575,kF "without" 128 "notejar.room" 901 574),(588,Tz (p_ "code") U (Ul #[kS "__init__" 979,kS "Keeper.__init__" 980,kS "/claim/cut.py" 981,kI 409 0,kI 4 0,kI 0 0,kI 0 0,kI 3 0,kR 583,R9 L,kI 181 0,kR 584,F_,kR 585,kR 586,kR 587,kI 986 0,kI 409 0,kS "/claim/cut.py" 987]) #[]),(589,kM "__init__" "Keeper.__init__" 130 0 "notejar.keepers" 965 588),(595,Tz (p_ "code") U (Ul #[kS "notes" 989,kS "Keeper.notes" 990,kS "/claim/cut.py" 991,kI 419 0,kI 1 0,kI 0 0,kI 0 0,kI 3 0,kR 590,R9 L,kI 181 0,kR 591,F_,kR 592,kR 593,kR 594,kI 993 0,kI 419 0,kS "/claim/cut.py" 994]) #[]),(596,kM "notes" "Keeper.notes" 130 1 "notejar.keepers" 965 595),(602,Tz (p_ "code") U (Ul #[kS "clock" 996,kS "Keeper.clock" 997,kS "/claim/cut.py" 998,kI 422 0,kI 1 0,kI 0 0,kI 0 0,kI 3 0,kR 597,R9 L,kI 181 0,kR 598,F_,kR 599,kR 600,kR 601,kI 1000 0,kI 422 0,kS "/claim/cut.py" 1001]) #[]),(603,kM "clock" "Keeper.clock" 130 2 "notejar.keepers" 965 602),(609,Tz (p_ "code") U (Ul #[kS "need_no_earlier" 1003,kS "Keeper.need_no_earlier" 1004,kS "/claim/cut.py" 1005,kI 425 0,kI 2 0,kI 0 0,kI 0 0,kI 3 0,kR 604,R9 L,kI 181 0,kR 605,F_,kR 606,kR 607,kR 608,kI 1008 0,kI 425 0,kS "/claim/cut.py" 1009]) #[]),(610,kM "need_no_earlier" "Keeper.need_no_earlier" 130 3 "notejar.keepers" 965 609),(616,Tz (p_ "code") U (Ul #[kS "hear" 1011,kS "Keeper.hear" 1012,kS "/claim/cut.py" 1013,kI 429 0,kI 4 0,kI 0 0,kI 0 0,kI 3 0,kR 611,R9 L,kI 181 0,kR 612,F_,kR 613,kR 614,kR 615,kI 1020 0,kI 429 0,kS "/claim/cut.py" 1021]) #[]),(617,kM "hear" "Keeper.hear" 130 4 "notejar.keepers" 965 616),(623,Tz (p_ "code") U (Ul #[kS "send" 1023,kS "Keeper.send" 1024,kS "/claim/cut.py" 1025,kI 437 0,kI 3 0,kI 0 0,kI 0 0,kI 3 0,kR 618,R9 L,kI 181 0,kR 619,F_,kR 620,kR 621,kR 622,kI 1030 0,kI 437 0,kS "/claim/cut.py" 1031]) #[]),(624,kM "send" "Keeper.send" 130 5 "notejar.keepers" 965 623),(630,Tz (p_ "code") U (Ul #[kS "step" 1033,kS "Keeper.step" 1034,kS "/claim/cut.py" 1035,kI 444 0,kI 2 0,kI 0 0,kI 0 0,kI 3 0,kR 625,R9 L,kI 181 0,kR 626,F_,kR 627,kR 628,kR 629,kI 1039 0,kI 444 0,kS "/claim/cut.py" 1040]) #[]),(631,kM "step" "Keeper.step" 130 6 "notejar.keepers" 965 630),(637,Tz (p_ "code") U (Ul #[kS "forget" 1042,kS "Keeper.forget" 1043,kS "/claim/cut.py" 1044,kI 450 0,kI 2 0,kI 0 0,kI 0 0,kI 3 0,kR 632,R9 L,kI 181 0,kR 633,F_,kR 634,kR 635,kR 636,kI 1049 0,kI 450 0,kS "/claim/cut.py" 1050]) #[]),(638,kM "forget" "Keeper.forget" 130 7 "notejar.keepers" 965 637),(640,Tz (p_ "dict") U (UP #[kE P "__module__" 974 (kS "notejar.keepers" 965),kE P "__firstlineno__" 978 (kI 407 977),kE P "__init__" 988 (kR 589),kE P "notes" 995 (kR 596),kE P "clock" 1002 (kR 603),kE P "need_no_earlier" 1010 (kR 610),kE P "hear" 1022 (kR 617),kE P "send" 1032 (kR 624),kE P "step" 1041 (kR 631),kE P "forget" 1051 (kR 638),kE P "__static_attributes__" 1057 (kR 639),kE P "__dict__" 1059 (kR 642),kE P "__weakref__" 1061 (kR 643),kE P "__doc__" 1062 F_] 4) #[]),(641,Tz (p_ "type") U (W0 (Tj (b_ "Keeper") [p_ "object"] [kR 641,p_ "object"] 640 (b_ "Keeper") L [] [] D U D)) #[U,U,Z (kS "Keeper" 967),Z (kS "Keeper" 975),Z (Ui "object.__new__"),Z (R9 L)]),(651,kD "_law_cell" 1067 1068 1069 456 2 3 646 181 647 648 649 650 1072 456 1073),(652,ř "_law_cell" 132 651),(658,kD "_law_drawn" 1075 1076 1077 460 3 3 653 181 654 655 656 657 1082 460 1083),(659,ř "_law_drawn" 133 658),(665,kD "_law_name" 1085 1086 1087 464 2 3 660 181 661 662 663 664 1091 464 1092),(666,ř "_law_name" 134 665),(670,kC "_law_table" 1094 1095 1096 468 2 3 667 181 668 669 1097 468 1098),(671,ř "_law_table" 135 670),(677,kD "_law_path" 1100 1101 1102 471 2 3 672 181 673 674 675 676 1106 471 1107),(678,ř "_law_path" 136 677),(684,kD "_law_ask" 1109 1110 1111 474 2 3 679 181 680 681 682 683 1115 474 1116),(685,ř "_law_ask" 137 684),(691,kD "_law_given" 1118 1119 1120 477 3 3 686 181 687 688 689 690 1132 477 1133),(692,ř "_law_given" 138 691),(698,kD "_law_text" 1135 1136 1137 488 1 3 693 181 694 695 696 697 1150 488 1151),(699,ř "_law_text" 139 698),(705,kD "_law_sends" 1153 1154 1155 496 4 3 700 181 701 702 703 704 1161 496 1162),(706,ř "_law_sends" 140 705),(712,kD "_law_steps" 1164 1165 1166 499 2 3 707 181 708 709 710 711 1170 499 1171),(713,ř "_law_steps" 141 712),(717,kC "law" 1173 1174 1175 505 1 3 714 181 715 716 1176 505 1177),(718,ř "law" 142 717),(4,Tz (p_ "module") (Z builtinsNs) Data.plain #[])]
def KKb(P:W7):Frag:=KKl P++[(505,{cls:=.none,data:=.fields #[]})]
def KK(P:W7):Frag:=Z' P++KKb P
def KAa:List O:=[2,3,23,24,36,37,48,49,60,61,72,73,84,85,96,97,108,109,115,116,122,123,129,130,136,137,141,142,148,149,153,154,160,161,167,168,174,175,179,180,186,187,193,194,200,201,207,208,214,215,221,222,228,229,235,236,242,243,249,250,256,257,263,264,270,271,277,278,284,285,289,290,296,297,303,304,310,311,317,318,324,325,329,330,336,337,343,344,350,351,357,358,364,365,371,372,378,379,385,386,392]
def KAb:List O:=[393,399,400,406,407,413,414,420,421,425,426,430,431,435,436,442,443,449,450,454,455,459,460,464,465,471,472,478,479,483,484,490,491,495,496,502,503,507,508,512,513,517,518,524,525,531,532,538,539,543,544,550,551,555,556,562,563,569,570,574,575,588,589,595,596,602,603,609,610,616,617,623,624,630,631,637,638,640,641,651,652,658,659,665,666,670,671,677,678,684,685,691,692,698,699,705,706,712,713,717,718,4,505]
def KA:List O:=KAa++KAb
def KL(P:W7):Frag:=Z' P++KKl P
variable{P:M_}
def KL_in{a:W7}(X:(KK a).In P):(KL a).In P:=λb o e=>X b o (by show Vt b (Z' a++(KKl a++_))=Z o;rw[<-WF,UK,show Vt b (Z' a++KKl a)=Z o from e];rfl)
def KT_in{a:W7}(X:(KK a).In P):P.get? 505=Z {cls:=.none,data:=.fields #[]}:=X 505 _ (by lk)
def KA_ok(P:W7):KA=(KK P).map (·.1):=by lk
def VQ:on:=view p9_ [142]
def hbr:r9_.row.prog.bare:=⟨rfl,rfl,rfl,rfl,rfl,by decide+kernel⟩
def slo:PySem.W.looksOpen r9_.row.prog=L:=by lk
set_option maxRecDepth 100000 in
def sd1:r9_.row.wellSaid=L:=by unfold PySem.W.OpenRow.wellSaid PySem.W.OpenRow.partSaid;rw[slo];lk
set_option maxRecDepth 100000 in
def sd:r9_.wellSaid=L:=by unfold PySem.W.OpenLaw.wellSaid;rw[sd1];lk
def hld(h:r9_.row.wellSaid=L->r9_.row.Holds):r9_.Holds:=PySem.W.holds_law sd h
def VL:List Str:=(["JarError","NoName","NoTable","NoPath","NoAsk","NoNote","NoJar","NoNumber","is_text_of","is_whole_number","is_tuple_of","FIGURES","LABEL_SIGNS","LONGEST_LABEL","MOST_LABELS","MOST_RULES","is_label","is_name","is_rule","is_table","need_name","need_table","lies_within","ends_longest_first","behind_first_dot","is_told_open","find_open_end","find_own_end","PATH_SIGNS","LONGEST_PATH","is_path","need_path","folder","lies_under","LAST_MOMENT","ASK_SAFE","ASK_HOUSE","ASK_PATH","ASK_ORIGIN","ASK_PARTS","is_moment","is_moment_or_none","need_moment","is_ask","need_ask","comes_from_near","NOTE_NAME_SIGNS","LONGEST_NOTE_NAME","NO_WORTH_SIGNS","LONGEST_WORTH","MOST_FIGURES","GIVEN_NAME","GIVEN_WORTH","GIVEN_HOUSE","GIVEN_PATH","GIVEN_UNTIL","GIVEN_LASTS","GIVEN_SAFE","GIVEN_REACH","GIVEN_PARTS","is_note_name","is_worth","is_reach","is_given","need_given","is_written_moment","what_is_told","read_given","NOTE_NAME","NOTE_WORTH","NOTE_HOUSE","NOTE_EXACT","NOTE_PATH","NOTE_ENDS","NOTE_SAFE","NOTE_REACH","NOTE_MADE","NOTE_USED","NOTE_PARTS","is_open","is_exact","keeps_its_mark","why_refused","is_note","house_for","path_for","end_for","made","key","has_ended","is_for","goes","MOST_NOTES","is_jar","is_by_made","has_no_key_twice","need_jar","swept","without_ended","forgotten","put","read_what_is_given","verdict","word_of","shadows","take_in","need_sending","sent","sent_text","used","used_at","LARGEST_ROOM","need_room","group_of","groups","fitted","fit","too_many","rank","without","Keeper","_law_cell","_law_drawn","_law_name","_law_table","_law_path","_law_ask","_law_given","_law_text","_law_sends","_law_steps"].map b_)
variable{Χ:Type}
def Q0{c:Type}{o:Option z}{f:z->Χ}{g:z->c}{a:Χ}{b:c}(d:o.map f=Z a)(e:o.map g=Z b):o.map (λs=>(f s,g s))=Z (a,b):=by cases o with|none=>cases d|some x=>cases d;cases e;rfl
set_option maxRecDepth 100000 in
def N0(w:z_):(TR.openQ Zd p9_ w 10204).map (openSeen VQ VL (YE p9_.main.body) (λs=>recOk [] s) L)=Z (openGood VQ VL):=by lk
set_option maxRecDepth 100000 in
def Jc(w:z_):(TR.openQ Zd p9_ w 10204).map (λs=>KAa.map s.heap.get?)=Z ((Z' w.params).map λp=>Z p.2):=by lk
set_option maxRecDepth 100000 in
def Je(w:z_):(TR.openQ Zd p9_ w 10204).map (λs=>KAb.map s.heap.get?)=Z ((KKb w.params).map λp=>Z p.2):=by lk
def Bi{a:Type}{o:Option z}{f:z->Χ->a}{A B:List Χ}{X Y:List a}(b:o.map (λs=>A.map (f s))=Z X)(c:o.map (λs=>B.map (f s))=Z Y):o.map (λs=>(A++B).map (f s))=Z (X++Y):=by cases o with|none=>cases b|some x=>cases b;cases c;simp
def N1(w:z_):(TR.openQ Zd p9_ w 10204).map (λs=>KA.map s.heap.get?)=Z ((KK w.params).map λp=>Z p.2):=by show(TR.openQ Zd p9_ w 10204).map (λs=>(KAa++KAb).map s.heap.get?)=Z ((Z' w.params++KKb w.params).map λp=>Z p.2);rw[UQ];exact Bi (f:=λs:g_=>s.heap.get?) (Jc w) (Je w)
def left:LeftO p9_ VQ VL (λs=>recOk [] s) (Hook.obs (aaZ KK KA KA_ok)) (Hook.val (aaZ KK KA KA_ok)) 10204:=λw=>TR.openQ_map (Q0 (N0 w) (N1 w))
end G
variable{P:M_}{Χ:Type}
set_option Elab.async false
set_option linter.all false
set_option maxRecDepth 100000
noncomputable section
open PySem PySem.Spec PyProof.Rows
namespace L2
abbrev Ĵ:=Sum Int Str
def Jg:Ĵ->R->Bool|.inl k,v=>Value.isInt k v|.inr x,v=>VF x v
def Q1(w:z_):Ĵ->Int|.inl k=>hashInt k|.inr x=>hashStr w x
def ca:∀{k:Ĵ}{v:R},Jg k v=L->(∃i t,k=VT i/\v=Zh i t)\/(∃x t,k=Zc x/\v=Ti x t)|.inl i,v,h=>by obtain⟨t,e⟩:=Value.isInt_shape (k:=i) (v:=v) h;exact .inl ⟨i,t,rfl,e⟩|.inr x,v,h=>by obtain⟨t,e⟩:=Zj (x:=x) (v:=v) h;exact .inr ⟨x,t,rfl,e⟩
def Jh(a b:Int):uk ((VT a:Ĵ)=VT b)=(a==b):=by
 by_cases e:a=b;·subst e;simp
 ·have h:¬(VT a:Ĵ)=VT b:=λq=>e (Sum.inl.inj q);rw[decide_eq_false h];exact(beq_eq_false_iff_ne.mpr e).symm
def Ji(a b:Str):uk ((Zc a:Ĵ)=Zc b)=uk (a=b):=by
 by_cases e:a=b;·subst e;simp
 ·have h:¬(Zc a:Ĵ)=Zc b:=λq=>e (Sum.inr.inj q);rw[decide_eq_false h,decide_eq_false e]
def Jj(a:Int)(b:Str):uk ((VT a:Ĵ)=Zc b)=D:=decide_eq_false (λq=>nomatch q)
def Jk(a:Str)(b:Int):uk ((Zc a:Ĵ)=VT b)=D:=decide_eq_false (λq=>nomatch q)
def wW(d:on)(w:z_):PySem.KeyKind d w Ĵ where
 is:=Jg;hash:=Q1 w;inj:=λv a b n g=>by
  rcases ca n with⟨i,t,rfl,rfl⟩|⟨x,t,rfl,rfl⟩
  · rcases ca g with⟨j,u,rfl,e⟩|⟨y,u,rfl,e⟩;·injection e with c _;rw[c]
    ·exact nomatch e
  · rcases ca g with⟨j,u,rfl,e⟩|⟨y,u,rfl,e⟩;·exact nomatch e
    ·injection e with c _;rw[c]
 byValue:=λk v h=>by rcases ca h with⟨i,t,rfl,rfl⟩|⟨x,t,rfl,rfl⟩<;>rfl
 pyHash:=λf h=>by
  rcases ca f with⟨i,t,rfl,rfl⟩|⟨x,t,rfl,rfl⟩;·exact wpAny_pyHash_int h
  ·exact wpAny_pyHash_str h
 eqBool:=λm f h=>by
  rcases ca m with⟨i,t,rfl,rfl⟩|⟨x,t,rfl,rfl⟩
  · rcases ca f with⟨j,u,rfl,rfl⟩|⟨y,u,rfl,rfl⟩;·rw[Jh]at h;exact wpAny_eqBool_int h
    ·rw[Jj]at h;exact ZC i t y u _ _ _ _ h
  · rcases ca f with⟨j,u,rfl,rfl⟩|⟨y,u,rfl,rfl⟩;·rw[Jk]at h;exact ZB x t j u _ _ _ _ h
    ·rw[Ji]at h;exact wpAny_eqBool_str h
 «strs»:=λk x t v h=>by
  rcases ca h with⟨i,u,rfl,e⟩|⟨y,u,rfl,e⟩;·exact nomatch e
  ·injection e with c _;subst c;cases v<;>rfl
inductive V where|non|bl(b:Bool)|int(i:Int)|str(x:Str)|byt(b:Array UInt8)|flt(b:UInt64)|ref(a:O)|ty(n:String)deriving DecidableEq
def Ú:V->R->Prop|.non,u=>u=F_|.bl b,u=>u=R9 b|.int i,u=>∃t,u=Zh i t|.str x,u=>∃t,u=Ti x t|.byt b,u=>∃t,u=Value.bytes b t|.flt b,u=>∃t,u=aao b t|.ref a,u=>u=B_ a|.ty n,u=>u=p_ n
abbrev Î:List V->List R->Prop:=Paired Ú
variable{θ:List V}{E:List R}
def Î.length(r:Î θ E):θ.length=E.length:=Paired.length r
def Î.get:∀{a:List V}{b:List R}{i:Nat}{x:V},Î a b->a[i]?=Z x->∃u,b[i]?=Z u/\Ú x u|_,_,_,_,.nil,e=>by simp at e|_,_,0,_,.cons r _,e=>by simp at e;subst e;exact⟨_,rfl,r⟩|_,_,i+1,x,.cons _ t,e=>by obtain⟨u,d,c⟩:=Î.get (i:=i) (x:=x) t (by simpa using e);exact⟨u,by simpa using d,c⟩
def Î.set{x:V}{u:R}(r:Ú x u):∀{a:List V}{b:List R}(i:Nat),Î a b->Î (a.set i x) (b.set i u)|_,_,_,.nil=>.nil|_,_,0,.cons _ t=>.cons r t|_,_,i+1,.cons q t=>.cons q (Î.set r i t)
def Î.append:∀{b a:List V}{d c:List R},Î b d->Î a c->Î (b++a) (d++c)|_,_,_,_,.nil,s=>s|_,_,_,_,.cons r t,s=>.cons r (Î.append t s)
def Î.take:∀{a:List V}{b:List R}(n:Nat),Î a b->Î (a.take n) (b.take n)|_,_,0,_=>.nil|_,_,_+1,.nil=>.nil|_,_,n+1,.cons r t=>.cons r (Î.take n t)
def Î.drop:∀{a:List V}{b:List R}(n:Nat),Î a b->Î (a.drop n) (b.drop n)|_,_,0,r=>r|_,_,_+1,.nil=>.nil|_,_,n+1,.cons _ t=>Î.drop n t
def ħ:Option V->Option R->Prop|some v,Z u=>Ú v u|none,U=>True|_,_=>False
def KV:List (z×V)->List (z×R)->Prop:=Paired λ(p:z×V)(q:z×R)=>p.1=q.1/\Ú p.2 q.2
def kV:Ĵ->V|.inl i=>.int i|.inr x=>.str x
inductive HO where|lst(xs:List V)|tup(xs:List V)|dK(kvs:List (Ĵ×V))|dT(kvs:List (List Ĵ×V))|set(S:Int->Bool)(n:Nat)|ins(C dx:O)(fs:List (Str×V))|own(x:O)|xd(fs:List (Str×V))|met(f x:O)|rng(lo hi:Int)|frz(o:Obj)(u:HO)|tbl(ps:Array R)|ext(φ:M_->Prop)
abbrev Hp:=O->Option HO
def Ý(H:Hp)(a:O)(o:HO):Hp:=λb=>if b=a then Z o else H b
variable{g:Hp}{e:O}
def ao{o:HO}:Ý g e o e=Z o:=by unfold Ý;rw[if_pos rfl]
variable{r:O}
def al{o:HO}(h:r≠e):Ý g e o r=g r:=by unfold Ý;rw[if_neg h]
def wX{o u:HO}:Ý (Ý g e o) e u=Ý g e u:=by funext b;unfold Ý;split<;>rfl
def av{o:HO}(h:g e=Z o)(b:g r=U):e≠r:=by intro a;subst a;rw[h]at b;cases b
def ì(P:on)(w:z_)(H:Hp)(h:M_)(a:O):HO->Prop|.lst e=>e.length<=sizeLine/\∃(d:List R)(n:Nat),Î e d/\h.get? a=Z {cls:=.type "list",data:=.seq d.toArray n}|.tup e=>e.length<=sizeLine/\∃d:List R,Î e d/\F' h a d.toArray|.dK b=>b.length<=sizeLine/\(a==sysModules)=D/\∃i,KV b i/\h.DictOf (wW P w) a i|.dT b=>b.length<=sizeLine/\(a==sysModules)=D/\∃e:List (List Ĵ×O×R),Paired (λ(p:List Ĵ×V)(q:List Ĵ×O×R)=>p.1=q.1/\H q.2.1=Z (.tup (p.1.map kV))/\Ú p.2 q.2.2) b e/\∃o z ep,h.get? a=Z o/\o.ExactDict/\o.data=.dict z ep/\z.toList=e.map (entryOfKey (tupleKind (wW P w)))/\(e.map (·.1)).Nodup|.set S n=>h.SetOf (intKind P w) a S n|.ins C j fs=>H j=Z (.own a)/\fs.length<=1000/\j≠a/\h.get? a=Z (Um C j)/\∃g,h.Ns1 j g/\(∀f,ħ (fs.lookup f) (g f))/\ZN g (fs.map (·.1))|.own _=>∃o,h.get? a=Z o|.xd fs=>∃g,h.Ns1 a g/\∀f,ħ (fs.lookup f) (g f)|.rng lo E=>∃t u v,h.get? a=Z {cls:=.type "range",data:=.fields #[.int lo t,.int E u,.int 1 v]}|.frz o u=>h.get? a=Z o/\ì P w H h a u|.tbl B=>∃m:Array R,h.get? a=Z {cls:=.none,data:=.fields m}/\Z_ m.toList/\∀pos v,X4 pos m.toList=Z v->∃c r i q t A,v=.ref c/\H c=Z (.frz r (.ext λ_=>True))/\r.data=.fields i/\i[1]?=Z (.str q t)/\B[0]?=Z (.str q A)|.met f x=>h.get? a=Z (XJ (.ref f) (.ref x))|.ext k=>k h/\(∃o,h.get? a=Z o)/\∀y s:M_,k y->(∀o,y.get? a=Z o->s.get? a=Z o)->k s
def đ(P:on)(w:z_)(H:Hp)(h:M_):Prop:=∀a o,H a=Z o->ì P w H h a o
def ì.lt{b:HO}(x:ì q o g P e b):e<P.objs.size:=by cases b with|lst d=>obtain⟨_,_,_,_,a⟩:=x;exact v_ a|tup d=>obtain⟨_,_,_,p⟩:=x;exact p.lt|dK c=>obtain⟨_,_,_,_,b,_,_,a,_⟩:=x;exact v_ a|dT c=>obtain⟨_,_,_,_,b,_,_,a,_⟩:=x;exact v_ a|set S n=>obtain⟨b,_,_,_,a,_⟩:=x;exact v_ a|ins C m fs=>obtain⟨_,_,_,a,_⟩:=x;exact v_ a|own y=>obtain⟨_,a⟩:=x;exact v_ a|xd fs=>obtain⟨_,⟨_,_,_,a,_⟩,_⟩:=x;exact v_ a|rng lo k=>obtain⟨_,_,_,a⟩:=x;exact v_ a|frz j u=>obtain⟨a,_⟩:=x;exact v_ a|tbl i=>obtain⟨_,a,_⟩:=x;exact v_ a|met f y=>exact v_ (show P.get? e=Z _ from x)|ext h=>obtain⟨_,⟨_,a⟩,_⟩:=x;exact v_ a
def Paired.mapP{g e:Type}{F G:g->e->Prop}:∀{d:List g}{c:List e},Paired F d c->(∀a b,F a b->G a b)->Paired G d c|_,_,.nil,_=>.nil|_,_,.cons r t,f=>.cons (f _ _ r) (Paired.mapP t f)
variable{ω:Hp}
def ì.stay{h':M_}{i:HO}(x:ì q o g P e i)(k:∀b u,(b=e\/g b=Z (.own e))->P.get? b=Z u->h'.get? b=Z u)(ho:∀b,g b=Z (.own e)->ω b=Z (.own e))(ht:∀b A,g b=Z (.tup A)->ω b=Z (.tup A))(hf:∀b i u,g b=Z (.frz i u)->ω b=Z (.frz i u):=by first|exactλ_ _ _ h=>h|(intro c _ _ h;rw[al (av h (by assumption))];exact h)):ì q o ω h' e i:=by induction i with|lst A=>obtain⟨z,w,n,r,a⟩:=x;exact⟨z,w,n,r,k _ _ (.inl rfl) a⟩|tup A=>obtain⟨z,w,r,j,a,c⟩:=x;exact⟨z,w,r,j,k _ _ (.inl rfl) a,c⟩|dK a'=>obtain⟨z,y,B,r,j,m,s,a,c⟩:=x;exact⟨z,y,B,r,j,m,s,k _ _ (.inl rfl) a,c⟩|dT a'=>obtain⟨z,y,A,r,j,m,s,a,c⟩:=x;exact⟨z,y,A,Paired.mapP r λp h z=>⟨z.1,ht _ _ z.2.1,z.2.2⟩,j,m,s,k _ _ (.inl rfl) a,c⟩|set S n=>obtain⟨j,m,s,t,a,c⟩:=x;exact⟨j,m,s,t,k _ _ (.inl rfl) a,c⟩|ins C dx fs=>obtain⟨d,z,ne,a,H,⟨E,m,s,e2,c⟩,r⟩:=x;exact⟨ho _ d,z,ne,k _ _ (.inl rfl) a,H,⟨E,m,s,k _ _ (.inr d) e2,c⟩,r⟩|own y=>obtain⟨j,a⟩:=x;exact⟨j,k _ _ (.inl rfl) a⟩|xd fs=>obtain⟨H,⟨E,m,s,a,c⟩,r⟩:=x;exact⟨H,⟨E,m,s,k _ _ (.inl rfl) a,c⟩,r⟩|rng lo hi=>obtain⟨t,u,v,a⟩:=x;exact⟨t,u,v,k _ _ (.inl rfl) a⟩|frz j u ih=>obtain⟨a,h⟩:=x;exact⟨k _ _ (.inl rfl) a,ih h⟩|tbl ps=>obtain⟨qs,a,tr,ch⟩:=x;exact⟨qs,k e _ (.inl rfl) a,tr,λpos v hv=>let⟨c,oc,B,h,t,t',e1,e2,r⟩:=ch pos v hv;⟨c,oc,B,h,t,t',e1,hf _ _ _ e2,r⟩⟩|met f y=>have a:P.get? e=Z (XJ (.ref f) (.ref y)):=x;show h'.get? e=Z (XJ (.ref f) (.ref y));exact k e _ (.inl rfl) a|ext φ=>obtain⟨p,⟨i,a⟩,st⟩:=x;exact⟨st _ _ p λi h=>k _ _ (.inl rfl) h,⟨i,k _ _ (.inl rfl) a⟩,st⟩
def đ.lt{P:on}{w:z_}{H:Hp}{h:M_}{a:O}{o:HO}(x:đ P w H h)(e:H a=Z o):a<h.objs.size:=(x a o e).lt
def đ.fresh(x:đ q o g P)(b:P.objs.size<=e):g e=U:=by cases a:g e with|none=>rfl|some u=>exact absurd (Q_ (x.lt a) b) (Tg _)
def đ.kept{h':M_}(x:đ q o g P)(k:∀b u,P.get? b=Z u->h'.get? b=Z u):đ q o g h':=λa d e=>(x a d e).stay (λb u _ c=>k b u c) (λ_ c=>c) λ_ _ c=>c
def đ.laid{P:on}{w:z_}{H:Hp}{h h':M_}{a:O}{o:HO}(x:đ P w H h)(k:∀b u,h.get? b=Z u->h'.get? b=Z u)(i:h.objs.size<=a)(d:ì P w (Ý H a o) h' a o):đ P w (Ý H a o) h':=λb u e=>by
 have f:=x.fresh i;by_cases g:b=a;·subst g;rw[ao]at e;cases e;exact d
 ·rw[al g]at e;exact(x b u e).stay (λc v _ q=>k c v q) (λc q=>by rw[al (av q f)];exact q) λc j q=>by rw[al (av q f)];exact q
def Rd(H:Hp)(a:O)(u:HO):Prop:=H a=Z u\/∃o,H a=Z (.frz o u)
def Rd.ok{u:HO}(r:Rd g e u)(x:đ q o g P):ì q o g P e u:=by
 rcases r with r|⟨b,r⟩;·exact x e u r
 ·obtain⟨_,a⟩:=x e _ r;exact a
def Mut:Option HO->Prop|some (.lst _)=>True|some (.dK _)=>True|some (.dT _)=>True|some (.set _ _)=>True|some (.ins _ _ _)=>True|some (.ext _)=>True|_=>False
def đ.write{h':M_}{x e:O}{p:HO}(B:đ q o g P)(h:Mut (g x))(A:e=x\/g e=Z (.own x))(k:∀b u,b≠e->P.get? b=Z u->h'.get? b=Z u)(t:∃u,h'.get? e=Z u)(s:ì q o (Ý g x p) h' x p):đ q o (Ý g x p) h':=λb u a=>by
 have f:∀c y,g c=Z (.own y)->c≠x:=λc y r z=>by subst z;rw[r]at h;exact h
 have i:∀c j,g c=Z (.tup j)->c≠x:=λc j r z=>by subst z;rw[r]at h;exact h
 by_cases n:b=x;·subst n;rw[ao]at a;cases a;exact s
 · rw[al n]at a;by_cases d:b=e
   · have w:g b=Z (.own x):=by
      rcases A with z|z;·exact absurd (d.trans z) n
      ·rw[d];exact z
     rw[a]at w;cases w;obtain⟨v,E⟩:=t;exact⟨v,by rw[d];exact E⟩
   · refine(B b u a).stay (λc v m r=>k c v ?_ r) (λc r=>by rw[al (f c b r)];exact r) (λc j r=>by rw[al (i c j r)];exact r) λc _ _ r=>by rw[al (λz=>by subst z;rw[r]at h;exact h)];exact r
     rcases m with rfl|m;·exact d
     · rintro rfl;rcases A with z|z;·exact f c b m z
       ·rw[m]at z;cases z;exact n rfl
structure Un(fs ex:List O)(H H':Hp)(h h':M_):Prop where
 keep:∀b o,h.get? b=Z o->H b=U->b∉fs->b∉ex->h'.get? b=Z o
 slot:∀b o,h.get? b=Z o->H b=U->b∈fs->b∉ex->∃sl,h'.get? b=Z {o with slots:=sl}free:∀b o,h.get? b=Z o->H b=U->b∉ex->H' b=U
 there:∀b o,h.get? b=Z o->b∉ex->∃o',h'.get? b=Z o'
 tups:∀b xs,H b=Z (.tup xs)->H' b=Z (.tup xs)frzs:∀b o u,H b=Z (.frz o u)->H' b=Z (.frz o u)tbls:∀b ps,H b=Z (.tbl ps)->∃more,H' b=Z (.tbl (ps++more))
variable{Ε:List O}
def Un.any{f:List O}{e:M_}(u:Un Ε f g ω P e){b:O}{a:Obj}(q:P.get? b=Z a)(n:g b=U)(c:b∉f):∃h,e.get? b=Z {a with slots:=h}:=by
 by_cases d:b∈Ε;·exact u.slot b a q n d c
 ·exact⟨a.slots,u.keep b a q n d c⟩
def Un.kept{c:List O}{h':M_}(k:∀b u,P.get? b=Z u->h'.get? b=Z u):Un Ε c g g P h':=⟨λb a q _ _ _=>k b a q,λb a q _ _ _=>⟨a.slots,k b a q⟩,λ_ _ _ n _=>n,λb a q _=>⟨a,k b a q⟩,λ_ _ q=>q,λ_ _ _ q=>q,λ_ d q=>⟨#[],by rw[q];simp⟩⟩
def Un.refl{a:List O}:Un Ε a g g P P:=Un.kept λ_ _ q=>q
def Un.laid{f:List O}{h':M_}{a:O}{o:HO}(k:∀b u,P.get? b=Z u->h'.get? b=Z u)(e:P.objs.size<=a)(c:g a=U):Un Ε f g (Ý g a o) P h' where
 keep:=λb u q _ _ _=>k b u q;slot:=λb u q _ _ _=>⟨u.slots,k b u q⟩;free:=λb u q n _=>by rw[al (D_ (Q_ (v_ q) e))];exact n
 there:=λb u q _=>⟨u,k b u q⟩;tups:=λb d q=>by rw[al (av q c)];exact q
 frzs:=λb u d q=>by rw[al (av q c)];exact q
 tbls:=λb h q=>⟨#[],by rw[al (av q c),q];simp⟩
def Un.write{s:List O}{h':M_}{x e:O}{o:HO}(c:Mut (g x))(p:e=x\/g e=Z (.own x))(k:∀b u,b≠e->P.get? b=Z u->h'.get? b=Z u)(f:∃u,h'.get? e=Z u):Un Ε s g (Ý g x o) P h':=by
 have h:∀b,g b=U->b≠x:=λb n z=>by subst z;rw[n]at c;exact c
 have i:∀b,g b=U->b≠e:=λb n z=>by
  subst z;rcases p with r|r;·exact h b n r
  ·rw[n]at r;cases r
 have d:∀b u,g b=Z u->¬Mut (Z u)->b≠x:=λb u q m z=>by subst z;rw[q]at c;exact m c
 refine⟨λb u q n _ _=>k b u (i b n) q,λb u q n _ _=>⟨u.slots,k b u (i b n) q⟩,λb u q n _=>by rw[al (h b n)];exact n,λb u q _=>?_,λb j q=>by rw[al (d b _ q λz=>z)];exact q,λb u j q=>by rw[al (d b _ q λz=>z)];exact q,λb t q=>⟨#[],by rw[al (d b _ q λz=>z),q];simp⟩⟩;by_cases a:b=e;·subst a;exact f
 ·exact⟨u,k b u a q⟩
def trk(h:M_)(H:Hp):List O:=(rl h.objs.size).filter λa=>(H a).isSome
def Bj(h:M_)(H:Hp):M_:=PySem.W.hideAll h (trk h H)
def wY(h:M_)(H:Hp):(Bj h H).objs.size=h.objs.size:=PySem.W.hideAll_size _ _
def Bk{o:Obj}(a:P.get? e=Z o)(n:g e=U):(Bj P g).get? e=Z o:=PySem.W.hideAll_get _ a λb=>by have q:(g e).isSome=L:=(R_.mp b).2;rw[n]at q;simp at q
def E7{o:Obj}(a:(Bj P g).get? e=Z o):P.get? e=Z o/\g e=U:=by have b:P.get? e=Z o:=PySem.W.of_hideAll (trk P g) a;refine⟨b,?_⟩;cases q:g e with|none=>rfl|some x=>have c:e∈trk P g:=R_.mpr ⟨SH.mpr (v_ b),by simp[q]⟩;have z:(Bj P g).get? e=U:=PySem.W.hideAll_none (trk P g) c;rw[z]at a;cases a
def Fa(g h:M_)(b:O):List (O×Obj):=(rl h.objs.size).filterMap λa=>if a=b\/(g.get? a).isSome=L then U else(h.get? a).map λo=>(a,o)
def rest(g h:M_)(a d:O):List (O×Obj):=(Fa g h a).filter λp=>uk (p.1≠d)
structure Mod(K:d_)(mg:Str->Option R)(base:M_):Prop where
 kin:K.In base
 glob:base.Ns H_ mg
 blt:∃mb,base.Ns builtinsNs mb/\∀x:Str,x≠"__name__"->mb x=TC x
 nolimit:base.NoLimit
structure C where
 prog:on
 w:z_
 K:d_
 mg:Str->Option R
 base:M_
 A:x_
 N:List Str
 s₀:g_
 H₀:Hp
 env:Env
 outer:List Env
 stack:List Env
 ex:List O
 fn:Str->Bool
 calm:Bool
 pn:List (O×Obj)xe:R->g_->Prop
def frs(l:List Env):List O:=l.filterMap (·.frame)
abbrev C.fs(X:C):List O:=frs X.outer
def Vis(a:TF)(x:Str):Prop:=a.names.lookup x=Z .local\/a.names.lookup x=Z .cell\/a.names.lookup x=Z .free
def ľ(a:TF)(x:Str):Prop:=a.names.lookup x=Z .local\/a.names.lookup x=Z .cell
def Q2(a:Env)(h:M_)(m:Str->Option R)(x:Str)(u:R):Prop:=(a.kindOf x=Z .local/\m x=Z u)\/((a.kindOf x=Z .cell\/a.kindOf x=Z .free)/\∃c,a.cells.lookup x=Z c/\h.IsCell c (Z u))
structure C.Ok(X:C):Prop where
 mod:Mod X.K X.mg X.base
 kind:X.env.scope.kind=.function
 glob:X.env.globals=H_
 blt:X.env.builtins=builtinsNs
 above:X.s₀.heap.objs.size<=X.env.locals
 inj:∀x y c,X.env.cells.lookup x=Z c->X.env.cells.lookup y=Z c->x=y
 has:∀x,(X.env.kindOf x=Z .cell\/X.env.kindOf x=Z .free)->∃c,X.env.cells.lookup x=Z c
 cab:∀x c,X.fn x=L->X.env.cells.lookup x=Z c->X.s₀.heap.objs.size<=c
 hd:X.calm=L->X.A.handled=U
 frames:X.A.frames=Z X.stack
 stk:X.stack=X.outer\/(X.stack=X.env::X.outer/\X.env.frame=Z X.env.locals)exf:∀b∈X.ex,b≠X.env.locals/\∀x c,X.env.cells.lookup x=Z c->c≠b
 bs:∀b o,X.base.get? b=Z o->X.s₀.heap.get? b=Z o/\X.H₀ b=U
 bsz:X.base.objs.size<=X.s₀.heap.objs.size
 noex:∀b o,X.base.get? b=Z o->b∉X.ex
 exfs:∀b∈X.ex,b∉X.fs
 funs:X.s₀.heap.FunFrames X.base X.outer
 frf:∀b∈X.fs,X.H₀ b=U
structure Ë(X:C)(f':List (O×Obj))(σ:List (Option V))(H:Hp)(s:g_):Prop where
 ok:X.Ok
 os:s.os=X.s₀.os
 bare:XO s.gens
 base:Un X.fs X.ex X.H₀ H X.s₀.heap s.heap
 loc:∃m,s.heap.Ns X.env.locals m/\∀(i:Nat)(x:Str)(v:V),X.N[i]?=Z x->σ[i]?=Z (Z v)->Vis X.env.scope x->∃u,Ú v u/\Q2 X.env s.heap m x u
 cell:∀x c,X.env.cells.lookup x=Z c->∃v,s.heap.IsCell c v
 free:H X.env.locals=U
 freeC:∀x c,X.env.cells.lookup x=Z c->H c=U
 pin:∀p∈X.pn++f',s.heap.get? p.1=Z p.2/\H p.1=U/\p.1≠X.env.locals/\p.1∉X.fs/\∀v,p.2.data≠.cell v
 hok:đ X.prog X.w H s.heap
 len:σ.length=X.N.length
variable{a:C}
def C.Ok.nofr(c:a.Ok){b:O}{o:Obj}(e:a.base.get? b=Z o):b∉a.fs:=λd=>by have:=(c.funs.mem d).1;rw[e]at this;cases this
variable{H:List (O×Obj)}{Ã:List (Option V)}
def Ë.bs(I:Ë a H Ã g d):∀b o,a.base.get? b=Z o->d.heap.get? b=Z o/\g b=U:=λb o e=>⟨I.base.keep b o (I.ok.bs b o e).1 (I.ok.bs b o e).2 (I.ok.nofr e) (I.ok.noex b o e),I.base.free b o (I.ok.bs b o e).1 (I.ok.bs b o e).2 (I.ok.noex b o e)⟩
def Ë.bk(I:Ë a H Ã g d):∀b o,a.base.get? b=Z o->d.heap.get? b=Z o:=λb o e=>(I.bs b o e).1
def Ë.mod(I:Ë a H Ã g d):Mod a.K a.mg a.base:=I.ok.mod
def Ë.kIn(I:Ë a H Ã g d):a.K.In d.heap:=I.ok.mod.kin.keeps I.bk
def Ë.nolimit(I:Ë a H Ã g d):d.heap.NoLimit:=I.ok.mod.nolimit.keeps I.bk
def Ë.lt(I:Ë a H Ã g d):a.env.locals<d.heap.objs.size:=let⟨_,b,_⟩:=I.loc;b.lt
def Ë.sz(I:Ë a H Ã g d):a.s₀.heap.objs.size<=d.heap.objs.size:=RZ I.ok.above (U5 I.lt)
def Ë.nofs(I:Ë a H Ã g d){b:O}(h:d.heap.objs.size<=b):b∉a.fs:=λe=>by obtain⟨_,o,c,_⟩:=I.ok.funs.mem e;exact absurd (Q_ (v_ c) (RZ I.sz h)) (Tg _)
def Ë.cne(I:Ë a H Ã g d):∀x c,a.env.cells.lookup x=Z c->c≠a.env.locals:=λx c e z=>by obtain⟨v,o,h,i⟩:=I.cell x c e;obtain⟨m,⟨j,k,n,b,f,_⟩,_⟩:=I.loc;rw[z,b]at h;cases h;rw[f]at i;cases i
def Ë.funs(I:Ë a H Ã g d):d.heap.FunFrames a.base a.outer:=by
 have all:∀(l:List Env),(∀b∈frs l,b∈a.fs)->a.s₀.heap.FunFrames a.base l->d.heap.FunFrames a.base l:=by intro l;induction l with|nil=>intro _ _;trivial|cons u r k=>intro j q;obtain⟨s,⟨c,o,f,p,n,t⟩,m⟩:=q;have i:c∈a.fs:=j c (by unfold frs;rw[V2,f];exact o_);obtain⟨v,e⟩:=I.base.slot c o n (I.ok.frf c i) i λz=>I.ok.exfs c z i;exact⟨s,⟨c,_,f,p,e,t⟩,k (λb h=>j b (by unfold frs;rw[V2,f];exact m_ _ h)) m⟩
 exact all a.outer (λ_ h=>h) I.ok.funs
def Ë.stack(I:Ë a H Ã g d):d.heap.FunFrames a.base a.stack:=by
 rcases I.ok.stk with e|⟨e,c⟩;·rw[e];exact I.funs
 ·rw[e];obtain⟨m,b,_⟩:=I.loc;refine .cons (by rw[I.ok.kind];decide) c b ?_ I.funs;exact UY (RZ I.ok.bsz I.ok.above)
def Ë.stkSub(I:Ë a H Ã g d):∀b∈frs a.stack,b∈a.env.locals::a.fs:=λb c=>by
 rcases I.ok.stk with e|⟨e,f⟩;·rw[e]at c;exact m_ _ c
 ·rw[e]at c;unfold frs at c;rw[V2,f]at c;exact c
def Ë.stkFree(I:Ë a H Ã g d):∀b∈frs a.stack,g b=U:=λb c=>by
 rcases w_.mp (I.stkSub b c)with e|c;·rw[e];exact I.free
 ·obtain⟨_,o,f,_⟩:=I.ok.funs.mem c;exact I.base.free b o f (I.ok.frf b c) λz=>I.ok.exfs b z c
def Ë.step{g':Array Y5}{t':Nat}{d':Drawn}{ch:List O}(I:Ë a H Ã g d)(t:∀b∈ch,(b∈a.ex\/a.s₀.heap.objs.size<=b)/\b≠a.env.locals/\(∀x c,a.env.cells.lookup x=Z c->c≠b)/\∀p∈a.pn++H,p.1≠b)(w:∀b o,b≠a.env.locals->b∉a.fs->b∉ch->d.heap.get? b=Z o->g b=U->P.get? b=Z o)(a':∀b o,b≠a.env.locals->b∈a.fs->b∉ch->d.heap.get? b=Z o->g b=U->∃sl,P.get? b=Z {o with slots:=sl})(j:∀b o,b∉ch->d.heap.get? b=Z o->g b=U->ω b=U)(b':∀b o,b∉ch->d.heap.get? b=Z o->∃o',P.get? b=Z o')(e':∀b E,g b=Z (.tup E)->ω b=Z (.tup E))(l':∀b o u,g b=Z (.frz o u)->ω b=Z (.frz o u))(i':∀b ps,g b=Z (.tbl ps)->∃k',ω b=Z (.tbl (ps++k')))(ns:∀m,d.heap.Ns a.env.locals m->P.Ns a.env.locals m)(n':đ a.prog a.w ω P)(hg:XO g'):Ë a H Ã ω {d with heap:=P,gens:=g',drawn:=d',toks:=t'}:=by
 have c':∀b o,a.s₀.heap.get? b=Z o->b≠a.env.locals:=λb o e=>D_ (Q_ (v_ e) I.ok.above);have B:∀b o,a.s₀.heap.get? b=Z o->b∉a.ex->b∉ch:=λb o e h hb=>by
  rcases(t b hb).1 with z|z;·exact h z
  ·exact absurd (Q_ (v_ e) z) (Tg _)
 have y:∀x c,a.env.cells.lookup x=Z c->∀v,d.heap.IsCell c v->P.IsCell c v:=λx c e v⟨o,ho,hd⟩=>by
  have s:c∉ch:=λz=>(t c z).2.2.1 x c e rfl;by_cases hc:c∈a.fs;·obtain⟨sl,q⟩:=a' c o (I.cne x c e) hc s ho (I.freeC x c e);exact⟨_,q,hd⟩
  ·exact⟨o,w c o (I.cne x c e) hc s ho (I.freeC x c e),hd⟩
 refine⟨I.ok,I.os,hg,⟨λb o e n hb h=>?_,λb o e n hb h=>?_,λb o e n h=>?_,λb o e h=>?_,λb E e=>e' b E (I.base.tups b E e),λb o E e=>l' b o E (I.base.frzs b o E e),λb ps e=>?_⟩,?_,λx c e=>?_,?_,λx c e=>?_,λp hp=>?_,n',I.len⟩;·exact w b o (c' b o e) hb (B b o e h) (I.base.keep b o e n hb h) (I.base.free b o e n h)
 ·obtain⟨sl,A⟩:=I.base.slot b o e n hb h;obtain⟨m',e2⟩:=a' b _ (c' b o e) hb (B b o e h) A (I.base.free b o e n h);exact⟨m',e2⟩
 ·obtain⟨o',A⟩:=I.base.there b o e h;exact j b o' (B b o e h) A (I.base.free b o e n h)
 ·obtain⟨o',A⟩:=I.base.there b o e h;exact b' b o' (B b o e h) A
 ·obtain⟨m1,A⟩:=I.base.tbls b ps e;obtain⟨m2,e2⟩:=i' b _ A;exact⟨m1++m2,by rw[e2,ZH]⟩
 · obtain⟨m,hn,hl⟩:=I.loc;refine⟨m,ns m hn,λi x v A e2 e3=>?_⟩;obtain⟨u,r,l⟩:=hl i x v A e2 e3;refine⟨u,r,?_⟩;rcases l with l|⟨k,c,e,z⟩;·exact .inl l
   ·exact .inr ⟨k,c,e,y x c e _ z⟩
 ·obtain⟨v,z⟩:=I.cell x c e;exact⟨v,y x c e v z⟩
 ·obtain⟨m,⟨o,_,_,ho,_⟩,_⟩:=I.loc;exact j _ o (λz=>(t _ z).2.1 rfl) ho I.free
 ·obtain⟨v,o,ho,hd⟩:=I.cell x c e;exact j c o (λz=>(t c z).2.2.1 x c e rfl) ho (I.freeC x c e)
 ·obtain⟨e,n,ne,nf,f⟩:=I.pin p hp;have s:p.1∉ch:=λz=>(t p.1 z).2.2.2 p hp rfl;exact⟨w p.1 p.2 ne nf s e n,j p.1 p.2 s e n,ne,nf,f⟩
def Ë.un{h':M_}{t':Nat}(I:Ë a H Ã g d)(u:Un a.fs [] g ω d.heap h')(h:đ a.prog a.w ω h'):Ë a H Ã ω {d with heap:=h',toks:=t'}:=by obtain⟨m,⟨o,y,A,k,r⟩,_⟩:=id I.loc;obtain⟨t,s⟩:=u.any k I.free (by simp);exact I.step (g':=d.gens) (d':=d.drawn) (ch:=[]) (λ_ z=>nomatch z) (λb o _ f _ e n=>u.keep b o e n f (by simp)) (λb o _ f _ e n=>u.slot b o e n f (by simp)) (λb o _ e n=>u.free b o e n (by simp)) (λb o _ e=>u.there b o e (by simp)) u.tups u.frzs u.tbls (λw q=>by obtain⟨v,i,j,c,p⟩:=q;rw[k]at c;cases c;exact⟨_,i,j,s,p⟩) h I.bare
def Ë.call{h':M_}{g':Array Y5}{t':Nat}{d':Drawn}{ch:List O}(I:Ë a H Ã g d)(u:Un (frs a.stack) ch g ω d.heap h')(k:đ a.prog a.w ω h')(y:XO g')(i:∀b∈ch,(b∈a.ex\/a.s₀.heap.objs.size<=b)/\b≠a.env.locals/\(∀x c,a.env.cells.lookup x=Z c->c≠b)/\∀p∈a.pn++H,p.1≠b):Ë a H Ã ω {d with heap:=h',gens:=g',drawn:=d',toks:=t'}:=by obtain⟨m,⟨o,es,ep,t,r⟩,_⟩:=id I.loc;obtain⟨B,j⟩:=u.any t I.free λz=>(i _ z).2.1 rfl;exact I.step (ch:=ch) i (λb o j A f e n=>u.keep b o e n (λz=>(w_.mp (I.stkSub b z)).elim j A) f) (λb o _ _ f e n=>u.any e n f) (λb o f e n=>u.free b o e n f) (λb o f e=>u.there b o e f) u.tups u.frzs u.tbls (λP w=>by obtain⟨E,q,s,h,v⟩:=w;rw[t]at h;cases h;exact⟨_,q,s,j,v⟩) k y
def Ë.turned{h':M_}{t':Nat}{it:O}(I:Ë a H Ã g d)(k:∀b o,b≠it->d.heap.get? b=Z o->h'.get? b=Z o)(s:g it=U)(i:it≠a.env.locals)(B:it∈a.ex\/a.s₀.heap.objs.size<=it)(A:∀x c,a.env.cells.lookup x=Z c->c≠it)(y:∀p∈a.pn++H,p.1≠it):Ë a H Ã g {d with heap:=h',toks:=t'}:=by
 have h:∀b u,g b=Z u->b≠it:=λb u e z=>by rw[z,s]at e;cases e
 refine I.step (g':=d.gens) (d':=d.drawn) (ch:=[it]) (λb w=>?_) (λb o _ _ f e _=>k b o (λz=>f (by simp[z])) e) (λb o _ _ f e _=>⟨o.slots,k b o (λz=>f (by simp[z])) e⟩) (λ_ _ _ _ n=>n) (λb o f e=>⟨o,k b o (λz=>f (by simp[z])) e⟩) (λ_ _ e=>e) (λ_ _ _ e=>e) (λb ps e=>⟨#[],by rw[e];simp⟩) (λm t=>?_) (λb u e=>?_) I.bare
 · have e:b=it:=by simpa using w
   subst e;exact⟨B,i,A,y⟩
 ·obtain⟨o,E,P,j,r⟩:=t;exact⟨o,E,P,k _ o (Vg i) j,r⟩
 · refine(I.hok b u e).stay (λc v f q=>k c v ?_ q) (λ_ q=>q) λ_ _ q=>q;rcases f with z|z;·rw[z];exact h b u e
   ·exact h c _ z
def Ë.tok(I:Ë a H Ã g d)(t:Nat):Ë a H Ã g {d with toks:=t}:=I.un (h':=d.heap) (t':=t) Un.refl I.hok
def Ë.kept{h':M_}{t':Nat}(I:Ë a H Ã g d)(k:∀b u,d.heap.get? b=Z u->h'.get? b=Z u):Ë a H Ã g {d with heap:=h',toks:=t'}:=I.un (Un.kept k) (I.hok.kept k)
def Ë.laid{X:C}{f:List (O×Obj)}{e:List (Option V)}{H:Hp}{s:g_}{h':M_}{a:O}{o:HO}{t':Nat}(I:Ë X f e H s)(k:∀b u,s.heap.get? b=Z u->h'.get? b=Z u)(c:s.heap.objs.size<=a)(d:ì X.prog X.w (Ý H a o) h' a o):Ë X f e (Ý H a o) {s with heap:=h',toks:=t'}:=I.un (Un.laid k c (I.hok.fresh c)) (I.hok.laid k c d)
def Ë.write{h':M_}{x e:O}{o:HO}{t':Nat}(I:Ë a H Ã g d)(h:Mut (g x))(i:e=x\/g e=Z (.own x))(k:∀b u,b≠e->d.heap.get? b=Z u->h'.get? b=Z u)(c:∃u,h'.get? e=Z u)(f:ì a.prog a.w (Ý g x o) h' x o):Ë a H Ã (Ý g x o) {d with heap:=h',toks:=t'}:=I.un (Un.write h i k c) (I.hok.write h i k c f)
def Ë.pins_of{b:List (O×Obj)}(I:Ë a H Ã g d)(h:∀p∈b,d.heap.get? p.1=Z p.2/\g p.1=U/\p.1≠a.env.locals/\p.1∉a.fs/\∀v,p.2.data≠.cell v):Ë a b Ã g d:=⟨I.ok,I.os,I.bare,I.base,I.loc,I.cell,I.free,I.freeC,λp c=>(Sr.mp c).elim (λz=>I.pin p (RX _ z)) (h p),I.hok,I.len⟩
variable{v:List Str}
def tX(c:v.Nodup){i j:Nat}{x:Str}(a:v[i]?=Z x)(b:v[j]?=Z x):i=j:=by obtain⟨g,e⟩:=xy.mp a;obtain⟨f,d⟩:=xy.mp b;exact(aai c).mp (e.trans d.symm)
variable{Å:VB}{w:x_}{ν:R->g_->Prop}{b:Str}{Γ:V}{Ζ:R}
def wZ{Q:Unit->g_->Prop}(I:Ë a H Ã g d)(hN:a.N.Nodup)(hi:a.N[c]?=Z b)(E:ľ a.env.scope b)(r:Ú Γ Ζ)(h:∀s',Ë a H (Ã.set c (Z Γ)) g s'->(∃s,Uu s d.heap s'.heap/\(s=a.env.locals\/a.env.cells.lookup b=Z s))->Q () s')(hf:a.fn b=L\/a.env.scope.names.lookup b=Z .local:=by first|exact .inl rfl|exact .inr rfl|assumption):t_ Å w (storeName a.env b Ζ) Q ν d:=by
 obtain⟨m,hn,hl⟩:=id I.loc;have k':(a.env.scope.kind==.class||(a.env.scope.kind==.module&&a.env.locals !=a.env.globals))=D:=by rw[I.ok.kind];rfl
 have a':c<Ã.length:=by rw[I.len];exact(xy.mp hi).1
 have cne:=I.cne;have A:∀{s:O}{h':M_},(∃o,d.heap.get? s=Z o/\g s=U)->Uu s d.heap h'->đ a.prog a.w g h':=λ{s h'}ha u f ob e=>by
  obtain⟨_,_,P⟩:=ha;refine(I.hok f ob e).stay (λi w' B q=>(u.2 i ?_).trans q) (λ_ q=>q) λ_ _ q=>q;rintro rfl;rcases B with rfl|B;·rw[P]at e;cases e
  ·rw[P]at B;cases B
 rcases E with hk|hk
 · refine wpAny_storeName_local hk hn (λh' m' u=>?_) k';obtain⟨oL,_,_,l',_⟩:=id hn;refine h _ ⟨I.ok,I.os,I.bare,⟨λf o e n hb E=>?_,λf o e n hb E=>?_,I.base.free,λf o e E=>?_,I.base.tups,I.base.frzs,I.base.tbls⟩,⟨_,m',λj y v' v e2 e3=>?_⟩,λy i e=>?_,I.free,I.freeC,λp hp=>?_,A ⟨oL,l',I.free⟩ u,by simpa using I.len⟩ ⟨_,u,.inl rfl⟩;·exact(u.2 f (D_ (Q_ (v_ e) I.ok.above))).trans (I.base.keep f o e n hb E)
   ·obtain⟨sl,v⟩:=I.base.slot f o e n hb E;exact⟨sl,(u.2 f (D_ (Q_ (v_ e) I.ok.above))).trans v⟩
   ·obtain⟨o',v⟩:=I.base.there f o e E;exact⟨o',(u.2 f (D_ (Q_ (v_ e) I.ok.above))).trans v⟩
   · by_cases hj:j=c;·subst hj;rw[hi]at v;cases v;rw[Sh a']at e2;cases e2;exact⟨Ζ,r,.inl ⟨hk,by simp⟩⟩
     · rw[Sy (Vg hj)]at e2;obtain⟨u',r',q⟩:=hl j y v' v e2 e3;refine⟨u',r',?_⟩;rcases q with⟨k,e⟩|⟨k,i,e,z⟩;·refine .inl ⟨k,?_⟩;have:y≠b:=λe=>hj (tX hN v (e▸hi));simp[this,e]
       ·exact .inr ⟨k,i,e,z.sameBut u (cne y i e)⟩
   ·obtain⟨w',z⟩:=I.cell y i e;exact⟨w',z.sameBut u (cne y i e)⟩
   ·obtain⟨e,n,ne,nf,t⟩:=I.pin p hp;exact⟨(u.2 p.1 ne).trans e,n,ne,nf,t⟩
 · have b':a.fn b=L:=by
    rcases hf with z|z;·exact z
    ·rw[z]at hk;cases hk
   obtain⟨i,B⟩:=I.ok.has b (.inl hk);obtain⟨w',z⟩:=I.cell b i B;refine wpAny_storeName_cell I.ok.kind hk B z (λh' g' u=>?_);obtain⟨oc,d',i'⟩:=id z;refine h {d with heap:=h'} ⟨I.ok,I.os,I.bare,⟨λf o e n hb E=>?_,λf o e n hb E=>?_,I.base.free,λf o e E=>?_,I.base.tups,I.base.frzs,I.base.tbls⟩,⟨m,hn.sameBut u (Vg (cne b i B)),λj y v' v e2 e3=>?_⟩,λy c' e=>?_,I.free,I.freeC,λp hp=>?_,A ⟨oc,d',I.freeC b i B⟩ u,by simpa using I.len⟩ ⟨i,u,.inr B⟩;·exact(u.2 f (D_ (Q_ (v_ e) (I.ok.cab b i b' B)))).trans (I.base.keep f o e n hb E)
   ·obtain⟨sl,v⟩:=I.base.slot f o e n hb E;exact⟨sl,(u.2 f (D_ (Q_ (v_ e) (I.ok.cab b i b' B)))).trans v⟩
   ·obtain⟨o',v⟩:=I.base.there f o e E;exact⟨o',(u.2 f (D_ (Q_ (v_ e) (I.ok.cab b i b' B)))).trans v⟩
   · by_cases hj:j=c;·subst hj;rw[hi]at v;cases v;rw[Sh a']at e2;cases e2;exact⟨Ζ,r,.inr ⟨.inl hk,i,B,g'⟩⟩
     · rw[Sy (Vg hj)]at e2;obtain⟨u',r',q⟩:=hl j y v' v e2 e3;refine⟨u',r',?_⟩;rcases q with q|⟨k,c',e,z'⟩;·exact .inl q
       ·refine .inr ⟨k,c',e,z'.sameBut u ?_⟩;rintro rfl;exact hj (tX hN v (I.ok.inj _ _ _ e B▸hi))
   · by_cases e':c'=i;·subst e';exact⟨_,g'⟩
     ·obtain⟨w2,z2⟩:=I.cell y c' e;exact⟨w2,z2.sameBut u e'⟩
   ·obtain⟨e,n,ne,nf,t⟩:=I.pin p hp;refine⟨(u.2 p.1 ?_).trans e,n,ne,nf,t⟩;intro q;rw[q,d']at e;have q':oc=p.2:=Sd e;exact t w' (by rw[<-q'];exact i')
def tY{Q:Unit->g_->Prop}(I:Ë a H Ã g d)(k:a.N.Nodup)(i:a.N[c]?=Z b)(f:ľ a.env.scope b)(r:Ú Γ Ζ)(h:∀e,Ë a H (Ã.set c (Z Γ)) g e->Q () e)(j:a.fn b=L\/a.env.scope.names.lookup b=Z .local:=by first|exact .inl rfl|exact .inr rfl|assumption):t_ Å w (storeName a.env b Ζ) Q ν d:=wZ I k i f r (λe m _=>h e m) j
def Ë.call'{s':g_}{ch:List O}(I:Ë a H Ã g d)(k:s'.os=d.os)(u:Un (frs a.stack) ch g ω d.heap s'.heap)(f:đ a.prog a.w ω s'.heap)(m:XO s'.gens)(h:∀b∈ch,(b∈a.ex\/a.s₀.heap.objs.size<=b)/\b≠a.env.locals/\(∀x c,a.env.cells.lookup x=Z c->c≠b)/\∀p∈a.pn++H,p.1≠b):Ë a H Ã ω s':=by obtain⟨q,n,o,i,j⟩:=s';have e:j=d.os:=k;subst e;exact I.call (g':=n) (t':=i) (d':=o) u f m h
abbrev XK:=R->Option O->Hp->Prop
abbrev St:=List (Option V)
abbrev VK:=V->Hp->Prop
abbrev TE:=St->Hp->VK->Prop
abbrev TT:=St->Hp->(Bool->Hp->Prop)->Prop
abbrev TA:=St->Hp->(List V->Hp->Prop)->Prop
structure tZ where
 nx:St->Hp->Prop
 rt:VK
 bk:St->Hp->Prop:=λ_ _=>False
 ct:St->Hp->Prop:=λ_ _=>False
abbrev TS:=tZ->St->Hp->Prop
def EP(X:C)(d:List (O×Obj))(b:St)(Q:VK)(u:R)(c:g_):Prop:=∃v a,Ë X d b a c/\Ú v u/\Q v a
def TP(X:C)(e:List (O×Obj))(c:St)(Q:Bool->Hp->Prop)(b:Bool)(d:g_):Prop:=∃a,Ë X e c a d/\Q b a
def AP(X:C)(f:List (O×Obj))(c:St)(Q:List V->Hp->Prop)(d:List R)(e:g_):Prop:=∃a b,Ë X f c b e/\Î a d/\Q a b
def SP(X:C)(e:List (O×Obj))(a:tZ)(f:Flow)(d:g_):Prop:=match f with|.next=>∃b c,Ë X e b c d/\a.nx b c|.brk=>∃b c,Ë X e b c d/\a.bk b c|.cont=>∃b c,Ë X e b c d/\a.ct b c|.ret u=>∃v b c,Ë X e b c d/\Ú v u/\a.rt v c
def PE(X:C)(e:u_)(t:TE):Prop:=∀(b:List (O×Obj))(s:g_)(a:St)(H:Hp)(Q:VK),Ë X b a H s->t a H Q->t_ (y_ X.prog X.w) X.A (eval e X.env) (EP X b a Q) X.xe s
def PT(X:C)(e:u_)(t:TT):Prop:=∀(b:List (O×Obj))(s:g_)(a:St)(H:Hp)(Q:Bool->Hp->Prop),Ë X b a H s->t a H Q->t_ (y_ X.prog X.w) X.A (isTrue e X.env (eval e X.env)) (TP X b a Q) X.xe s
def PW(X:C)(e:u_)(t:TT):Prop:=∀(a:Sem R)(c:List (O×Obj))(s:g_)(b:St)(H:Hp)(Q:Bool->Hp->Prop),Ë X c b H s->t b H Q->t_ (y_ X.prog X.w) X.A (isTrue e X.env a) (TP X c b Q) X.xe s
def PA(X:C)(c:List u_)(t:TA):Prop:=∀(pos:Pos)(b:List (O×Obj))(s:g_)(a:St)(H:Hp)(Q:List V->Hp->Prop),Ë X b a H s->t a H Q->t_ (y_ X.prog X.w) X.A (spliced (R8 pos (l_ c X.env))) (AP X b a Q) X.xe s
def PS(X:C)(d:S7)(t:TS):Prop:=∀(c:List (O×Obj))(s:g_)(b:St)(H:Hp)(a:tZ),Ë X c b H s->t a b H->t_ (y_ X.prog X.w) X.A (exec d X.env) (SP X c a) X.xe s
def ĺ(X:C)(d:List S7)(t:TS):Prop:=∀(c:List (O×Obj))(s:g_)(b:St)(H:Hp)(a:tZ),Ë X c b H s->t a b H->t_ (y_ X.prog X.w) X.A (execs d X.env) (SP X c a) X.xe s
def è{t:Sem z}{Q b:z->g_->Prop}(h:t_ Å w t Q ν d)(c:∀a d,Q a d->b a d):t_ Å w t b ν d:=Sw h c λ_ _ x=>x
def DJ(i:Nat):TE:=λa H Q=>∃v,a[i]?=Z (Z v)/\Q v H
def tC(v:V):TE:=λ_ H Q=>Q v H
variable{p:Pos}
def w4(z:a.N[c]?=Z b)(q:Vis a.env.scope b)(j:(b==("__debug__":Str))=D:=by decide)(k:(b==("__classdict__":Str))=D:=by decide):PE a (.Name b p) (DJ c):=by
 intro A s o H Q I h;obtain⟨v,e,h⟩:=h;obtain⟨m,t,y⟩:=I.loc;obtain⟨u,r,l⟩:=y c b v z e q;have i:EP a A o Q u s:=⟨v,H,I,r,h⟩;rcases l with⟨g,w⟩|⟨g,d,n,f⟩;·exact wpAny_Name (wpAny_loadName_local I.ok.kind g t w i) j
 · rcases g with g|g;·exact wpAny_Name (wpAny_loadName_cell I.ok.kind g n f i) j
   ·exact wpAny_Name (wpAny_loadName_free I.ok.kind g n f i k) j
def Jm{i j b}:PE a (.Constant (.int i) j b) (tC (.int i)):=λ_ _ _ H _ I h=>wpAny_Constant_int ⟨.int i,H,I.tok _,⟨_,rfl⟩,h⟩
def N2{b j c}:PE a (.Constant (.bool b) j c) (tC (.bl b)):=λ_ _ _ H _ I h=>Constant_bool ⟨.bl b,H,I,rfl,h⟩
def Jn{j b}:PE a (.Constant .none j b) (tC .non):=λ_ _ _ H _ I h=>Constant_none ⟨.non,H,I,rfl,h⟩
def Jo{x j b}:PE a (.Constant (.str x) j b) (tC (.str x)):=λ_ _ _ H _ I h=>Calls.Constant_str ⟨.str x,H,I.tok _,⟨_,rfl⟩,h⟩
def Gl(X:C)(x:Str):Prop:=X.env.kindOf x=Z .globalImplicit
variable{Ω:St}{Â:R->g_->Prop}
def oi(I:Ë a H Ω g d)(e:Gl a b)(c:a.mg b=Z Ζ)(h:Â Ζ d)(f:(b==("__debug__":Str))=D:=by decide):t_ (y_ a.prog a.w) a.A (eval (.Name b p) a.env) Â ν d:=Xy I.ok.kind e (Calls.loadGlobal_global (by rw[I.ok.glob];exact I.mod.glob.keeps I.bk) c h) f
def gg(I:Ë a H Ω g d)(i:Gl a b)(f:a.mg b=U)(c:TC b=Z Ζ)(h:Â Ζ d)(e:b≠"__name__":=by decide)(j:(b==("__debug__":Str))=D:=by decide):t_ (y_ a.prog a.w) a.A (eval (.Name b p) a.env) Â ν d:=by obtain⟨n,m,k⟩:=I.mod.blt;exact Xy I.ok.kind i (Calls.loadGlobal_builtin (by rw[I.ok.glob];exact I.mod.glob.keeps I.bk) f (by rw[I.ok.blt];exact m.keeps I.bk) ((k b e).trans c) h) j
def w5(d:Gl a b)(c:a.mg b=Z Ζ)(r:Ú Γ Ζ)(e:(b==("__debug__":Str))=D:=by decide):PE a (.Name b p) (tC Γ):=λ_ _ _ H _ I h=>oi I d c ⟨Γ,H,I,r,h⟩ e
def Fb(f:Gl a b)(e:a.mg b=U)(c:TC b=Z Ζ)(r:Ú Γ Ζ)(d:b≠"__name__":=by decide)(g:(b==("__debug__":Str))=D:=by decide):PE a (.Name b p) (tC Γ):=λ_ _ _ H _ I h=>gg I f e c ⟨Γ,H,I,r,h⟩ d g
def tB(t:TE):TT:=λa H Q=>t a H λx b=>∃c,x=.bl c/\Q c b
variable{f:u_}{À:TE}
def DK(h:PE a f À)(j:∀b,isTrue f a.env b=(do let v<-b;Ym f.pos;VJ [v] (truthy v)):=by intro _;rfl):PT a f (tB À):=by intro k s c H Q I i;refine isTrue_plain (è (h k s c H _ I i) λv o⟨x,n,m,e,g⟩=>?_) (j _);obtain⟨d,rfl,q⟩:=g;cases e;exact TW ⟨n,m,q⟩
def Q3(t u:TT):TT:=λa H Q=>t a H λc b=>if c=L then u a b Q else Q D b
def tOr(t u:TT):TT:=λa H Q=>t a H λc b=>if c=L then Q L b else u a b Q
def Q4(t:TT):TT:=λa H Q=>t a H λc b=>Q (!c) b
def Fc{b:TT}(g:PT a f b):PW a (.BoolOp .And [f] p) b:=by intro j i s d H Q I h;refine isTrue_and (è (g i s d H Q I h) λc k e=>?_);cases c with|true=>exact isTrue_and_nil e|false=>exact e
def DM{b:TT}(g:PT a f b):PW a (.BoolOp .Or [f] p) b:=by intro j i s d H Q I h;refine isTrue_or (è (g i s d H Q I h) λc k e=>?_);cases c with|false=>exact isTrue_or_nil e|true=>exact e
variable{y:u_}{u:List u_}
def Jp{e b:TT}(q:PT a f e)(o:PW a (.BoolOp .And (y::u) p) b):PW a (.BoolOp .And (f::y::u) p) (Q3 e b):=by intro m i s d H Q I h;refine isTrue_and (è (q i s d H _ I h) λc n⟨k,j,g⟩=>?_);cases c with|true=>exact o m i n d k Q j g|false=>exact⟨k,j,g⟩
def Jq{e b:TT}(q:PT a f e)(o:PW a (.BoolOp .Or (y::u) p) b):PW a (.BoolOp .Or (f::y::u) p) (tOr e b):=by intro m i s d H Q I h;refine isTrue_or (è (q i s d H _ I h) λc n⟨k,j,g⟩=>?_);cases c with|true=>exact⟨k,j,g⟩|false=>exact o m i n d k Q j g
def DN{b:TT}(e:PT a f b):PT a (.UnaryOp .Not f p) (Q4 b):=by intro g s d H Q I h;exact isTrue_not (e g s d H (λc i=>Q (!c) i) I h)
def N3(e d:TE):TE:=λa H Q=>e a H λx b=>∃c,x=.bl c/\if c=L then d a b Q else Q (.bl D) b
def Q5(e d:TE):TE:=λa H Q=>e a H λx b=>∃c,x=.bl c/\if c=L then Q (.bl L) b else d a b Q
def N4(b:TE):TE:=λa H Q=>b a H λx d=>∃c,x=.bl c/\Q (.bl (!c)) d
def DO{c}(h:PE a f À):PE a (.BoolOp c [f] p) À:=λe s b H Q I d=>BoolOp_one (h e s b H Q I d)
def DP{e:TE}(o:PE a f À)(n:PE a (.BoolOp .And (y::u) p) e):PE a (.BoolOp .And (f::y::u) p) (N3 À e):=by intro g s d H Q I h;refine BoolOp_and (è (o g s d H _ I h) λv k⟨x,j,i,m,b⟩=>?_);obtain⟨c,rfl,b⟩:=b;cases m;refine TW ?_;cases c with|true=>exact n g k d j Q i b|false=>exact⟨.bl D,j,i,rfl,b⟩
def N5{e:TE}(o:PE a f À)(n:PE a (.BoolOp .Or (y::u) p) e):PE a (.BoolOp .Or (f::y::u) p) (Q5 À e):=by intro g s d H Q I h;refine BoolOp_or (è (o g s d H _ I h) λv k⟨x,j,i,m,b⟩=>?_);obtain⟨c,rfl,b⟩:=b;cases m;refine TW ?_;cases c with|false=>exact n g k d j Q i b|true=>exact⟨.bl L,j,i,rfl,b⟩
def Jt(g:PE a f À):PE a (.UnaryOp .Not f p) (N4 À):=by intro i s d H Q I h;refine UnaryOp_ (è (g i s d H _ I h) λv m⟨x,k,j,e,b⟩=>?_);obtain⟨c,rfl,b⟩:=b;cases e;exact not_of (TW ⟨.bl (!c),k,j,rfl,b⟩)
def tIf(t:TT)(e d:TE):TE:=λa H Q=>t a H λc b=>if c=L then e a b Q else d a b Q
def Bl{g:TE}{i:TT}{c:u_}(o:PT a c i)(r:PE a f À)(q:PE a y g):PE a (.IfExp c f y p) (tIf i À g):=by intro e s b H Q I h;refine wpAny_IfExp (è (o e s b H _ I h) λd j⟨n,m,k⟩=>?_);cases d with|true=>exact r e j b n Q m k|false=>exact q e j b n Q m k
def Ć(K:d_)(H:Hp)(a:O)(c:List V):Prop:=Rd H a (.lst c)\/∃(o:Obj)(b:Array R)(n:Nat),K.lookup a=Z o/\o.cls=.type "list"/\o.dict=U/\o.data=.seq b n/\b.size<=sizeLine/\Î c b.toList
def ö(K:d_)(H:Hp)(a:O)(c:List V):Prop:=Rd H a (.tup c)\/∃(o:Obj)(b:Array R)(n:Nat),K.lookup a=Z o/\o.cls=.type "tuple"/\o.data=.seq b n/\b.size<=sizeLine/\Î c b.toList
def Q6:R->Option V|.none=>Z .non|.bool b=>Z (.bl b)|.int i _=>Z (.int i)|.str x _=>Z (.str x)|.bytes b _=>Z (.byt b)|.float b _=>Z (.flt b)|.ref a=>Z (.ref a)|.type n=>Z (.ty n)|_=>U
def Ú.abs(r:Ú Γ Ζ):Q6 Ζ=Z Γ:=by cases Γ with|non=>cases r;rfl|bl _=>cases r;rfl|int _=>obtain⟨t,rfl⟩:=r;rfl|str _=>obtain⟨t,rfl⟩:=r;rfl|byt _=>obtain⟨t,rfl⟩:=r;rfl|flt _=>obtain⟨t,rfl⟩:=r;rfl|ref _=>cases r;rfl|ty _=>cases r;rfl
def Ú.inj{y:V}(r:Ú Γ Ζ)(q:Ú y Ζ):Γ=y:=Sd (r.abs.symm.trans q.abs)
def Î.inj:∀{b a:List V}{c:List R},Î b c->Î a c->b=a|_,_,_,.nil,.nil=>rfl|_,_,_,.cons r t,.cons e d=>by rw[r.inj e,Î.inj t d]
variable{s:d_}
def Ć.of(h:g e=Z (.lst θ)):Ć s g e θ:=.inl (.inl h)
def ö.of(h:g e=Z (.tup θ)):ö s g e θ:=.inl (.inl h)
def Ë.list(I:Ë a H Ω g d)(h:Ć a.K g e θ):∃c:List R,Î θ c/\PlainL d.heap e c.toArray/\θ.length<=sizeLine:=by
 rcases h with h|⟨o,c,n,i,k,j,f,m,r⟩;·obtain⟨z,c,n,r,b⟩:=h.ok I.hok;exact⟨c,r,⟨_,n,b,rfl,rfl,rfl⟩,z⟩
 ·refine⟨c.toList,r,⟨o,n,I.kIn e o i,k,j,by simpa using f⟩,?_⟩;have b:=r.length;simp only[Sx]at b;omega
def Ë.tuple(I:Ë a H Ω g d)(h:ö a.K g e θ):∃c:List R,Î θ c/\F' d.heap e c.toArray/\θ.length<=sizeLine:=by
 rcases h with h|⟨o,c,n,i,j,f,k,r⟩;·obtain⟨z,c,r,p⟩:=h.ok I.hok;exact⟨c,r,p,z⟩
 ·refine⟨c.toList,r,⟨o,I.kIn e o i,j,n,by simpa using f⟩,?_⟩;have b:=r.length;simp only[Sx]at b;omega
def Ë.list_inj{j:List V}(I:Ë a H Ω g d)(h:Ć a.K g e θ)(q:Ć a.K g e j):θ=j:=by
 obtain⟨i,r,⟨o,n,b,_,_,c⟩,_⟩:=I.list h;obtain⟨f,p,⟨t,u,k,_,_,m⟩,_⟩:=I.list q;rw[b]at k;cases k;rw[c]at m;injection m with s _;have:i=f:=by simpa using congrArg WI s
 subst this;exact r.inj p
def Ë.tuple_inj{j:List V}(I:Ë a H Ω g d)(h:ö a.K g e θ)(q:ö a.K g e j):θ=j:=by
 obtain⟨i,r,⟨o,b,_,n,c⟩,_⟩:=I.tuple h;obtain⟨f,p,⟨t,k,_,u,m⟩,_⟩:=I.tuple q;rw[b]at k;cases k;rw[c]at m;injection m with s _;have:i=f:=by simpa using congrArg WI s
 subst this;exact r.inj p
abbrev C.wish(X:C)(E:R->g_->Prop):C:={X with xe:=E}
abbrev C.nox(X:C):C:=X.wish λ_ _=>False
def C.Ok.wish(b:a.Ok)(E:R->g_->Prop):(a.wish E).Ok:=⟨b.mod,b.kind,b.glob,b.blt,b.above,b.inj,b.has,b.cab,b.hd,b.frames,b.stk,b.exf,b.bs,b.bsz,b.noex,b.exfs,b.funs,b.frf⟩
def C.Ok.unwish(b:(a.wish ν).Ok):a.Ok:=⟨b.mod,b.kind,b.glob,b.blt,b.above,b.inj,b.has,b.cab,b.hd,b.frames,b.stk,b.exf,b.bs,b.bsz,b.noex,b.exfs,b.funs,b.frf⟩
def Ë.wish(I:Ë a H Ω g d)(E:R->g_->Prop):Ë (a.wish E) H Ω g d:=⟨I.ok.wish E,I.os,I.bare,I.base,I.loc,I.cell,I.free,I.freeC,I.pin,I.hok,I.len⟩
def Ë.unwish(I:Ë (a.wish ν) H Ω g d):Ë a H Ω g d:=⟨I.ok.unwish,I.os,I.bare,I.base,I.loc,I.cell,I.free,I.freeC,I.pin,I.hok,I.len⟩
def SP.unwish{b:tZ}{f:Flow}(h:SP (a.wish ν) H b f d):SP a H b f d:=by cases f with|next=>obtain⟨c,e,I,q⟩:=h;exact⟨c,e,I.unwish,q⟩|brk=>obtain⟨c,e,I,q⟩:=h;exact⟨c,e,I.unwish,q⟩|cont=>obtain⟨c,e,I,q⟩:=h;exact⟨c,e,I.unwish,q⟩|ret u=>obtain⟨v,c,e,I,r,q⟩:=h;exact⟨v,c,e,I.unwish,r,q⟩
variable{Ä:List S7}
def ĺ.nox{t:TS}(h:ĺ a.nox Ä t):ĺ a Ä t:=λe s c H b I d=>Sw (h e s c H b (I.wish _) d) (λ_ _ q=>q.unwish) λ_ _ z=>SK z
def N6:TS:=λa b H=>a.nx b H
def Q7(t u:TS):TS:=λa b H=>t {a with nx:=u a} b H
def se:ĺ a [] N6:=λ_ _ b H _ I h=>YD ⟨b,H,I,h⟩
variable{τ:S7}
def kX{t u:TS}(j:PS a τ t)(i:ĺ a Ä u):ĺ a (τ::Ä) (Q7 t u):=by intro d s e H b I h;refine wpAny_execs_cons (è (j d s e H {b with nx:=u b} I h) λf g q=>?_);cases f with|next=>obtain⟨c,m,k,q⟩:=q;exact i d g c m b k q|ret v=>exact q|brk=>exact q|cont=>exact q
def sf{t:TS}(d:PS a τ t):ĺ a [τ] t:=by intro e s c H b I h;refine wpAny_execs_cons (è (d e s c H b I h) λf g q=>?_);cases f with|next=>exact YD q|ret v=>exact q|brk=>exact q|cont=>exact q
def Ë.quiet(I:Ë a H Ω g d):interactive a.env=D:=by simp[interactive,I.ok.kind]
def N7(c:TE):TS:=λa b H=>c b H λ_ d=>a.nx b d
def sh(g:PE a f À)(e:To f U p.line a.env=pure D:=by rfl):PS a (.Expr f p) (N7 À):=by intro i s c H b I h;exact wpAny_Expr_any (è (g i s c H _ I h) λv m⟨x,k,j,n,d⟩=>⟨c,k,j,d⟩) I.quiet e
def Q8(c:TE):TS:=λa b H=>c b H a.rt
def w6(g:PE a f À):PS a (.Return (Z f) p) (Q8 À):=by intro i s c H b I h;exact wpAny_Return_some (è (g i s c H _ I h) λv m⟨x,k,j,d,e⟩=>⟨x,c,k,j,d,e⟩)
def Q9(c:TT)(t u:TS):TS:=λa d H=>c d H λb e=>if b=L then t a d e else u a d e
def Fd{t u:TS}{b:List S7}{i:TT}(o:PT a f i)(r:ĺ a Ä t)(q:ĺ a b u):PS a (.If f Ä b p) (Q9 i t u):=by intro g s e H c I h;refine wpAny_If (è (o g s e H _ I h) λd j⟨n,m,k⟩=>?_);cases d with|true=>exact r g j e n c m k|false=>exact q g j e n c m k
def Ju:TS:=λ_ _ _=>False
def Bm:PS a τ Ju:=λ_ _ _ _ _ _ h=>h.elim
abbrev TG:=V->St->Hp->(St->Hp->Prop)->Prop
abbrev ŭ:=List V->St->Hp->(St->Hp->Prop)->Prop
def PG(X:C)(a:u_)(t:TG):Prop:=∀(d:List (O×Obj))(s:g_)(c:St)(H:Hp)(v:V)(u:R)(Q:St->Hp->Prop),Ë X d c H s->Ú v u->t v c H Q->t_ (y_ X.prog X.w) X.A (Vj a X.env u) (λ_ f=>∃b e,Ë X d b e f/\Q b e) X.xe s
def ŕ(X:C)(g:List u_)(t:ŭ):Prop:=∀(e:List (O×Obj))(s:g_)(b:St)(H:Hp)(c:List V)(d:List R)(Q:St->Hp->Prop),Ë X e b H s->Î c d->t c b H Q->t_ (y_ X.prog X.w) X.A (assignInOrder ((Si g X.env).map (·.2)) d) (λ_ h=>∃a f,Ë X e a f h/\Q a f) X.xe s
abbrev N8:=V->V->V->Hp->(Hp->Prop)->Prop
def Qp(X:C)(t:N8):Prop:=∀(d:List (O×Obj))(s:g_)(a:St)(H:Hp)(o i v:V)(b c u:R)(Q:Hp->Prop),Ë X d a H s->Ú o b->Ú i c->Ú v u->t o i v H Q->t_ (y_ X.prog X.w) X.A (setItem b c u) (λ_ f=>∃e,Ë X d a e f/\Q e) X.xe s
def w8(i:Nat):TG:=λv a H Q=>Q (a.set i (Z v)) H
def ii(g:a.N.Nodup)(e:a.N[c]?=Z b)(d:ľ a.env.scope b)(f:a.fn b=L\/a.env.scope.names.lookup b=Z .local:=by first|exact .inl rfl|exact .inr rfl|assumption):PG a (.Name b p) (w8 c):=by intro m s j H v u Q I r h;exact wpAny_assign_Name (tY I g e d r (λk i=>⟨_,H,i,h⟩) f)
def Ra:ŭ:=λb a H Q=>b=[]/\Q a H
def N9(t:TG)(u:ŭ):ŭ:=λc b H Q=>∃v r,c=v::r/\t v b H λa d=>u r a d Q
def w9:ŕ a [] Ra:=by intro f s b H c d Q I r h;obtain⟨e,h⟩:=h;subst e;cases r;exact assignInOrder_nil ⟨b,H,I,h⟩
def oj{t:TG}{b:ŭ}(n:PG a f t)(m:ŕ a u b)(k:(Si (f::u) a.env).map (·.2)=Vj f a.env::(Si u a.env).map (·.2):=by rfl):ŕ a (f::u) (N9 t b):=by intro d s e H w z Q I r h;obtain⟨v,y,o,h⟩:=h;subst o;cases r with|cons r i=>rw[k];refine assignInOrder_cons (è (n d s e H _ _ _ I r h) λ_ g⟨c,q,p,j⟩=>?_);exact m d g c q _ _ Q p i j
def Rb(K:d_)(n:Nat)(t:ŭ):TG:=λv c H Q=>∃a b,v=.ref a/\ö K H a b/\b.length=n/\t b c H Q
variable{m:Nat}
def DQ{t:ŭ}(E:a.calm=L)(h:ŕ a u t)(A:(Si u a.env).length=m:=by rfl)(i:(Si u a.env).findIdx? (·.1)=U:=by rfl):PG a (.Tuple u c p) (Rb a.K m t):=by intro n s j H v d Q I r g;obtain⟨f,q,e1,z,B,g⟩:=g;subst e1;cases r;obtain⟨a',k,y,hz⟩:=I.tuple z;refine assign_Tuple_tuple (I.ok.hd E) y (by simp[A,<-B,k.length]) i λP w=>?_;have I1:Ë a n j H {s with heap:=P}:=I.kept (t':=s.toks) λb o e=>w b o (D_ (v_ e)) e;exact h n _ j H q _ Q I1 (by simpa using k) g
def Rc(b c:TE)(t:N8):TG:=λv a H Q=>b a H λo f=>c a f λi e=>t o i v e λd=>Q a d
def Jx{i:TE}{t:N8}(A:PE a f À)(B:PE a y i)(z:Qp a t)(E:∀v,Vj (.Subscript f y p) a.env v=(do
 let c<-VJ [v] (eval f a.env)let d<-VJ [v,c] (eval y a.env)Ym p
 VJ [v,c,d] (setItem c d v)release [v,c,d] []):=by intro _;rfl):PG a (.Subscript f y p) (Rc À i t):=by intro g s e H v u Q I r h;rw[E];refine c_ (SL (è (A g s e H _ I h) λc k⟨x,H1,I1,n,w⟩=>?_));refine c_ (SL (è (B g k e H1 _ I1 w) λd j⟨b,H2,I2,m,q⟩=>?_));refine c_ (Zp (c_ (SL (è (z g j e H2 x b v c d u _ I2 n m r q) λ_ s3⟨H3,P,o⟩=>?_))));exact wpAny_release ⟨e,H3,P,o⟩
def Qq(c:TE)(g:TG):TS:=λa b H=>c b H λx d=>g x b d a.nx
def DR{g:TG}(o:PE a y À)(n:PG a f g)(m:Zs [f] y p.line a.env=pure D:=by rfl)(k:Zt [f] y a.env=pure U:=by rfl)(r:(Si [f] a.env).map (·.2)=[Vj f a.env]:=by rfl):PS a (.Assign [f] y p) (Qq À g):=by intro d s c H b I h;refine wpAny_Assign_stores (è (o d s c H _ I h) λv e⟨x,u,t,i,j⟩=>?_) m k;rw[r];exact è (n d e c u x v _ t i j) λ_ w q=>q
variable{B:Pos}
def ua(q:a.N.Nodup)(m:a.N[c]?=Z b)(j:ľ a.env.scope b)(o:PE a f À)(k:To f (Z (.Name b B)) p.line a.env=pure D:=by rfl)(n:a.fn b=L\/a.env.scope.names.lookup b=Z .local:=by first|exact .inl rfl|exact .inr rfl|assumption):PS a (.Assign [.Name b B] f p) (Qq À (w8 c)):=by intro r s e H d I h;refine wpAny_Assign_Name (è (o r s e H _ I h) λv A⟨y,w,u,g,i⟩=>?_) k;exact tY u q m j g (λz t=>⟨_,w,t,i⟩) n
structure It where
 go:Nat->Hp->Prop
 yld:Nat->Hp->V->Hp->Prop
 stop:Nat->Hp->Prop
def m7(X:C)(a:List (O×Obj))(H:Hp)(b:O):Prop:=H b=U/\b≠X.env.locals/\b∉X.fs/\(b∈X.ex\/X.s₀.heap.objs.size<=b)/\(∀x c,X.env.cells.lookup x=Z c->c≠b)/\∀p∈X.pn++a,p.1≠b
def Ë.fpOk(I:Ë a H Ω g d)(f:d.heap.objs.size<=e)(i:ω e=U):m7 a H ω e:=by
 refine⟨i,Uy (Q_ I.lt f),I.nofs f,.inr (RZ I.sz f),λx c b z=>?_,λp h z=>?_⟩;·obtain⟨v,q⟩:=I.cell x c b;exact absurd (Q_ q.lt (by rw[z];exact f)) (Tg _)
 ·exact absurd (Q_ (v_ (I.pin p h).1) (by rw[z];exact f)) (Tg _)
structure xa(P:on)(w:z_)(K:d_)(tg:u_)(J:It)(fp:List O)(it:O)(tn:Nat->M_->Prop):Prop where
 mem:it∈fp
 obj:∀i h,tn i h->∀b∈fp,∃o,h.get? b=Z o/\∀v,o.data≠.cell v
 keep:∀i h h',tn i h->(∀b∈fp,∀o,h.get? b=Z o->h'.get? b=Z o)->tn i h'
 item:∀(X:C),X.prog=P->X.w=w->X.K=K->X.calm=L->∀(i:Nat)(f':List (O×Obj))(s:g_)(σ:St)(H:Hp)(E:R->g_->Prop),Ë X f' σ H s->(∀b∈fp,m7 X f' H b)->tn i s.heap->J.go i H->t_ (y_ P w) X.A (VH (.ref it)) (λr s1=>∃u,r=Z u/\t_ (y_ P w) X.A (W5 tg (.ref it) u) (λ_ s2=>∃x H',Ë X f' σ H' s2/\Ú x u/\J.yld i H x H'/\tn (i+1) s2.heap/\∀b∈fp,H' b=U) E s1) E s
 done:∀(X:C),X.prog=P->X.w=w->X.K=K->X.calm=L->∀(i:Nat)(f':List (O×Obj))(s:g_)(σ:St)(H:Hp)(E:R->g_->Prop),Ë X f' σ H s->(∀b∈fp,m7 X f' H b)->tn i s.heap->J.stop i H->t_ (y_ P w) X.A (VH (.ref it)) (λr s1=>r=U/\Ë X f' σ H s1) E s
 self:∀(A:x_)(i:Nat)(s:g_)(Q:R->g_->Prop)(E:R->g_->Prop),tn i s.heap->Q (.ref it) s->t_ (y_ P w) A (Zz (.ref it)) Q E s
abbrev TI:=St->Hp->(It->Hp->Prop)->Prop
def PIE(X:C)(h:List (O×Obj))(i:St)(j:u_)(a:It->Hp->Prop)(d:R)(f:g_):Prop:=∃(it:O)(g:List O)(e:Nat->M_->Prop)(J:It)(c:Hp),d=.ref it/\Ë X h i c f/\xa X.prog X.w X.K j J g it e/\e 0 f.heap/\(∀b∈g,m7 X h c b)/\a J c
def PI(X:C)(e a:u_)(d:TI):Prop:=∀(c:List (O×Obj))(s:g_)(b:St)(H:Hp)(R:It->Hp->Prop),Ë X c b H s->d b H R->t_ (y_ X.prog X.w) X.A (eval a X.env) (λv f=>t_ (y_ X.prog X.w) X.A (Zz v) (PIE X c b e R) X.xe f) X.xe s
variable{υ:Array R}
def Bn{o:Obj}{n:String}{Q:Unit->g_->Prop}(b:d.heap.get? e=Z o)(i:o.cls=.type n)(g:o.data=.fields υ)(c:["enumerate","zip","dict_itemiterator","dict_reverseitemiterator","odict_iterator","itertools.zip_longest","itertools.pairwise"].contains n=D)(a:Q () d):t_ Å w (W5 f (.ref e) Ζ) Q ν d:=by unfold W5;cases f<;>first|exact j_ a|(cases Ζ<;>first|exact j_ a|(refine c_ (wpAny_load b ?_);rw[i,g];show t_ Å w (if(["enumerate","zip","dict_itemiterator","dict_reverseitemiterator","odict_iterator","itertools.zip_longest","itertools.pairwise"].contains n&&υ[0]?==Z (TH _))=L then _ else _) Q ν d;rw[if_neg (by intro h;rw[c,Bool.false_and]at h;cases h)];exact j_ a))
def Itl(K:d_)(a:O):It:=⟨λi H=>∃b x,Ć K H a b/\b[i]?=Z x,λi H x c=>c=H/\∀b,Ć K H a b->b[i]?=Z x,λi H=>∃b,Ć K H a b/\b.length<=i⟩
def Itt(K:d_)(a:O):It:=⟨λi H=>∃b x,ö K H a b/\b[i]?=Z x,λi H x c=>c=H/\∀b,ö K H a b->b[i]?=Z x,λi H=>∃b,ö K H a b/\b.length<=i⟩
def T'(a:Int)(n:Nat):It:=⟨λi _=>i<n,λi H x b=>b=H/\x=.int (a+i),λi _=>n<=i⟩
def xb(a n:O):xa q o s f (Itl s a) [n] n (λi h=>h.IsListIter n a i)where
 mem:=by simp
 obj:=λi h st b r=>by
  have e:b=n:=by simpa using r
  subst e;obtain⟨g,e,c,d⟩:=st;exact⟨g,e,λv z=>by rw[d]at z;cases z⟩
 keep:=λi h A st k=>st.at λg e=>k n (by simp) g e;item:=by intro X hP hw hK hc i f' m σ H E j y st hg;subst hP hw hK;obtain⟨xs,x,w,P⟩:=hg;obtain⟨a',B,p,hz⟩:=j.list w;obtain⟨u,hu,ru⟩:=B.get P;obtain⟨f0,f1,I,f3,f4,f5⟩:=y n (by simp);refine wpAny_pyNext_list_item st p.isList (x:=u) (by simpa using hu) λA t sb=>?_;have I1:Ë X f' σ H {m with heap:=A}:=j.turned (t':=m.toks) (λb g r e=>(sb.2 b r).trans e) f0 f1 f3 f4 f5;obtain⟨g,e,c,d⟩:=id t;exact⟨u,rfl,Bn (d:={m with heap:=A}) e c d (by decide) ⟨x,H,I1,ru,⟨rfl,λys hy=>by rw[j.list_inj hy w];exact P⟩,t,λb r=>(y b r).1⟩⟩
 done:=by intro X hP hw hK hc i f' m σ H E j y st hg;subst hP hw hK;obtain⟨xs,w,P⟩:=hg;obtain⟨a',B,p,hz⟩:=j.list w;obtain⟨f0,f1,I,f3,f4,f5⟩:=y n (by simp);have hl:=B.length;exact wpAny_pyNext_list_end (j.ok.hd hc) st p.isList (by simp;omega) λA eb=>⟨rfl,j.turned (t':=m.toks) (λb g r e=>eb b g r e) f0 f1 f3 f4 f5⟩
 self:=λ_ _ _ _ _ st h=>wpAny_pyIter_listiter st h
def vP(a n:O):xa q o s f (Itt s a) [n] n (λi h=>h.IsTupleIter n a i)where
 mem:=by simp
 obj:=λi h st b r=>by
  have e:b=n:=by simpa using r
  subst e;obtain⟨j,e,c,d⟩:=st;exact⟨j,e,λv z=>by rw[d]at z;cases z⟩
 keep:=λi h B st k=>st.at λj e=>k n (by simp) j e;item:=by intro X hP hw hK hc i f' g σ H E m A st hg;subst hP hw hK;obtain⟨xs,x,y,hx⟩:=hg;obtain⟨t,P,p,hz⟩:=m.tuple y;obtain⟨u,hu,ru⟩:=P.get hx;obtain⟨f0,f1,I,f3,f4,f5⟩:=A n (by simp);refine wpAny_pyNext_tuple_item st (show g.heap.IsTuple a t.toArray from p) (x:=u) (by simpa using hu) λB w sb=>?_;have I1:Ë X f' σ H {g with heap:=B}:=m.turned (t':=g.toks) (λb j r e=>(sb.2 b r).trans e) f0 f1 f3 f4 f5;obtain⟨j,e,c,d⟩:=id w;exact⟨u,rfl,Bn (d:={g with heap:=B}) e c d (by decide) ⟨x,H,I1,ru,⟨rfl,λys hy=>by rw[m.tuple_inj hy y];exact hx⟩,w,λb r=>(A b r).1⟩⟩
 done:=by intro X hP hw hK hc i f' g σ H E m A st hg;subst hP hw hK;obtain⟨xs,y,hx⟩:=hg;obtain⟨t,P,p,hz⟩:=m.tuple y;obtain⟨f0,f1,I,f3,f4,f5⟩:=A n (by simp);have hl:=P.length;exact wpAny_pyNext_tuple_end (m.ok.hd hc) st (show g.heap.IsTuple a t.toArray from p) (by simp;omega) λB eb=>⟨rfl,m.turned (t':=g.toks) (λb j r e=>eb b j r e) f0 f1 f3 f4 f5⟩
 self:=λ_ _ _ _ _ st h=>wpAny_pyIter_tupleiter st h
def vQ(g:O)(p:Int)(n:Nat):xa q o s f (T' p n) [g] g (λi h=>IsRangeIter h g (p+(i:Nat)*1) ((n:Int)-(i:Nat)) 1)where
 mem:=by simp
 obj:=λi h st b j=>by
  have e:b=g:=by simpa using j
  subst e;exact⟨_,st,λv z=>by have z':Ul _=Data.cell v:=z;cases z'⟩
 keep:=λi h u st k=>k g (by simp) _ st;item:=by intro X B w P A i f' a σ H E c r st y;subst B w P;obtain⟨f0,f1,I,f3,f4,f5⟩:=r g (by simp);have W:=Walks.range (prog:=X.prog) (w:=X.w) (c.ok.hd A) g p 1 n;refine W.item i a _ _ y st λv u tk hv m kk=>?_;obtain⟨t,rfl⟩:=hv;have I1:Ë X f' σ H {a with heap:=u,toks:=tk}:=c.turned (λb d j e=>kk b d (by simpa using j) e) f0 f1 f3 f4 f5;refine⟨_,rfl,Bn (d:={a with heap:=u,toks:=tk}) (n:="range_iterator") m rfl rfl (by decide) ⟨.int (p+i),H,I1,⟨t,?_⟩,⟨rfl,rfl⟩,m,λb j=>(r b j).1⟩⟩;rw[Int.mul_one]
 done:=by intro X B w P A i f' a σ H E c r st y;subst B w P;obtain⟨f0,f1,I,f3,f4,f5⟩:=r g (by simp);exact wpAny_pyNext_range_end (c.ok.hd A) st (by have:n<=i:=y;omega) λu eb=>⟨rfl,c.turned (t':=a.toks) (λb d j e=>eb b d j e) f0 f1 f3 f4 f5⟩
 self:=λ_ _ _ _ _ st h=>wpAny_pyIter_rangeiter st h
variable{i:Int}
def ub{h:It->Hp->Prop}{j:Int}{t u v:Tok}(I:Ë a H Ω g d)(s:-(2^62)<=i)(r:i<2^62)(p:-(2^62)<=j)(n:j<2^62)(q:h (T' i (j-i).toNat) g):t_ (y_ a.prog a.w) a.A (Zz (.ref d.heap.objs.size)) (PIE a H Ω f h) ν {d with heap:=d.heap.push {cls:=.type "range",data:=.fields #[.int i t,.int j u,.int 1 v]},toks:=c}:=by
 refine wpAny_pyIter_range (IsRange.new ..) (small_one s r p n) ?_;have k:Ë a H Ω g {d with heap:=d.heap.push {cls:=.type "range",data:=.fields #[.int i t,.int j u,.int 1 v]},toks:=c}:=I.kept λb o e=>i_ _ e;refine⟨(d.heap.push {cls:=.type "range",data:=.fields #[.int i t,.int j u,.int 1 v]}).objs.size,[(d.heap.push {cls:=.type "range",data:=.fields #[.int i t,.int j u,.int 1 v]}).objs.size],_,_,g,rfl,k.kept (t':=c) λb o e=>i_ _ e,vQ _ i (j-i).toNat,?_,λb m=>?_,q⟩
 · have y:i+((0:Nat):Int)*1=i:=by simp
   have w:(((j-i).toNat:Nat):Int)-((0:Nat):Int)=Builtin.Range.rangeSize i j 1:=by rw[rangeSize_one];split<;>omega
   show IsRangeIter _ _ (i+((0:Nat):Int)*1) ((((j-i).toNat:Nat):Int)-((0:Nat):Int)) 1;rw[y,w];exact n_ _ rfl
 · have e:b=(d.heap.push {cls:=.type "range",data:=.fields #[.int i t,.int j u,.int 1 v]}).objs.size:=by simpa using m
   subst e;exact k.fpOk (r_ _) (k.hok.fresh (r_ _))
def Oa(c:TA):TI:=λa H R=>c a H λb d=>∃j:Int,b=[.int j]/\-(2^62)<=j/\j<2^62/\R (T' 0 j.toNat) d
def Ob(c:TA):TI:=λa H R=>c a H λb d=>∃i j:Int,b=[.int i,.int j]/\(-(2^62)<=i/\i<2^62/\-(2^62)<=j/\j<2^62)/\R (T' i (j-i).toNat) d
def pU{c:TA}(o:Gl a "range")(n:a.mg "range"=U)(u:PA a [y] c)(m:l_ [y] a.env=[(D,eval y a.env)]:=by rfl):PI a f (.Call (.Name "range" p) [y] [] B) (Oa c):=by intro v s d H R I h;refine Call_ (gg I o n boot_range (S6 (è (u B v s d H _ I h) λA E⟨z,P,w,i,b⟩=>?_) m rfl));obtain⟨j,e,b,k,q⟩:=b;subst e;cases i with|cons r g=>cases g;obtain⟨t,rfl⟩:=r;exact call_range_1 (ub w (by omega) (by omega) b k (by simpa using q))
def xc{b:u_}{k:TA}(E:Gl a "range")(A:a.mg "range"=U)(P:PA a [y,b] k)(z:l_ [y,b] a.env=[(D,eval y a.env),(D,eval b a.env)]:=by rfl)(c:l_ [b] a.env=[(D,eval b a.env)]:=by rfl):PI a f (.Call (.Name "range" p) [y,b] [] B) (Ob k):=by intro f' s m H R I h;refine Call_ (gg I E A boot_range (S6 (è (P B f' s m H _ I h) λus s1⟨vs,H1,I1,n,g⟩=>?_) (by rw[z,c]) (by rw[c];rfl)));obtain⟨i,j,e,⟨g,w,v,u⟩,q⟩:=g;subst e;cases n with|cons r d=>cases d with|cons o d=>cases d;obtain⟨t,rfl⟩:=r;obtain⟨t',rfl⟩:=o;exact call_range_2 (ub I1 g w v u q)
def Re(h:TI)(g:TG)(j:TS):TS:=λa b H=>h b H λJ n=>∃W:Nat->Nat->St->Hp->Prop,(∃m,W 0 m b n)/\∀i m b H,W i m b H->(J.stop i H/\a.nx b H)\/(J.go i H/\∃N:St->Hp->Prop,(∀d c,N d c->∃f,f<m/\W (i+1) f d c)/\∀x c,J.yld i H x c->g x b c λe k=>j {a with nx:=N,ct:=N,bk:=a.nx} e k)
def ff(a:List O)(h:M_):List (O×Obj):=a.filterMap λb=>(h.get? b).map λo=>(b,o)
def dJ{o:Obj}(b:e∈Ε)(a:P.get? e=Z o):(e,o)∈ff Ε P:=ZF.mpr ⟨e,b,by rw[a];rfl⟩
def lx{p:O×Obj}(a:p∈ff Ε P):p.1∈Ε/\P.get? p.1=Z p.2:=by obtain⟨b,c,e⟩:=ZF.mp a;cases q:P.get? b with|none=>rw[q]at e;cases e|some o=>rw[q]at e;have d:(b,o)=p:=Sd e;subst d;exact⟨c,q⟩
def Ë.pinned{fp:List O}(c:Ë a H Ω g d)(m:∀b∈fp,m7 a H g b)(k:∀b∈fp,∃o,d.heap.get? b=Z o/\∀v,o.data≠.cell v):Ë a (H++ff fp d.heap) Ω g d:=c.pins_of λp j=>(Sr.mp j).elim (λz=>c.pin p (q_ _ z)) λz=>by obtain⟨h,e⟩:=lx z;obtain⟨n,f1,I,_⟩:=m p.1 h;obtain⟨o,i,f⟩:=k p.1 h;rw[e]at i;cases i;exact⟨e,n,f1,I,f⟩
def Ë.unpinned{b:List (O×Obj)}(I:Ë a (H++b) Ω g d):Ë a H Ω g d:=I.pins_of λp c=>I.pin p (q_ _ (RX _ c))
def uc{wi:TI}{g:TG}{tb:TS}(hp:Wf (y_ a.prog a.w) a.A a.env a.xe)(hc:a.calm=L)(hi:PI a f y wi)(hg:PG a f g)(t:ĺ a Ä tb)(hs:∀x,Sj y a.env x=pure x:=by intro _;rfl):PS a (.For f y Ä [] p) (Re wi g tb):=by
 intro f' s σ H k j h;refine wpAny_For (è (hi f' s σ H _ j h) λv s1 h1=>è h1 λk' s2 h2=>?_) hs;obtain⟨it,fp,tn,J,H2,e,I2,T,g',I,W,⟨m0,w0⟩,turn⟩:=h2;subst e;have E:∀{P:Hp},(∀b∈fp,P b=U)->∀b∈fp,m7 a f' P b:=λhn b t=>⟨hn b t,(I b t).2⟩;refine codeAny_forLoop_any (λn s'=>∃i B P,Ë a f' B P s'/\tn i s'.heap/\(∀b∈fp,P b=U)/\W i n B P) ?_ m0 ⟨0,σ,H2,I2,g',λb t=>(I b t).1,w0⟩;rintro n s3⟨i,A,H3,I3,b',c',w3⟩;rcases turn i n A H3 w3 with⟨d',qn⟩|⟨go,N,hN,step⟩;·refine V6 hp (è (T.done a rfl rfl rfl hc i f' s3 A H3 a.xe I3 (E c') b' d') λr s4⟨hr,I4⟩=>?_);subst hr;exact YD ⟨A,H3,I4,qn⟩
 · refine V6 hp (è (T.item a rfl rfl rfl hc i f' s3 A H3 a.xe I3 (E c') b' go) λr s4⟨u,hr,h4⟩=>?_);subst hr;refine V6 hp (è h4 λ_ s5⟨x,H5,I5,r5,y5,a',h'⟩=>?_);have i':=I5.pinned (E h') (T.obj _ _ a');refine V6 hp (è (hg _ s5 A H5 x u _ i' r5 (step x H5 y5)) λ_ s6⟨e',H6,I6,q6⟩=>?_);refine V6 hp (è (t _ s6 e' H6 _ I6 q6) λc s7 q7=>?_);have N':∀{q:St}{z:Hp},Ë a (f'++ff fp s5.heap) q z s7->N q z->∃m,m<n/\∃i B P,Ë a f' B P s7/\tn i s7.heap/\(∀b∈fp,P b=U)/\W i m B P:=λ{q z}w n7=>by obtain⟨m',hm,w7⟩:=hN q z n7;refine⟨m',hm,i+1,q,z,w.unpinned,T.keep _ _ _ a' λb t o e=>(w.pin (b,o) (q_ _ (q_ _ (dJ t e)))).1,λb t=>?_,w7⟩;obtain⟨o,e,d⟩:=T.obj _ _ a' b t;exact(w.pin (b,o) (q_ _ (q_ _ (dJ t e)))).2.1
   cases c with|next=>obtain⟨q,z,w,n7⟩:=q7;exact N' w n7|cont=>obtain⟨q,z,w,n7⟩:=q7;exact N' w n7|brk=>obtain⟨q,z,w,q7⟩:=q7;exact⟨q,z,w.unpinned,q7⟩|ret v=>obtain⟨x7,q,z,w,r7,q7⟩:=q7;exact⟨x7,q,z,w.unpinned,r7,q7⟩
abbrev R2:=V->V->Hp->VK->Prop
def õ(X:C)(f:R->R->Sem R)(r:R2):Prop:=∀(b:List (O×Obj))(s:g_)(a:St)(H:Hp)(x y:V)(v u:R)(Q:VK),Ë X b a H s->Ú x v->Ú y u->r x y H Q->t_ (y_ X.prog X.w) X.A (f v u) (EP X b a Q) X.xe s
def UnR(X:C)(f:R->Sem R)(r:V->Hp->VK->Prop):Prop:=∀(b:List (O×Obj))(s:g_)(a:St)(H:Hp)(x:V)(v:R)(Q:VK),Ë X b a H s->Ú x v->r x H Q->t_ (y_ X.prog X.w) X.A (f v) (EP X b a Q) X.xe s
def kO(X:C)(f:R)(r:List V->Hp->VK->Prop):Prop:=∀(d:List (O×Obj))(s:g_)(a:St)(H:Hp)(b:List V)(c:List R)(Q:VK),Ë X d a H s->Î b c->r b H Q->t_ (y_ X.prog X.w) X.A (call f c) (EP X d a Q) X.xe s
def G'(r:R2)(c b:TE):TE:=λa H Q=>c a H λx e=>b a e λy d=>r x y d Q
def tUn(r:V->Hp->VK->Prop)(b:TE):TE:=λa H Q=>b a H λx c=>r x c Q
def rI(C:Int->Int->Prop)(g:Int->Int->V):R2:=λx y H Q=>∃i j,x=.int i/\y=.int j/\C i j/\Q (g i j) H
def Ŏ(g:Int->Int->V):R2:=λx y H Q=>∃i j,x=.int i/\y=.int j/\Q (g i j) H
def rU(g:Int->V):V->Hp->VK->Prop:=λx H Q=>∃i,x=.int i/\Q (g i) H
def Oc{o:TE}(B:PE a f À)(A:PE a y o){m:List (O×Obj)}{s:g_}{e:St}{H:Hp}{d:V->V->Hp->Prop}(I:Ë a m e H s)(h:À e H λx n=>o e n λb g=>d x b g){Q:R->g_->Prop}{c:R->R->Sem R}(z:∀v u k x b g,Ë a m e g k->Ú x v->Ú b u->d x b g->t_ (y_ a.prog a.w) a.A (c v u) Q a.xe k):t_ (y_ a.prog a.w) a.A (eval f a.env) (λv j=>t_ (y_ a.prog a.w) a.A (eval y a.env) (λu i=>t_ (y_ a.prog a.w) a.A (c v u) Q a.xe i) a.xe j) a.xe s:=by refine è (B m s e H _ I h) λv p⟨x,n,P,r,w⟩=>?_;refine è (A m p e n _ P w) λu k⟨b,g,E,q,t⟩=>?_;exact z v u k x b g E r q t
def Oe{c:TE}{d:Operator}{r:R2}(k:õ a (UX d) r)(n:PE a f À)(m:PE a y c):PE a (.BinOp f d y p) (G' r À c):=by intro o s e H Q I h;exact wpAny_BinOp (Oc n m I h λv u g x b w t j i q=>k o g e w x b v u Q t j i q)
def Of{c:UnaryOp}{r:V->Hp->VK->Prop}(j:UnR a (unaryOp c) r)(k:PE a f À):PE a (.UnaryOp c f p) (tUn r À):=by intro d s b H Q I h;exact UnaryOp_ (è (k d s b H _ I h) λv e⟨x,n,m,g,i⟩=>j d e b n x v Q m g i)
def opI{f:R->R->Sem R}{b:Int->Int->Prop}{g:Int->Int->Int}(c:∀(i j:Int)(t u:Tok)(s:g_)(Q:R->g_->Prop)(E:R->g_->Prop),b i j->Q (.int (g i j) s.toks) {s with toks:=s.toks+1}->t_ (y_ a.prog a.w) a.A (f (.int i t) (.int j u)) Q E s):õ a f (rI b λi j=>.int (g i j)):=by intro o s n H x y v u Q I k e h;obtain⟨i,j,rfl,rfl,m,q⟩:=h;obtain⟨t,rfl⟩:=k;obtain⟨d,rfl⟩:=e;exact c i j t d s _ _ m ⟨.int (g i j),H,I.tok _,⟨_,rfl⟩,q⟩
def Qr{f:R->R->Sem R}{g:Int->Int->Int}(b:∀(i j:Int)(t u:Tok)(s:g_)(Q:R->g_->Prop)(E:R->g_->Prop),Q (.int (g i j) s.toks) {s with toks:=s.toks+1}->t_ (y_ a.prog a.w) a.A (f (.int i t) (.int j u)) Q E s):õ a f (Ŏ λi j=>.int (g i j)):=by intro m s k H x y v u Q I e d h;obtain⟨i,j,rfl,rfl,q⟩:=h;obtain⟨t,rfl⟩:=e;obtain⟨c,rfl⟩:=d;exact b i j t c s _ _ ⟨.int (g i j),H,I.tok _,⟨_,rfl⟩,q⟩
def Og{f:R->R->Sem R}{g:Int->Int->Bool}(b:∀(i j:Int)(t u:Tok)(s:g_)(Q:R->g_->Prop)(E:R->g_->Prop),Q (.bool (g i j)) s->t_ (y_ a.prog a.w) a.A (f (.int i t) (.int j u)) Q E s):õ a f (Ŏ λi j=>.bl (g i j)):=by intro m s k H x y v u Q I e d h;obtain⟨i,j,rfl,rfl,q⟩:=h;obtain⟨t,rfl⟩:=e;obtain⟨c,rfl⟩:=d;exact b i j t c s _ _ ⟨.bl (g i j),H,I,rfl,q⟩
def Qs(i j:Int):Prop:=0<j/\j<1073741824
def Ū(i j:Int):Prop:=(-(2^64)<i/\i<2^64)\/(-(2^64)<j/\j<2^64)
def Ū.ok{j:Int}(h:Ū i j):IntMulOk i j:=by
 rcases h with⟨b,a⟩|⟨b,a⟩;·exact .of_left (intBits_le_64 b a)
 ·exact .of_right (intBits_le_64 b a)
def op_add:õ a (UX .Add) (Ŏ λi j=>.int (i+j)):=Qr λ_ _ _ _ _ _ _ q=>add_int q
def JA:õ a (UX .Sub) (Ŏ λi j=>.int (i-j)):=Qr λ_ _ _ _ _ _ _ q=>sub_int q
def JB:õ a (UX .Mult) (rI Ū λi j=>.int (i*j)):=opI λ_ _ _ _ _ _ _ b q=>mul_int q b.ok
def Fe:õ a (UX .FloorDiv) (rI Qs λi j=>.int (i/j)):=opI λi j _ _ _ _ _ b q=>by have d:(0:Int)<j:=b.1;have c:j<1073741824:=b.2;exact floordiv_int (by omega) (by rw[Int.fdiv_eq_ediv_of_nonneg i (by omega)];exact q) (.inl (PyProof.noPylong_small (by omega)))
def JC:õ a (UX .Mod) (rI (λ_ j=>0<j) λi j=>.int (i%j)):=opI λi j _ _ _ _ _ b q=>by have c:(0:Int)<j:=b;exact mod_int' (by omega) (by rw[Int.fmod_eq_emod_of_nonneg i (by omega)];exact q)
def unI{f:R->Sem R}{g:Int->Int}(b:∀(i:Int)(t:Tok)(s:g_)(Q:R->g_->Prop)(E:R->g_->Prop),Q (.int (g i) s.toks) {s with toks:=s.toks+1}->t_ (y_ a.prog a.w) a.A (f (.int i t)) Q E s):UnR a f (rU λi=>.int (g i)):=by intro e s d H x v Q I c h;obtain⟨i,rfl,q⟩:=h;obtain⟨t,rfl⟩:=c;exact b i t s _ _ ⟨.int (g i),H,I.tok _,⟨_,rfl⟩,q⟩
def JD:UnR a (unaryOp .USub) (rU λi=>.int (-i)):=unI λ_ _ _ _ _ q=>neg_int q
def Oh:V->V->Bool|.non,.non=>L|.non,.int _=>L|.int _,.non=>L|.non,.bl _=>L|.bl _,.non=>L|.non,.str _=>L|.str _,.non=>L|.int _,.int _=>L|.bl _,.bl _=>L|.str _,.str _=>L|.byt _,.byt _=>L|.int _,.str _=>L|.str _,.int _=>L|.bl _,.str _=>L|.str _,.bl _=>L|_,_=>D
def rEq:R2:=λx y H Q=>Oh x y=L/\Q (.bl (uk (x=y))) H
def rNe:R2:=λx y H Q=>Oh x y=L/\Q (.bl (!uk (x=y))) H
def si{j:Int}:uk (V.int i=V.int j)=(i==j):=by rw[SS];simp
variable{t π:Bool}
def xf:uk (V.bl t=V.bl π)=(t==π):=by rw[SS];simp
variable{j:Str}
def sj:uk (V.str b=V.str j)=(b==j):=by rw[SS];simp
def xg{i j:Array UInt8}:uk (V.byt i=V.byt j)=(i.toList==j.toList):=by rw[SS];cases i;cases j;simp
variable{Ç:VK}
def bx(I:Ë a H Ω g d)(q:Ç (.bl t) g)(e:t=π):EP a H Ω Ç (.bool π) d:=by subst e;exact⟨.bl t,g,I,rfl,q⟩
def op_eq:õ a (So .Eq) rEq:=by intro g s f H x y v u Q I e b h;obtain⟨d,q⟩:=h;cases x with
 |non=>cases e;cases y with|non=>cases b;exact PySem.EqNone.eq_none_none (bx I q (by simp))|bl j=>cases b;exact PySem.EqNone.eq_none_bool (bx I q (by simp))|int j=>obtain⟨c,rfl⟩:=b;exact PySem.EqNone.eq_none_int (bx I q (by simp))|str j=>obtain⟨c,rfl⟩:=b;exact PySem.EqNone.eq_none_str (bx I q (by simp))|_=>exact absurd (show D=L from d) C_
 |bl i=>cases e;cases y with|non=>cases b;exact PySem.EqNone.eq_bool_none (bx I q (by simp))|bl j=>cases b;exact eq_bool (bx I q xf)|str j=>obtain⟨c,rfl⟩:=b;exact PySem.EqMixed.eq_bool_str (bx I q (by simp))|_=>exact absurd (show D=L from d) C_
 |int i=>obtain⟨t,rfl⟩:=e;cases y with|non=>cases b;exact PySem.EqNone.eq_int_none (bx I q (by simp))|int j=>obtain⟨c,rfl⟩:=b;exact eq_int (bx I q si)|str j=>obtain⟨c,rfl⟩:=b;exact PySem.EqMixed.eq_int_str (bx I q (by simp))|_=>exact absurd (show D=L from d) C_
 |str i=>obtain⟨t,rfl⟩:=e;cases y with|non=>cases b;exact PySem.EqNone.eq_str_none (bx I q (by simp))|bl j=>cases b;exact PySem.EqMixed.eq_str_bool (bx I q (by simp))|int j=>obtain⟨c,rfl⟩:=b;exact PySem.EqMixed.eq_str_int (bx I q (by simp))|str j=>obtain⟨c,rfl⟩:=b;exact eq_str (bx I q sj)|_=>exact absurd (show D=L from d) C_
 |byt i=>obtain⟨t,rfl⟩:=e;cases y with|byt j=>obtain⟨c,rfl⟩:=b;exact PySem.W.eq_bytes (bx I q xg)|_=>exact absurd (show D=L from d) C_
 |_=>cases y<;>exact absurd (show D=L from d) C_
def op_ne:õ a (So .NotEq) rNe:=by intro g s f H x y v u Q I e b h;obtain⟨d,q⟩:=h;cases x with
 |non=>cases e;cases y with|non=>cases b;exact PySem.EqNone.ne_none_none (bx I q (by simp))|bl j=>cases b;exact PySem.EqNone.ne_none_bool (bx I q (by simp))|int j=>obtain⟨c,rfl⟩:=b;exact PySem.EqNone.ne_none_int (bx I q (by simp))|str j=>obtain⟨c,rfl⟩:=b;exact PySem.EqNone.ne_none_str (bx I q (by simp))|_=>exact absurd (show D=L from d) C_
 |bl i=>cases e;cases y with|non=>cases b;exact PySem.EqNone.ne_bool_none (bx I q (by simp))|bl j=>cases b;exact ne_bool (bx I q (congrArg not xf))|str j=>obtain⟨c,rfl⟩:=b;exact PySem.EqMixed.ne_bool_str (bx I q (by simp))|_=>exact absurd (show D=L from d) C_
 |int i=>obtain⟨t,rfl⟩:=e;cases y with|non=>cases b;exact PySem.EqNone.ne_int_none (bx I q (by simp))|int j=>obtain⟨c,rfl⟩:=b;exact ne_int (bx I q (congrArg not si))|str j=>obtain⟨c,rfl⟩:=b;exact PySem.EqMixed.ne_int_str (bx I q (by simp))|_=>exact absurd (show D=L from d) C_
 |str i=>obtain⟨t,rfl⟩:=e;cases y with|non=>cases b;exact PySem.EqNone.ne_str_none (bx I q (by simp))|bl j=>cases b;exact PySem.EqMixed.ne_str_bool (bx I q (by simp))|int j=>obtain⟨c,rfl⟩:=b;exact PySem.EqMixed.ne_str_int (bx I q (by simp))|str j=>obtain⟨c,rfl⟩:=b;exact ne_str (bx I q (congrArg not sj))|_=>exact absurd (show D=L from d) C_
 |byt i=>obtain⟨t,rfl⟩:=e;cases y with|byt j=>obtain⟨c,rfl⟩:=b;exact PySem.W.ne_bytes (bx I q (congrArg not xg))|_=>exact absurd (show D=L from d) C_
 |_=>cases y<;>exact absurd (show D=L from d) C_
def op_lt:õ a (So .Lt) (Ŏ λi j=>.bl (uk (i<j))):=Og λ_ _ _ _ _ _ _ q=>lt_int q
def op_le:õ a (So .LtE) (Ŏ λi j=>.bl (uk (i<=j))):=Og λ_ _ _ _ _ _ _ q=>le_int q
def Oi:õ a (So .Gt) (Ŏ λi j=>.bl (uk (j<i))):=Og λ_ _ _ _ _ _ _ q=>gt_int q
def xh:õ a (So .Lt) (λx y H Q=>∃i j,x=.str i/\y=.str j/\Q (.bl (uk (i.cps.toList<j.cps.toList))) H):=by intro f s d H x y v u Q I c b h;obtain⟨i,j,rfl,rfl,q⟩:=h;obtain⟨t,rfl⟩:=c;obtain⟨e,rfl⟩:=b;exact lt_str (bx I q rfl)
def op_in_str:õ a (So .In) (λx y H Q=>∃i j,x=.str i/\y=.str j/\Q (.bl (!(Ss j i 0 j.length 1).isEmpty)) H):=by intro f s d H x y v u Q I c b h;obtain⟨i,j,rfl,rfl,q⟩:=h;obtain⟨t,rfl⟩:=c;obtain⟨e,rfl⟩:=b;exact in_str (bx I q rfl)
def DS:õ a (So .Is) (λx y H Q=>y=.non/\Q (.bl (uk (x=.non))) H):=by intro e s d H x y v u Q I b c h;obtain⟨rfl,q⟩:=h;cases c;refine is_none_gen (bx I q ?_);cases x<;>first|(cases b;rfl)|(obtain⟨t,rfl⟩:=b;rfl)
def sk:õ a (So .IsNot) (λx y H Q=>y=.non/\Q (.bl (!uk (x=.non))) H):=by intro e s d H x y v u Q I b c h;obtain⟨rfl,q⟩:=h;cases c;refine isnot_none_gen (bx I q ?_);cases x<;>first|(cases b;rfl)|(obtain⟨t,rfl⟩:=b;rfl)
def õ.or{f:R->R->Sem R}{r e:R2}(h:õ a f r)(i:õ a f e):õ a f (λx y H Q=>r x y H Q\/e x y H Q):=by
 intro g s b H x y v u Q I d c q;rcases q with q|q;·exact h g s b H x y v u Q I d c q
 ·exact i g s b H x y v u Q I d c q
def Qt(b:u_){a:J'}(h:a≠.In:=by decide)(c:a≠.NotIn:=by decide):R5 a b=D:=by
 have e:(a==CmpOp.In)=D:=by cases a<;>first|rfl|exact absurd rfl h
 have d:(a==CmpOp.NotIn)=D:=by cases a<;>first|rfl|exact absurd rfl c
 cases b<;>simp[R5,e,d]
def xi{d:TE}{c:J'}{r:R2}(k:õ a (So c) r)(o:PE a f À)(n:PE a y d)(m:R5 c y=D):PE a (.Compare f [c] [y] p) (G' r À d):=by intro t s e H Q I h;exact wpAny_Compare1 (Oc o n I h λv u g x b z w j i q=>k t g e z x b v u Q w j i q) m
def Oj(t:TE):TT:=λa H Q=>t a H λx b=>∃k,x=.bl k/\Q k b
def xj{j:TE}{g:J'}{r:R2}(E:õ a (So g) r)(ha:PE a f À)(hb:PE a y j)(P:R5 g y=D):PT a (.Compare f [g] [y] p) (Oj (G' r À j)):=by intro i s d H Q I h;refine wpAny_isTrue_Compare1 (è (ha i s d H _ I h) λv n⟨x,H1,I1,t,B⟩=>è (hb i n d H1 _ I1 B) λu m⟨b,H2,I2,q,A⟩=>è (E i m d H2 x b v u _ I2 t q A) λc s3⟨z,H3,I3,o,k,e,w⟩=>?_) P;subst e;cases o;exact TW ⟨H3,I3,w⟩
def pV:(sizeLine:Nat)<2^63:=by rw[WX];decide
def op_add_str:õ a (UX .Add) (λx y H Q=>∃i j,x=.str i/\y=.str j/\i.length+j.length<=sizeLine/\Q (.str (i++j)) H):=by intro k s f H x y v u Q I d c h;obtain⟨i,j,rfl,rfl,e,q⟩:=h;obtain⟨t,rfl⟩:=d;obtain⟨b,rfl⟩:=c;exact add_str (λb g=>⟨.str (i++j),H,I.tok _,⟨_,rfl⟩,q⟩) e
def eD(r:Î [Γ] E):∃u,E=[u]/\Ú Γ u:=by cases r with|cons b a=>cases a;exact⟨_,rfl,b⟩
def Ff{y:V}(r:Î [Γ,y] E):∃u a,E=[u,a]/\Ú Γ u/\Ú y a:=by cases r with|cons e d=>cases d with|cons c b=>cases b;exact⟨_,_,rfl,e,c⟩
def xl(d:a.calm=L):kO a (.builtin "max") (λc H Q=>∃i j,c=[.int i,.int j]/\Q (.int (if j>i then j else i)) H):=by
 intro p s e H c g Q I r h;obtain⟨i,j,rfl,q⟩:=h;obtain⟨u,f,rfl,⟨t,rfl⟩,⟨n,rfl⟩⟩:=Ff r;refine max_two_ints (I.ok.hd d) λo m k=>⟨_,H,I.kept k,?_,q⟩;by_cases b:j>i;·rw[if_pos b,if_pos b];exact⟨_,rfl⟩
 ·rw[if_neg b,if_neg b];exact⟨_,rfl⟩
def xm(d:a.calm=L):kO a (.builtin "min") (λc H Q=>∃i j,c=[.int i,.int j]/\Q (.int (if j<i then j else i)) H):=by
 intro p s e H c g Q I r h;obtain⟨i,j,rfl,q⟩:=h;obtain⟨u,f,rfl,⟨t,rfl⟩,⟨n,rfl⟩⟩:=Ff r;refine min_two_ints (I.ok.hd d) λo m k=>⟨_,H,I.kept k,?_,q⟩;by_cases b:j<i;·rw[if_pos b,if_pos b];exact⟨_,rfl⟩
 ·rw[if_neg b,if_neg b];exact⟨_,rfl⟩
def Rf(K:d_)(x:V)(H:Hp)(n:Nat):Prop:=match x with|.str y=>y.length<=sizeLine/\n=y.length|.byt y=>y.size<=sizeLine/\n=y.size|.ref p=>(∃a,Ć K H p a/\n=a.length)\/∃a,ö K H p a/\n=a.length|_=>False
def Bo:kO a (.builtin "len") (λb H Q=>∃x n,b=[x]/\Rf a.K x H n/\Q (.int n) H):=by intro A s o H b v Q I r h;obtain⟨x,n,rfl,e,q⟩:=h;obtain⟨u,rfl,f⟩:=eD r;have z:=pV;have w:sizeLine=16777216:=WX;cases x with
 |str y=>obtain⟨t,rfl⟩:=f;obtain⟨m,d⟩:y.length<=sizeLine/\n=y.length:=e;subst d;exact len_str (by omega) ⟨.int _,H,I.tok _,⟨_,rfl⟩,q⟩|byt y=>obtain⟨t,rfl⟩:=f;obtain⟨m,d⟩:y.size<=sizeLine/\n=y.size:=e;subst d;exact PySem.W.len_bytes (by omega) ⟨.int _,H,I.tok _,⟨_,rfl⟩,q⟩|ref p=>
 cases f;have d:(∃b,Ć a.K H p b/\n=b.length)\/∃b,ö a.K H p b/\n=b.length:=e;rcases d with⟨b,i,d⟩|⟨b,i,d⟩;·subst d;obtain⟨j,g,pl,k⟩:=I.list i;have c:=g.length;exact Calls.call_len_list pl.isList (by simp only[G_];omega) ⟨.int b.length,H,I.tok _,⟨_,by simp only[G_];rw[c]⟩,q⟩
 ·subst d;obtain⟨j,g,pl,k⟩:=I.tuple i;have c:=g.length;exact len_tuple pl (by simp only[G_];omega) ⟨.int b.length,H,I.tok _,⟨_,by simp only[G_];rw[c]⟩,q⟩|_=>exact(show False from e).elim
structure Ł(h:M_)(x dx C:O)(mA:Str->Option R):Prop where
 obj:h.get? x=Z (Um C dx)ns:h.Ns1 dx mA
 ne:dx≠x
variable{Η:Str->Option R}
def xn(n:P.Ns1 e Η):∃f,P.get? e=Z f/\∀c,Xr c f=Z (Η c):=by
 obtain⟨o,g,r,i,m,k,_,j⟩:=n;refine⟨o,i,λc=>?_⟩;have b:=j c;unfold nsFind findBy at b;rw[<-Array.find?_toList]at b;unfold Xr;rw[m];dsimp only;split;·rename_i y q;rw[q]at b;exact congrArg Z b
 · rename_i q;rw[q]at b;have a:g.toList.any (·.refKey)=D:=by rw[XR];intro y h;obtain⟨z,t,d⟩:=k y (U9.mp h);simp[DictEntry.refKey,d]
   have p:¬g.toList.any (·.refKey)=L:=by rw[a];exact C_
   rw[if_neg p];exact congrArg Z b
variable{χ:O}
def Ł.look(I:Ł P e r χ Η):∃b,PySem.W.InstAt P e (Um χ r) χ (Z b)/\∀a,Xr a b=Z (Η a):=let⟨b,c,d⟩:=xn I.ns;⟨b,⟨I.obj,rfl,rfl,c⟩,d⟩
def Fg(X:s.In d.heap)(I:Ł d.heap e r χ Η)(i:VU s χ b=L)(g:Wr s χ=L)(j:Te s (.ref χ) b=Z U)(c:Η b=Z Ζ)(a:Z8 Ζ=L)(h:Â Ζ {d with toks:=d.toks+1}):t_ (y_ q o) w (getAttr (.ref e) b t) Â ν d:=by obtain⟨k,J,f⟩:=I.look;exact PySem.W.get_value X J (Xd i).1 (PySem.W.findObj_own g j rfl (by rw[f,c])) a h
def Bp{f:O}{c:Sem Bool}{Q:R×List R->g_->Prop}(X:s.In d.heap)(I:Ł d.heap e r χ Η)(a:VU s χ b=L)(m:Te s (.ref χ) b=Z (Z (.ref f)))(j:Yq s (.ref f)=L)(i:Η b=U)(h:Q (.ref f,[.ref e]) d):t_ (y_ q o) w (Ze (.ref e) b c) Q ν d:=by obtain⟨g,J,k⟩:=I.look;exact PySem.W.method_fn X J (Xd a).1 (Xd a).2 m (beq_iff_eq.mp j) (by show(Xr b g).map (·.isSome)=Z D;rw[k,i];rfl) h
def Fh{Q:Unit->g_->Prop}(X:s.In d.heap)(I:Ł d.heap e r χ Η)(u:Te s (.ref χ) "__setattr__"=Z (Z (.builtin "object.__setattr__")))(z:XH s χ=L)(t:YF s χ b=Z U)(A:Wr s χ=L)(p:ZN Η v)(E:v.length<=sizeLine)(h:∀g,Ł g e r χ (λy=>if y=b then Z Ζ else Η y)->Uu r d.heap g->Q () {d with heap:=g,toks:=d.toks+2}):t_ (y_ q o) w (setAttr (.ref e) b Ζ) Q ν d:=by obtain⟨od,J,hl⟩:=I.look;refine PySem.W.set_plain X J u (PySem.W.osa_open (s:={d with toks:=d.toks+1}) (r:=U) X J z t λa=>?_);obtain⟨cd,B,k⟩:=PySem.W.any_some A;have n:d.heap.get? e=Z ⟨.ref χ,Z r,.plain,#[]⟩:=I.obj;refine c_ (j_ (c_ (c_ (wpAny_loadPart n (c_ (PySem.W.Looks.here (s:={d with toks:=d.toks+1}) (PySem.W.looks_clsIn X B) ?_))))));rw[k];refine j_ (a:=Z r) (c_ (j_ (c_ ?_)));refine wpAny_nsSet1 (s:={d with toks:=d.toks+1}) I.ns λg f c=>?_;obtain⟨oD,H,P,i,j,m⟩:=f.count (PySem.Within.cons b Ζ p);refine c_ (wpAny_lookBehind i (by rw[j];exact pastItsLine_dict (RZ m (by rw[SD];omega))) ?_);exact j_ (h _ ⟨(c.2 _ (Vg I.ne)).trans I.obj,f,I.ne⟩ c)
def Bq{a:XY->g_->Prop}{f:List (Str×R)}(X:s.In d.heap)(i:aat s e=L)(j:Te s (.ref e) "__init__"=Z (Z (.ref r)))(k:PySem.W.typeIn s (.ref r)=Z (.type "function"))(h:Vf (y_ q o) (w.under (.builtin "type.__call__" ⟨.ref e::E,f⟩)) (.call (.ref r) ⟨.ref (d.heap.objs.size+1)::E,f⟩) (PySem.W.InitBack (d.heap.objs.size+1) a) {d with heap:=(d.heap.push Tt).push (Um e d.heap.objs.size)}):Vf (y_ q o) w (.call (.ref e) ⟨E,f⟩) a d:=by obtain⟨m,g,b,t,os⟩:=d;exact PySem.W.make_core (PySem.W.makes_of X i) (PySem.W.looks_findIn X j) (λc=>PySem.W.bind_fn X c k) (.inl rfl) h
def m9(f:Str)(v:V):List (Str×V)->List (Str×V)|[]=>[(f,v)]|(g,x)::r=>if g=f then(g,v)::r else(g,x)::m9 f v r
def lA(f g:Str)(v:V):∀fs:List (Str×V),(m9 f v fs).lookup g=if g=f then Z v else fs.lookup g
 |[]=>by
  show Vt g [(f,v)]=_;by_cases h:g=f;·have a:(g==f)=L:=beq_iff_eq.mpr h;simp only[Vt,a,if_pos h]
  ·have a:(g==f)=D:=beq_eq_false_iff_ne.mpr h;simp only[Vt,a,if_neg h]|(k,x)::r=>by
  have c:=lA f g v r;rw[show m9 f v ((k,x)::r)=(if k=f then(k,v)::r else(k,x)::m9 f v r)from rfl];by_cases b:k=f
  · rw[if_pos b];by_cases h:g=k;·have a:(g==k)=L:=beq_iff_eq.mpr h;simp only[Vt,a,if_pos (h.trans b)]
    ·have a:(g==k)=D:=beq_eq_false_iff_ne.mpr h;simp only[Vt,a,if_neg (λe:g=f=>h (e.trans b.symm))]
  · rw[if_neg b];by_cases h:g=k;·have a:(g==k)=L:=beq_iff_eq.mpr h;simp only[Vt,a,if_neg (λe:g=f=>b (h.symm.trans e))]
    ·have a:(g==k)=D:=beq_eq_false_iff_ne.mpr h;simp only[Vt,a];exact c
def lB(f:Str)(v:V):∀fs:List (Str×V),f∈(m9 f v fs).map (·.1)/\∀g,g∈fs.map (·.1)->g∈(m9 f v fs).map (·.1)
 |[]=>⟨by simp[m9],λg h=>by simp at h⟩|(k,x)::r=>by
  obtain⟨b,i2⟩:=lB f v r;rw[show m9 f v ((k,x)::r)=(if k=f then(k,v)::r else(k,x)::m9 f v r)from rfl];by_cases a:k=f;·rw[if_pos a];subst a;exact⟨by simp,λg h=>by simpa using h⟩
  · rw[if_neg a];refine⟨?_,λg h=>?_⟩;·rw[K_];exact m_ _ b
    · rw[K_]at h⊢;rcases w_.mp h with e|e;·exact w_.mpr (.inl e)
      ·exact m_ _ (i2 g e)
def lC(f:Str)(v:V):∀fs:List (Str×V),(m9 f v fs).length<=fs.length+1
 |[]=>by simp[m9]|(k,x)::r=>by
  have b:=lC f v r;rw[show m9 f v ((k,x)::r)=(if k=f then(k,v)::r else(k,x)::m9 f v r)from rfl];by_cases a:k=f;·rw[if_pos a,SD,SD];omega
  ·rw[if_neg a,SD,SD];omega
def ħ.some_of{o:Option R}(r:ħ (Z Γ) o):∃u,o=Z u/\Ú Γ u:=by cases o with|none=>exact(show False from r).elim|some u=>exact⟨u,rfl,r⟩
def ħ.none_of{o:Option R}(r:ħ U o):o=U:=by cases o with|none=>rfl|some u=>exact(show False from r).elim
def xo(r:Ú Γ Ζ):Z8 Ζ=L:=by cases Γ with|non=>cases(show Ζ=F_ from r);rfl|bl b=>cases(show Ζ=R9 b from r);rfl|int i=>obtain⟨t,e⟩:=(show∃t,Ζ=Zh i t from r);cases e;rfl|str x=>obtain⟨t,e⟩:=(show∃t,Ζ=Ti x t from r);cases e;rfl|byt b=>obtain⟨t,e⟩:=(show∃t,Ζ=Value.bytes b t from r);cases e;rfl|flt b=>obtain⟨t,e⟩:=(show∃t,Ζ=aao b t from r);cases e;rfl|ref a=>cases(show Ζ=B_ a from r);rfl|ty n=>cases(show Ζ=p_ n from r);rfl
def om{i:List (Str×V)}(j:đ q o g P)(c:g e=Z (.ins r χ i)):∃h,Ł P e χ r h/\(∀f,ħ (i.lookup f) (h f))/\ZN h (i.map (·.1))/\i.length<=1000/\g χ=Z (.own e):=by obtain⟨d,z,ne,k,h,n,a,b⟩:=(show ì q o g P e (.ins r χ i)from j e _ c);exact⟨h,⟨k,n,ne⟩,a,b,z,d⟩
structure ţ(K:d_)(C:O):Prop where
 pg:VU K C Str.empty=L
 hd:Wr K C=L
 po:XH K C=L
 sa:Te K (.ref C) "__setattr__"=Z (Z (.builtin "object.__setattr__"))
def ţ.get(c:ţ s e)(f:Str):VU s e f=L:=c.pg
def Ď(K:d_)(C:O)(f:Str):Prop:=Te K (.ref C) f=Z U
def Ď.taker(n:Ď s e b):YF s e b=Z U:=by unfold YF;rw[show Te s (.ref e) b=Z U from n];rfl
structure Fj(K:d_)(C:O)(m:Str)(f:O):Prop where
 at_:Te K (.ref C) m=Z (Z (.ref f))fn:Yq K (.ref f)=L
 kp:SU K (.ref f)=L
def vR{o:List (Str×V)}(I:Ë a H Ω g d)(i:g e=Z (.ins r χ o))(c:ţ a.K r)(n:Ď a.K r b)(l:o.lookup b=Z Γ)(h:∀u k,Ë a H Ω g k->Ú Γ u->Â u k):t_ (y_ a.prog a.w) w (getAttr (.ref e) b t) Â ν d:=by obtain⟨p,j,f,_,_,_⟩:=om I.hok i;obtain⟨u,q,m⟩:=ħ.some_of (Γ:=Γ) (o:=p b) (by rw[<-l];exact f b);exact Fg I.kIn j (c.get b) c.hd n q (xo m) (h u _ (I.tok _) m)
def ng{n:List (Str×V)}{f:O}{o:Sem Bool}{Q:R×List R->g_->Prop}(I:Ë a H Ω g d)(j:g e=Z (.ins r χ n))(c:ţ a.K r)(k:Fj a.K r b f)(l:n.lookup b=U)(h:Q (.ref f,[.ref e]) d):t_ (y_ a.prog a.w) w (Ze (.ref e) b o) Q ν d:=by obtain⟨p,m,i,_,_,_⟩:=om I.hok j;have q:p b=U:=ħ.none_of (by rw[<-l];exact i b);exact Bp I.kIn m (c.get b) k.at_ k.fn q h
def vS{p:List (Str×V)}{Q:Unit->g_->Prop}(I:Ë a H Ω g d)(j:g e=Z (.ins r χ p))(c:ţ a.K r)(n:Ď a.K r b)(hl:p.length<1000)(B:Ú Γ Ζ)(h:∀u,Ë a H Ω (Ý g e (.ins r χ (m9 b Γ p))) u->Q () u):t_ (y_ a.prog a.w) w (setAttr (.ref e) b Ζ) Q ν d:=by
 obtain⟨v,i,k,t,_,y⟩:=om I.hok j;have E:(p.map (·.1)).length<=sizeLine:=by rw[E_,WX];omega
 refine Fh I.kIn i c.sa c.po n.taker c.hd t E λh' s A=>h _ ?_;have hd:∃o,h'.get? χ=Z o:=let⟨o,_,_,e',_⟩:=s.ns;⟨o,e'⟩;refine I.write (x:=e) (e:=χ) (by rw[j];exact WM) (.inr y) (λm q hb z=>(A.2 m hb).trans z) hd ?_;refine⟨by rw[al i.ne];exact y,?_,i.ne,s.obj,_,s.ns,λf=>?_,λf P=>?_⟩;·have:=lC b Γ p;omega
 · show ħ ((m9 b Γ p).lookup f) (if f=b then Z Ζ else v f);rw[lA];by_cases q:f=b;·rw[if_pos q,if_pos q];exact B
   ·rw[if_neg q,if_neg q];exact k f
 · by_cases q:f=b;·rw[q];exact(lB b Γ p).1
   ·refine(lB b Γ p).2 f (t f λz=>P ?_);show(if f=b then Z Ζ else v f)=U;rw[if_neg q];exact z
def Ë.made(I:Ë a H Ω g d):Ë a H Ω (Ý (Ý g d.heap.objs.size (.own (d.heap.objs.size+1))) (d.heap.objs.size+1) (.ins e d.heap.objs.size [])) {d with heap:=(d.heap.push Tt).push (Um e d.heap.objs.size)}:=by
 have f:(d.heap.push Tt).get? d.heap.objs.size=Z Tt:=n_ d.heap rfl;have k:((d.heap.push Tt).push (Um e d.heap.objs.size)).get? (d.heap.objs.size+1)=Z (Um e d.heap.objs.size):=by have:=n_ (d.heap.push Tt) (o:=Um e d.heap.objs.size) rfl;rwa[L_]at this
 have j:(d.heap.push Tt).Ns d.heap.objs.size (λ_=>U):=⟨Tt,#[],_,f,rfl,(λc i=>absurd i (by simp)),λ_=>rfl⟩;have m:=I.laid (a:=d.heap.objs.size) (o:=.own (d.heap.objs.size+1)) (h':=d.heap.push Tt) (t':=d.toks) (λb u q=>i_ _ q) (r_ _) ⟨_,f⟩;refine m.laid (a:=d.heap.objs.size+1) (o:=.ins e d.heap.objs.size []) (t':=d.toks) (λb u q=>i_ _ q) (Xj (L_ _ _)) ?_;have ne:d.heap.objs.size≠d.heap.objs.size+1:=D_ (Tf _);refine⟨by rw[al ne,ao],Sb _,ne,k,λ_=>U,(Heap.Ns1.of_empty j).at λo q=>i_ _ q,λ_=>WM,λy h=>absurd rfl h⟩
def Fk{c:Env}(g:TU f b c (eval f c)=eval f c)(h:t_ (y_ q o) w (eval f c) (λa e=>t_ (y_ q o) w (getAttr a b L) Â ν e) ν d):t_ (y_ q o) w (eval (.Attribute f b p) c) Â ν d:=Attribute_any_ h (by rw[arm_eval_Attribute,g])
def Rg(K:d_)(d:TE)(f:Str):TE:=λc H Q=>d c H λx b=>∃a C e fs v,x=.ref a/\b a=Z (.ins C e fs)/\ţ K C/\Ď K C f/\fs.lookup f=Z v/\Q v b
def Rh(K:d_)(h g:TE)(f:Str):TS:=λb c H=>g c H λy i=>h c i λx e=>∃a C d fs,x=.ref a/\e a=Z (.ins C d fs)/\ţ K C/\Ď K C f/\fs.length<1000/\b.nx c (Ý e a (.ins C d (m9 f y fs)))
def JE(k:PE a f À)(m:TU f b a.env (eval f a.env)=eval f a.env):PE a (.Attribute f b p) (Rg a.K À b):=by intro o s g H Q I h;refine Fk m (è (k o s g H _ I h) λu E⟨x,z,y,i,d,e,P,fs,v,r,t,c,n,l,q⟩=>?_);subst r;obtain rfl:u=B_ d:=i;exact vR y t c n l λA B w j=>⟨v,z,w,j,q⟩
def JF{k:TE}(E:PE a f À)(z:PE a y k)(A:To y (Z (.Attribute f b B)) p.line a.env=pure D):PS a (.Assign [.Attribute f b B] y p) (Rh a.K À k b):=by intro m s j H g I h;refine plainObj_wpAny_Assign_Attribute (è (z m s j H _ I h) λu o⟨e,H1,I1,r,q⟩=>è (E m o j H1 _ I1 q) λw s2⟨x,H2,I2,t,d,i,dx,fs,P,ea,c,n,l,v⟩=>?_) A;subst P;obtain rfl:w=B_ d:=t;exact vS I2 ea c n l r λs3 I3=>⟨j,_,I3,v⟩
inductive ud(K:d_)(H:Hp):V->R->Prop where|non:ud K H .non (.type "NoneType")|bl(x:Bool):ud K H (.bl x) (.type "bool")|int(i:Int):ud K H (.int i) (.type "int")|str(x:Str):ud K H (.str x) (.type "str")|flt(x:UInt64):ud K H (.flt x) (.type "float")|lst{a:O}{xs:List V}(e:H a=Z (.lst xs)):ud K H (.ref a) (.type "list")|frz{a:O}{o:Obj}{xs:List V}(e:H a=Z (.frz o (.lst xs))):ud K H (.ref a) (.type "list")|tup{a:O}{xs:List V}(e:H a=Z (.tup xs)):ud K H (.ref a) (.type "tuple")|dK{a:O}{kvs:List (Ĵ×V)}(e:H a=Z (.dK kvs)):ud K H (.ref a) (.type "dict")|dT{a:O}{kvs:List (List Ĵ×V)}(e:H a=Z (.dT kvs)):ud K H (.ref a) (.type "dict")|ins{a C dx:O}{fs:List (Str×V)}(e:H a=Z (.ins C dx fs))(cl:ţ K C)(ha:Te K (.ref C) "__class__"=Z (Z (.builtin "object.__class__")))(hn:PySem.W.specialIn K (.builtin "object.__class__") "__get__"=Z (Z (.builtin "getset_descriptor.__get__")))(htk:PySem.W.takesIn K (.builtin "object.__class__")=Z L)(hm:PySem.W.mroIn K C (.type "object")=Z L):ud K H (.ref a) (.ref C)
def xp{u c:R}(I:Ë a H Ω g d)(k:Ú Γ u)(P:ud a.K g Γ c)(e:Vk a.K c Ζ=Z t)(h:∀tk,Â (.bool t) {d with toks:=tk}):t_ (y_ a.prog a.w) w (call (.builtin "isinstance") [u,Ζ]) Â ν d:=by cases P with|non=>cases(show u=F_ from k);exact Tl PySem.W.kitx_none I.kIn WM e (λz=>nomatch z) h|bl y=>cases(show u=R9 y from k);exact Tl PySem.W.kitx_bool I.kIn WM e (λz=>nomatch z) h|int i=>obtain⟨c,q⟩:=(show∃c,u=Zh i c from k);cases q;exact Tl PySem.W.kitx_int I.kIn WM e (λz=>nomatch z) h|str y=>obtain⟨c,q⟩:=(show∃c,u=Ti y c from k);cases q;exact Tl PySem.W.kitx_str I.kIn WM e (λz=>nomatch z) h|flt y=>obtain⟨c,q⟩:=(show∃c,u=aao y c from k);cases q;exact Tl PySem.W.kitx_float I.kIn WM e (λz=>nomatch z) h|@lst b v m=>cases(show u=B_ b from k);obtain⟨_,_,n,_,r⟩:=(show ì a.prog a.w g d.heap b (.lst v)from I.hok b _ m);exact Tl ZO I.kIn ⟨_,r,rfl⟩ e (λz=>nomatch z) h|@frz b ob v m=>cases(show u=B_ b from k);obtain⟨_,_,_,n,_,r⟩:=(show ì a.prog a.w g d.heap b (.frz ob (.lst v))from I.hok b _ m);exact Tl ZO I.kIn ⟨_,r,rfl⟩ e (λz=>nomatch z) h|@tup b v m=>cases(show u=B_ b from k);obtain⟨_,_,_,p⟩:=(show ì a.prog a.w g d.heap b (.tup v)from I.hok b _ m);obtain⟨o,r,A,_⟩:=p;exact Tl PySem.W.kitx_tuple I.kIn ⟨o,r,A⟩ e (λz=>nomatch z) h|@dK b s m=>cases(show u=B_ b from k);obtain⟨_,_,vs,_,p⟩:=(show ì a.prog a.w g d.heap b (.dK s)from I.hok b _ m);obtain⟨o,es,ep,r,A,_⟩:=p;exact Tl ZP I.kIn ⟨o,r,A.1⟩ e (λz=>nomatch z) h|@dT b s m=>cases(show u=B_ b from k);obtain⟨_,_,v,_,o,es,ep,r,A,_⟩:=(show ì a.prog a.w g d.heap b (.dT s)from I.hok b _ m);exact Tl ZP I.kIn ⟨o,r,A.1⟩ e (λz=>nomatch z) h|@ins b j dx fs m E ha hn B hm=>cases(show u=B_ b from k);obtain⟨mA,f,_⟩:=om I.hok m;obtain⟨od,J,_⟩:=f.look;exact Tl (PySem.W.kitx_own (E.get _) E.hd ha hn B hm) I.kIn J e (λz=>nomatch z) h
structure Ö(k:Nat)(A:x_):Prop where
 hd:A.handled=U
 dp:A.depth+3*k+5<recursionLimit
 un:A.units+16*k+200<cLine
 gd:A.guards=Z []
def Ö.mono(r:Ö m w)(h:c<=m):Ö c w:=⟨r.hd,by have:=r.dp;omega,by have:=r.un;omega,r.gd⟩
def Ö.deeper(r:Ö (c+1) w)(a:Env):Ö c (w.deeper a):=⟨r.hd,by have:=r.dp;show w.depth+1+3*c+5<_;omega,by have:=r.un;show w.units+3+16*c+200<_;omega,r.gd⟩
def Ö.in1(r:Ö (c+1) w):Ö c w.in1:=⟨r.hd,by have:=r.dp;show w.depth+3*c+5<_;omega,by have:=r.un;show w.units+1+16*c+200<_;omega,r.gd⟩
def vT{a:List (Str×R)}:(w.under (.builtin "type.__call__" ⟨.ref e::E,a⟩)).depth=w.depth+1:=by first|rfl|simp[Yv,Code.weight,Code.isCreation,Code.isGuard,Code.isCaller,Code.frames,ZT,guardIds]
def vU{a:List (Str×R)}:(w.under (.builtin "type.__call__" ⟨.ref e::E,a⟩)).units=w.units+1:=by first|rfl|simp[Yv,Code.cUnits,Code.frames,ZT]
def Ö.make(r:Ö (c+1) w)(C:O)(a:List R)(b:List (Str×R)):Ö c (w.under (.builtin "type.__call__" ⟨.ref C::a,b⟩)):=⟨r.hd,by have:=r.dp;rw[vT];omega,by have:=r.un;rw[vU];omega,by have:=r.gd;simp[Yv,Code.guards,Code.isGuard,guardIds,pushGuards,this]⟩
def Ö.depth(r:Ö c w):w.depth<recursionLimit:=by have:=r.dp;omega
def Ö.units(r:Ö c w):w.units+64<cLine:=by have:=r.un;omega
def Ö.units0(r:Ö c w):w.units<cLine:=by have:=r.un;omega
def Qu:TA:=λ_ H Q=>Q [] H
def Ol(d:TE)(c:TA):TA:=λa H Q=>d a H λx f=>c a f λb e=>Q (x::b) e
def xq:PA a [] Qu:=λ_ _ _ _ H Q I h=>Wy ⟨[],H,I,.nil,h⟩
def oq{t:TA}(p:PE a f À)(o:PA a u t)(n:l_ (f::u) a.env=(D,eval f a.env)::l_ u a.env:=by rfl):PA a (f::u) (Ol À t):=by intro pos d s c H Q I h;rw[n];show t_ _ _ (spliced ((D,eval f a.env)::R8 pos (l_ u a.env))) _ _ s;refine Xx (è (p d s c H _ I h) λb g⟨x,w,r,j,m⟩=>?_);exact è (o pos d g c w _ r m) λy z⟨e,v,q,i,k⟩=>⟨x::e,v,q,.cons j i,k⟩
def Ri(t:TA):TE:=λc H Q=>t c H λa b=>a.length<=sizeLine/\∀p,b p=U->Q (.ref p) (Ý b p (.tup a))
def Rj(t:TA):TE:=λc H Q=>t c H λa b=>a.length<=sizeLine/\∀p,b p=U->Q (.ref p) (Ý b p (.lst a))
def JG{t:TA}{k}(h:PA a u t):PE a (.Tuple u k p) (Ri t):=by intro v s i H Q I n;refine wpAny_Tuple_spliced (è (h p v s i H _ I n) λm d⟨j,g,f,r,z,q⟩=>⟨by rw[<-r.length];exact z,?_⟩);have o:g d.heap.objs.size=U:=f.hok.fresh (r_ _);refine⟨.ref d.heap.objs.size,Ý g d.heap.objs.size (.tup j),f.laid (t':=d.toks) (λb c e=>i_ _ e) (r_ _) ?_,rfl,q _ o⟩;exact⟨z,m,r,⟨_,n_ _ rfl,rfl,_,rfl⟩⟩
def DT{t:TA}(h:PA a u t):PE a (.List u p) (Rj t):=by intro o s i H Q I m;refine wpAny_List_spliced (è (h p o s i H _ I m) λk d⟨j,g,f,r,z,q⟩=>⟨by rw[<-r.length];exact z,?_⟩);have n:g d.heap.objs.size=U:=f.hok.fresh (r_ _);refine⟨.ref d.heap.objs.size,Ý g d.heap.objs.size (.lst j),f.laid (t':=d.toks) (λb c e=>i_ _ e) (r_ _) ?_,rfl,q _ n⟩;exact⟨z,k,0,r,n_ _ rfl⟩
abbrev Sp:=List V->Hp->VK->XK->Prop
abbrev Ľ:=List Env->Hp->g_->XK->R->g_->Prop
structure ĸ(P:on)(w:z_)(K:d_)(mg:Str->Option R)(base:M_)(A:x_)(outer:List Env)(s:g_)(H:Hp):Prop where
 frames:A.frames=Z outer
 mod:Mod K mg base
 bs:∀b o,base.get? b=Z o->s.heap.get? b=Z o/\H b=U
 bsz:base.objs.size<=s.heap.objs.size
 funs:s.heap.FunFrames base outer
 frf:∀b∈frs outer,H b=U
 hok:đ P w H s.heap
 bare:XO s.gens
def CE(a:List Env)(P:on)(w:z_)(H:Hp)(s:g_)(Q:VK)(u:R)(b:g_):Prop:=∃v c,b.os=s.os/\XO b.gens/\Un (frs a) [] H c s.heap b.heap/\đ P w c b.heap/\Ú v u/\Q v c
def CR(c:Ľ)(a:List Env)(P:on)(w:z_)(H:Hp)(s:g_)(Q:VK)(E:XK)(r:XY)(b:g_):Prop:=match r with|.ok (.ret u)=>CE a P w H s Q u b|.ok _=>False|.error e=>c a H s E e b
structure ê(P:on)(w:z_)(K:d_)(mg:Str->Option R)(base:M_)(CX:Ľ)(k:Nat)(f:O)(fd:SO)(ps:List Str)(sp:Sp):Prop where
 len:∀vs H Q E,sp vs H Q E->vs.length=ps.length
 run:∀(A:x_)(outer:List Env)(s:g_)(H:Hp)(args:Args)(us:List R)(vs:List V)(Q:VK)(E:XK),Ö k A->ĸ P w K mg base A outer s H->ZV s fd args (ps.zip us)->Î vs us->sp vs H Q E->Vf (y_ P w) A (.call (.ref f) args) (CR CX outer P w H s Q E) s
variable{Ψ:SO}
def ê.mono{g:Ľ}{f:Sp}(F:ê q o s Η P g c e Ψ v f)(h:c<=m):ê q o s Η P g m e Ψ v f:=⟨F.len,λA b a H d j i Q E k=>F.run A b a H d j i Q E (k.mono h)⟩
def ĸ.make{a:List Env}(e:ĸ q o s Η P w a d g)(C:O)(b:List R)(c:List (Str×R)):ĸ q o s Η P (w.under (.builtin "type.__call__" ⟨.ref C::b,c⟩)) a d g:=⟨by first|exact e.frames|(simpa[Yv,Code.envs,ZT,pushEnvs]using e.frames),e.mod,e.bs,e.bsz,e.funs,e.frf,e.hok,e.bare⟩
def Ë.env0(I:Ë a H Ω g d):ĸ a.prog a.w a.K a.mg a.base a.A a.stack d g:=⟨I.ok.frames,I.ok.mod,I.bs,RZ I.ok.bsz I.sz,I.stack,I.stkFree,I.hok,I.bare⟩
def Ë.after{i:g_}(I:Ë a H Ω g d)(h:CE a.stack a.prog a.w g d Ç Ζ i):EP a H Ω Ç Ζ i:=by obtain⟨v,n,os,f,un,k,r,q⟩:=h;obtain⟨m,c,e,t,j⟩:=i;obtain rfl:j=d.os:=os;exact⟨v,n,I.call (h':=m) (g':=c) (d':=e) (t':=t) (ch:=[]) un k f (λb z=>absurd z (by simp)),r,q⟩
def Om(d:Sp)(a:List V)(E:XK)(t:TA):TE:=λb H Q=>t b H λc e=>d (c++a) e Q E
def JH(C:O)(m:Str)(g:Sp)(b:List V)(E:XK)(f:TE)(t:TA):TE:=λc H Q=>f c H λx d=>∃a h fs,x=.ref a/\d a=Z (.ins C h fs)/\fs.lookup m=U/\t c d λe i=>g (x::(e++b)) i Q E
def On(C:O)(f:Sp)(c:List V)(E:XK)(t:TA):TE:=λd H Q=>t d H λe b=>∀x a,b x=U->b a=U->a≠x->f (.ref x::(e++c)) (Ý (Ý b a (.own x)) x (.ins C a [])) (λv g=>v=.non/\Q (.ref x) g) E
def é(K:d_)(d:SO)(b:List Str)(c:List R):Prop:=∀(s:g_)(a:List R),K.In s.heap->(a++c).length=b.length->ZV s d ⟨a,[]⟩ (b.zip (a++c))
def é.all(h:∀b:List R,b.length=v.length->Xq Ψ ⟨b,[]⟩=pure (v.zip b)):é s Ψ v []:=λa b _ c=>by rw[Uc]at c⊢;exact .of_eq (h b c)
def lD(d:Ľ)(X:C)(E:XK):Prop:=∀(c:List (O×Obj))(b:St)(H:Hp)(s:g_)(e:R)(a:g_),Ë X c b H s->d X.stack H s E e a->X.xe e a
def xr{o:Ľ}{m:Sp}{b:XK}{i:List R}{k:List V}(F:ê a.prog a.w a.K a.mg a.base o c e Ψ v m)(s:Ö c a.A)(y:é a.K Ψ v E)(w:Î θ E)(q:lD o a b)(I:Ë a H Ω g d)(r:Î k i)(h:m (k++θ) g Ç b):t_ (y_ a.prog a.w) a.A (call (.ref e) i) (EP a H Ω Ç) a.xe d:=by
 have n:Î (k++θ) (i++E):=r.append w;have t:(i++E).length=v.length:=by rw[<-n.length];exact F.len _ _ _ _ h
 refine WP (TX (F.run a.A a.stack d g ⟨i,[]⟩ (i++E) (k++θ) Ç b s I.env0 (y d i I.kIn t) n h) λr p j=>?_);cases r with|error f=>exact q H Ω g d f p I j|ok z=>cases z with|ret u=>exact I.after j|next=>exact SK j|brk=>exact SK j|cont=>exact SK j
def ot{m:Ľ}{j:Sp}{d:XK}{t:TA}(F:ê a.prog a.w a.K a.mg a.base m c e Ψ v j)(w:Ö c a.A)(A:Gl a b)(y:a.mg b=Z (.ref e))(z:SU a.K (.ref e)=L)(hb:é a.K Ψ v E)(hd:Î θ E)(o:lD m a d)(ha:PA a (f::u) t)(i:(b==("__debug__":Str))=D:=by decide)(P:l_ (f::u) a.env=(D,eval f a.env)::l_ u a.env:=by rfl)(g:(R8 B (l_ u a.env)).any (·.1)=D:=by rfl):PE a (.Call (.Name b p) (f::u) [] B) (Om j θ d t):=by intro f' s n H Q I h;refine S_ (oi I A y ?_ i);refine Xs (h₀:=a.base) I.ok.mod.kin z (è (ha B f' s n H _ I h) λus s1⟨vs,H1,k,r,q⟩=>⟨k.kIn,?_⟩) P g;exact xr F w hb hd o k r q
def xt{CX:Ľ}{w:Sp}{g:XK}{t:TA}{z:Sem Bool}(he:PE a y À)(k:ţ a.K r)(P:Fj a.K r b e)(F:ê a.prog a.w a.K a.mg a.base CX c e Ψ v w)(hr:Ö c a.A)(hb:é a.K Ψ v E)(hd:Î θ E)(hx:lD CX a g)(ha:PA a (f::u) t)(m:l_ (f::u) a.env=(D,eval f a.env)::l_ u a.env:=by rfl)(n:(R8 p (l_ u a.env)).any (·.1)=D:=by rfl)(ht:eval (.Call (.Attribute y b B) (f::u) [] p) a.env=(do
 let A<-eval y a.env
 Ym B.atName let(e,first)<-VJ [A] (Ze A b z)callWith p e first (R8 p (l_ (f::u) a.env)) (Tx p (SN [] a.env))):=by rfl):PE a (.Call (.Attribute y b B) (f::u) [] p) (JH r b w θ g À t):=by intro f' s o H Q I h;refine YN (pl:=z) (è (he f' s o H _ I h) λi s1⟨x,H1,I1,rx,d,dx,fs,ex,ea,l,q⟩=>?_) ht;subst ex;obtain rfl:i=B_ d:=rx;refine ng I1 ea k P l ?_;refine Xs (first:=[.ref d]) (h₀:=a.base) I.ok.mod.kin P.kp (è (ha p f' s1 o H1 _ I1 q) λus s2⟨vs,H2,I2,j,q2⟩=>⟨I2.kIn,?_⟩) m n;exact xr (i:=.ref d::us) (k:=.ref d::vs) F hr hb hd hx I2 (.cons rfl j) q2
def Br{t:Ľ}{k:Sp}{g:XK}{m:Sem Bool}(he:PE a f À)(i:ţ a.K r)(o:Fj a.K r b e)(F:ê a.prog a.w a.K a.mg a.base t c e Ψ v k)(P:Ö c a.A)(hb:é a.K Ψ v E)(hd:Î θ E)(z:lD t a g)(A:eval (.Call (.Attribute f b B) [] [] p) a.env=(do
 let n<-eval f a.env
 Ym B.atName let(e,first)<-VJ [n] (Ze n b m)callWith p e first (R8 p (l_ [] a.env)) (Tx p (SN [] a.env))):=by rfl):PE a (.Call (.Attribute f b B) [] [] p) (JH r b k θ g À Qu):=by intro f' s w H Q I h;refine YN (pl:=m) (è (he f' s w H _ I h) λu s1⟨x,H1,j,y,d,dx,fs,ex,ea,l,q⟩=>?_) A;subst ex;obtain rfl:u=B_ d:=y;refine ng j ea i o l ?_;exact PySem.W.callWith_K0 (first:=[.ref d]) j.kIn o.kp (xr (i:=[.ref d]) (k:=[.ref d]) F P hb hd z j (.cons rfl .nil) q)
structure Mk(K:d_)(C f:O):Prop where
 makes:aat K C=L
 init:Te K (.ref C) "__init__"=Z (Z (.ref f))fn:Yq K (.ref f)=L
 kp:SU K (.ref C)=L
def Bs{w:Ľ}{q:Sp}{i:XK}{m:List R}{p:List V}(M:Mk a.K r e)(F:ê a.prog a.w a.K a.mg a.base w c e Ψ v q)(P:Ö (c+1) a.A)(hb:é a.K Ψ v E)(hd:Î θ E)(B:lD w a i)(I:Ë a H Ω g d)(f:Î p m)(h:∀x n,g x=U->g n=U->n≠x->q (.ref x::(p++θ)) (Ý (Ý g n (.own x)) x (.ins r n [])) (λj H2=>j=.non/\Ç (.ref x) H2) i):t_ (y_ a.prog a.w) a.A (call (.ref r) m) (EP a H Ω Ç) a.xe d:=by
 have t:=h (d.heap.objs.size+1) d.heap.objs.size (I.hok.fresh (Wj _)) (I.hok.fresh (r_ _)) (D_ (Tf _));have o:=Ë.made (e:=r) I;have s:Î (V.ref (d.heap.objs.size+1)::(p++θ)) (B_ (d.heap.objs.size+1)::(m++E)):=.cons rfl (f.append hd);have hl:(B_ (d.heap.objs.size+1)::m++E).length=v.length:=by have b:=s.length;rw[F.len _ _ _ _ t]at b;exact b.symm
 refine WP (Bq (r:=e) I.kIn M.makes M.init (beq_iff_eq.mp M.fn) (TX (F.run _ a.stack _ _ ⟨B_ (d.heap.objs.size+1)::m,[]⟩ (B_ (d.heap.objs.size+1)::(m++E)) _ _ i (P.make r m []) (o.env0.make r m []) (hb _ (B_ (d.heap.objs.size+1)::m) o.kIn hl) s t) λf y k=>?_));cases f with|error b=>exact B H Ω _ _ b y o k|ok fl=>cases fl with|ret u=>obtain⟨j,H',I3,z,ev,A⟩:=o.after k;subst ev;exact⟨z,⟨V.ref (d.heap.objs.size+1),H',I3,rfl,A⟩⟩|next=>exact SK k|brk=>exact SK k|cont=>exact SK k
def Fm{n:Ľ}{k:Sp}{d:XK}{t:TA}(M:Mk a.K r e)(F:ê a.prog a.w a.K a.mg a.base n c e Ψ v k)(y:Ö (c+1) a.A)(A:Gl a b)(z:a.mg b=Z (.ref r))(hb:é a.K Ψ v E)(hd:Î θ E)(w:lD n a d)(ha:PA a (f::u) t)(j:(b==("__debug__":Str))=D:=by decide)(P:l_ (f::u) a.env=(D,eval f a.env)::l_ u a.env:=by rfl)(i:(R8 B (l_ u a.env)).any (·.1)=D:=by rfl):PE a (.Call (.Name b p) (f::u) [] B) (On r k θ d t):=by intro f' s o H Q I h;refine S_ (oi I A z ?_ j);refine Xs (h₀:=a.base) I.ok.mod.kin M.kp (è (ha B f' s o H _ I h) λus s1⟨vs,H1,m,g,q⟩=>⟨m.kIn,?_⟩) P i;exact Bs M F y hb hd w m g q
structure eH(N P:List Str)(sc:TF):Prop where
 kind:sc.kind=.function
 co:sc.isCoroutine=D
 gen:sc.isGenerator=D
 nd:N.Nodup
 pre:N.take P.length=P
 par:∀x∈P,sc.names.lookup x=Z .local\/sc.names.lookup x=Z .cell
 nofree:∀y∈sc.names,y.2≠.free
def pW{a:Str->Option Vm}{x:Str}:∀{binds:List (Str×R)}{m:Str->Option R},(∀v,(x,v)∉binds)->j' a binds m x=m x
 |[],_,_=>rfl|(n,v)::r,m,h=>by
  unfold j';rw[pW λw b=>h w (m_ _ b)];split
  · have:x≠n:=by rintro rfl;exact h v o_
    simp[this]
  ·rfl
def pY{a:Str->Option Vm}{x:Str}:∀{binds:List (Str×R)}{m:Str->Option R},(∀v,(x,v)∉binds)->ž a binds m x=m x
 |[],_,_=>rfl|(n,v)::r,m,h=>by
  unfold ž;rw[pY λw b=>h w (m_ _ b)];split;·rfl
  · have:x≠n:=by rintro rfl;exact h v o_
    simp[this]
def pZ{a:Str->Option Vm}{x:Str}{v:R}:∀{P:List Str}{b:List R}{i:Nat}{m:Str->Option R},P.Nodup->P[i]?=Z x->b[i]?=Z v->a x=Z .local->j' a (P.zip b) m x=Z v|[],_,_,_,_,h,_,_=>by simp at h|_::_,[],_,_,_,_,h,_=>by simp at h|p::P,w::b,0,m,e,d,c,f=>by simp at d c;subst d;subst c;show j' a ((p,w)::P.zip b) m p=_;unfold j';rw[pW λv g=>(TD.mp e).1 (Xa g).1,if_pos f];simp|p::P,w::b,i+1,m,e,d,c,f=>by show j' a ((p,w)::P.zip b) m x=_;unfold j';exact pZ (i:=i) (TD.mp e).2 (by simpa using d) (by simpa using c) f
def p0{a:Str->Option Vm}{x:Str}{v:R}:∀{P:List Str}{b:List R}{i:Nat}{m:Str->Option R},P.Nodup->P[i]?=Z x->b[i]?=Z v->a x≠Z .local->ž a (P.zip b) m x=Z v|[],_,_,_,_,h,_,_=>by simp at h|_::_,[],_,_,_,_,h,_=>by simp at h|p::P,w::b,0,m,e,d,c,f=>by simp at d c;subst d;subst c;show ž a ((p,w)::P.zip b) m p=_;unfold ž;rw[pY λv g=>(TD.mp e).1 (Xa g).1,if_neg f];simp|p::P,w::b,i+1,m,e,d,c,f=>by show ž a ((p,w)::P.zip b) m x=_;unfold ž;exact p0 (i:=i) (TD.mp e).2 (by simpa using d) (by simpa using c) f
def start(N:List Str)(a:List V):St:=a.map Z++P_ (N.length-a.length) U
def kY(g:Ľ)(P:on)(w:z_)(K:d_)(mg:Str->Option R)(base:M_)(N:List Str)(b:Str)(a:TF)(f:O)(d:R)(A:x_)(outer:List Env)(s:g_)(H:Hp)(E:XK):C where prog:=P;w:=w;K:=K;mg:=mg;base:=base;A:=A.deeper (Uo b a s.heap.objs.size f d);N:=N;s₀:=s;H₀:=H;env:=Uo b a s.heap.objs.size f d;outer:=outer;stack:=Uo b a s.heap.objs.size f d::outer;ex:=[];calm:=L;fn:=λ_=>L;pn:=[];xe:=λe h=>t_ (y_ P w) (A.deeper (Uo b a s.heap.objs.size f d)) (leaving (Uo b a s.heap.objs.size f d) e) (λ_ c=>g outer H s E e c) (λi c=>g outer H s E i c) h
variable{ι:TF}
def ue(h:ι.names.lookup b=Z .cell):∃a,(SZ c ι.names []).lookup b=Z a:=by have q:=Wu ι.names c [] (.inl h);exact Vc.mp q
def p8{CX:Ľ}{ps:List Str}{A:List Env}{s1:g_}{n:XK}(S:eH v ps ι)(hd:w.handled=U)(H:ĸ q o s Η P w A d g)(hl:θ.length=ps.length)(r:Î θ E)(x:InCallC d d.heap.objs.size (j' (Uo b ι d.heap.objs.size e Ζ).kindOf (ps.zip E) λ_=>U) (SZ (d.heap.objs.size+1) ι.names []) (ž (Uo b ι d.heap.objs.size e Ζ).kindOf (ps.zip E) λ_=>U) s1):Ë (kY CX q o s Η P v b ι e Ζ w A d g n) [] (start v θ) g s1:=by
 have c':ps.length<=v.length:=by have:=congrArg W1 S.pre;rw[Yi]at this;omega
 obtain⟨h1,tk,rfl,hk⟩:=x.done;have a':∀f:O,f∉(kY CX q o s Η P v b ι e Ζ w A d g n).ex:=λf z=>absurd (show f∈([]:List O)from z) (by simp);refine⟨⟨H.mod,S.kind,rfl,rfl,r_ _,λy z c h1 B=>?_,λy hy=>?_,λy c _ h=>?_,λ_=>hd,Around.frames_deeper H.frames,.inr ⟨rfl,rfl⟩,λf z=>absurd z (a' f),H.bs,H.bsz,λf _ _=>a' f,λf z=>absurd z (a' f),H.funs,H.frf⟩,rfl,H.bare,Un.kept hk,⟨_,x.toInCall.ns,λi y t h1 B h3=>?_⟩,λy c h=>⟨_,x.cell y c h⟩,H.hok.fresh (r_ _),λy c h=>?_,λp hp=>absurd (show p∈([]:List (O×Obj))from hp) (by simp),H.hok.kept hk,?_⟩;·exact name_of_addr x.apart (Ve h1) (Ve B)
 · have hy:ι.names.lookup y=Z .cell\/ι.names.lookup y=Z .free:=hy;rcases hy with hy|hy;·exact ue hy
   ·exact absurd rfl (S.nofree _ (Ve hy))
 ·exact U5 (x.above y c (Ve h))
 · have hi:i<θ.length:=by
    unfold start at B;by_cases hi:i<θ.length;·exact hi
    ·rw[Sn (by simpa using hi)]at B;rw[Wl]at B;split at B<;>cases B
   have ha:θ[i]?=Z t:=by unfold start at B;rw[Su (by simpa using hi),O_]at B;cases j:θ[i]? with|none=>rw[j]at B;cases B|some a=>rw[j]at B;cases B;rfl
   obtain⟨u,hu,rv⟩:=r.get ha;have hp:ps[i]?=Z y:=by rw[<-S.pre,X0 (by omega)];exact h1
   have b':ps.Nodup:=by rw[<-S.pre];exact S.nd.sublist (List.take_sublist _ _)
   refine⟨u,rv,?_⟩;rcases S.par y (Sg hp)with k|k;·exact .inl ⟨k,pZ b' hp hu k⟩
   ·obtain⟨c,j⟩:=ue (c:=d.heap.objs.size+1) k;refine .inr ⟨.inl k,c,j,?_⟩;have m:=x.cell y c j;rw[p0 b' hp hu (by show ι.names.lookup y≠_;rw[k];decide)]at m;exact m
 ·exact H.hok.fresh (U5 (x.above y c (Ve h)))
 ·unfold start;show _=v.length;rw[SV,E_,Ud];omega
def xu{CX:Ľ}{P:on}{w:z_}{K:d_}{mg:Str->Option R}{h:M_}{k:Nat}{f:O}{B d:Str}{i:Arguments}{j:List S7}{a:TF}{dV kV f' pm g ct oc:R}{an od:Option O}{g':Array (Option R)}{N ps:List Str}{sp:Sp}(lk:K.lookup f=Z ⟨oc,od,.func (Uh B d i j a dV kV f' pm an g ct),g'⟩)(i':Ws K g d=L)(S:eH N ps a)(c':∀m H Q E,sp m H Q E->m.length=ps.length)(b':∀(A:x_)(c:List Env)(s:g_)(H:Hp)(m:List V)(Q:VK)(E:XK),Ö k (A.deeper (Uo d a s.heap.objs.size f g))->sp m H Q E->∃t,ĺ (kY CX P w K mg h N d a f g A c s H E) j t/\t {nx:=λ_ z=>Q .non z,rt:=Q} (start N m) H):ê P w K mg h CX (k+1) f (Uh B d i j a dV kV f' pm an g ct) ps sp:=by
 refine⟨c',λA c s H k' us m Q E hr e0 hb r d'=>?_⟩;have hl:=c' _ _ _ _ d';have KX:K.In s.heap:=e0.mod.kin.keeps λb o e=>(e0.bs b o e).1;have h':s.heap.NoLimit:=e0.mod.nolimit.keeps λb o e=>(e0.bs b o e).1;have a':∀y∈ps.zip us,a.names.lookup y.1=Z .local\/(a.names.lookup y.1=Z .cell/\((SZ (s.heap.objs.size+1) a.names []).lookup y.1).isSome=L):=λ⟨n,v⟩hy=>by
  rcases S.par n (Xa hy).1 with q|q;·exact .inl q
  ·exact .inr ⟨q,Wu _ _ _ (.inl q)⟩
 refine codeAny_call_function hr.depth (KX _ _ lk) rfl S.co S.gen rfl (PySem.W.codeRec_of KX i') (hb _ _ _ _ ?_);refine Xo S.kind a' λl' he s1 x=>?_;subst he;refine⟨h'.keeps x.toInCall.keep,codeAny_func ?_⟩;obtain⟨t,ht,hq⟩:=b' A c s H m Q E (hr.deeper _) d';have I:Ë (kY CX P w K mg h N d a f g A c s H E) [] (start N m) H s1:=p8 S hr.hd e0 hl r x;refine Sw (ht [] s1 (start N m) H _ I hq) (λfl s' hs=>?_) λe s' hs=>hs;have e':∀{p:St}{z:Hp}{v:V}{u:R},Ë (kY CX P w K mg h N d a f g A c s H E) [] p z s'->Ú v u->Q v z->CE c P w H s Q u s':=λ{p z v u}J rv q=>⟨v,z,J.os,J.bare,J.base,J.hok,rv,q⟩;cases fl with|ret u=>obtain⟨v,p,z,J,rv,q⟩:=hs;exact e' J rv q|next=>obtain⟨p,z,J,q⟩:=hs;exact e' (v:=V.non) (u:=F_) J rfl q|brk=>obtain⟨_,_,_,q⟩:=hs;exact SK q|cont=>obtain⟨_,_,_,q⟩:=hs;exact SK q
def tCB(r:List V->Hp->VK->Prop)(t:TA):TE:=λa H Q=>t a H λb c=>r b c Q
def gK{t:TA}{g:String}{r:List V->Hp->VK->Prop}(A:kO a (.builtin g) r)(y:Gl a b)(w:a.mg b=U)(q:TC b=Z (.builtin g))(E:PA a (f::u) t)(v:b≠"__name__":=by decide)(d:(b==("__debug__":Str))=D:=by decide)(z:l_ (f::u) a.env=(D,eval f a.env)::l_ u a.env:=by rfl)(c:(R8 B (l_ u a.env)).any (·.1)=D:=by rfl):PE a (.Call (.Name b p) (f::u) [] B) (tCB r t):=by intro i s e H Q I h;refine S_ (gg I y w q ?_ v d);exact Vn (è (E B i s e H _ I h) λk m⟨j,H1,P,n,o⟩=>A i m e H1 j k Q P n o) z c
def lE{t:TA}{T:String}{r:List V->Hp->VK->Prop}(z:kO a (.type T) r)(w:Gl a b)(v:a.mg b=U)(o:TC b=Z (.type T))(A:PA a (f::u) t)(q:b≠"__name__":=by decide)(d:(b==("__debug__":Str))=D:=by decide)(y:l_ (f::u) a.env=(D,eval f a.env)::l_ u a.env:=by rfl)(c:(R8 B (l_ u a.env)).any (·.1)=D:=by rfl):PE a (.Call (.Name b p) (f::u) [] B) (tCB r t):=by intro g s e H Q I h;refine S_ (gg I w v o ?_ q d);exact S6 (è (A B g s e H _ I h) λj k⟨i,P,E,m,n⟩=>z g k e P i j Q E m n) y c
end L2
variable{θ:List L2.V}{E:List R}{g:L2.Hp}{e r:O}{ω:L2.Hp}{Ε:List O}{a:L2.C}{H:List (O×Obj)}{Ã:List (Option L2.V)}{v:List Str}{Å:VB}{w:x_}{ν:R->g_->Prop}{b:Str}{Γ:L2.V}{Ζ:R}{p:Pos}{Ω:L2.St}{Â:R->g_->Prop}{f:u_}{À:L2.TE}{y:u_}{u:List u_}{s:d_}{Ä:List S7}{τ:S7}{m:Nat}{B:Pos}{υ:Array R}{i:Int}{t π:Bool}{j:Str}{Ç:L2.VK}{Η:Str->Option R}{χ:O}{Ψ:SO}{ι:TF}
namespace HT
def cat_tup{b:List R}(A:F' d.heap e E.toArray)(B:F' d.heap r b.toArray)(t:E≠[])(P:b=[]->Â (.ref e) d)(H:b≠[]->Â (.ref d.heap.objs.size) {d with heap:=d.heap.push {cls:=.type "tuple",data:=.seq (E++b).toArray}})(m:E.length+b.length<=sizeLine):t_ (y_ q o) w (UX .Add (.ref e) (.ref r)) Â ν d:=by
 obtain⟨⟨cls,y,data,p⟩,k,v,n,u⟩:=id A;obtain⟨⟨z,i,data2,f⟩,c,h,s,g⟩:=id B;simp only at v u h g;subst v u h g;have a:E.toArray++b.toArray=(E++b).toArray:=by simp
 by_cases j:b=[]
 ·exact ZM ⟨_,k,rfl⟩ ⟨_,c,rfl⟩ X3 Zu Wx Wh (V4 _ _) (tuple_addW1 e r E.toArray b.toArray n s y i p f (by simpa using t) (by simp[j])) ⟨k,c,P j⟩
 ·refine ZM ⟨_,k,rfl⟩ ⟨_,c,rfl⟩ X3 Zu Wx Wh (V4 _ _) (tuple_addW2 e r E.toArray b.toArray n s y i p f (by simpa using t) (by simpa using j) (by rw[G_,G_];exact m)) ⟨k,c,?_⟩;rw[a];exact H j
def sIx(n d:Nat):Option Int->Nat|none=>d|some v=>if v<0 then(v+(n:Int)).toNat else min v.toNat n
def JI(n d:Nat)(b:d<=n)(o:Option Int):sIx n d o<=n:=by cases o with|none=>exact b|some v=>
 show(if v<0 then(v+(n:Int)).toNat else min v.toNat n)<=n;by_cases a:v<0;·rw[if_pos a];omega
 ·rw[if_neg a];exact aag _ _
def xx(v:Int)(n d:Nat):(if v<0 then max (v+(n:Int)) 0 else min v (n:Int))=((sIx n d (Z v):Nat):Int):=by
 show(if v<0 then max (v+(n:Int)) 0 else min v (n:Int))=(((if v<0 then(v+(n:Int)).toNat else min v.toNat n):Nat):Int);by_cases a:v<0;·simp only[if_pos a];omega
 ·simp only[if_neg a];omega
def vV(a b:Option Int)(n:Nat):VZ a b 1 (n:Int)=(((sIx n 0 a:Nat):Int),((sIx n n b:Nat):Int)):=by
 have c:¬((1:Int)<0):=by omega
 unfold VZ;simp only[c,if_false];refine Prod.ext ?_ ?_;·cases a with|none=>rfl|some v=>exact xx v n 0
 ·cases b with|none=>rfl|some v=>exact xx v n n
def vW(i j:Nat):UM (i:Int) (j:Int) 1=j-i:=by
 unfold UM;have a:(1:Int)>0:=by omega
 simp only[a,if_true,Int.ediv_one];split<;>omega
variable{Β:Option Int}
def nh{Q:Option Int->g_->Prop}(p:Yu Ζ Β)(h:Q Β d):t_ (y_ q o) w (Builtin.Slice.slicePartIndex Ζ) Q ν d:=by cases p with|none=>exact slicePart_none h|int i t=>exact slicePart_int h
variable{Κ:Option Int}
def sliceApplied_gen{f:R}{Q:Int×Int×Nat->g_->Prop}(j:d.heap.IsSliceOf e Ζ f .none)(i:Yu Ζ Β)(g:Yu f Κ)(h:Q (((sIx c 0 Β:Nat):Int),1,sIx c c Κ-sIx c 0 Β) d):t_ (y_ q o) w (XA (.ref e) (pure (c:Int))) Q ν d:=by obtain⟨os,a,k,b⟩:=id j;unfold XA Builtin.Slice.sliceFields;refine c_ (c_ (Ts a b (x:=Ζ) rfl (c_ (Ts a b (x:=f) rfl (c_ (Ts a b (x:=.none) rfl (j_ ?_)))))));refine c_ (slicePart_none ?_);show t_ _ _ (if((1:Int)==0)=L then _ else _) _ _ d;rw[if_neg (by decide)];refine c_ (nh i (c_ (nh g (c_ (j_ ?_)))));show t_ _ _ (match VZ Β Κ 1 (c:Int)with|(Β,Κ)=>pure (Β,(1:Int),UM Β Κ 1)) _ _ d;rw[vV Β Κ c];show t_ _ _ (pure (((sIx c 0 Β:Nat):Int),(1:Int),UM ((sIx c 0 Β:Nat):Int) ((sIx c c Κ:Nat):Int) 1)) _ _ d;rw[vW];exact j_ h
def Bt(a:Array R)(i k:Nat):((rl k).filterMap λ(m:Nat)=>a[((i:Int)+(m:Int)*1).toNat]?).toArray=((a.toList.drop i).take k).toArray:=by
 have e:(λ(m:Nat)=>a[((i:Int)+(m:Int)*1).toNat]?)=λm=>a[i+m]?:=by
  funext m;have:((i:Int)+(m:Int)*1).toNat=i+m:=by omega
  rw[this]
 rw[e];have:=pick_run a i k;rw[XF]at this;have b:((λx=>a[x]?)∘λx=>i+x)=λm=>a[i+m]?:=rfl;rw[b]at this;rw[this]
def getItem_tuple_cut{k:R}(c:F' d.heap e υ)(m:d.heap.IsSliceOf r Ζ k .none)(p:Yu Ζ Β)(n:Yu k Κ)(s:¬(sIx υ.size 0 Β=0/\sIx υ.size υ.size Κ=υ.size))(h:Â (.ref d.heap.objs.size) {d with heap:=d.heap.push {cls:=.type "tuple",data:=.seq ((υ.toList.drop (sIx υ.size 0 Β)).take (sIx υ.size υ.size Κ-sIx υ.size 0 Β)).toArray}})(t:υ.size<=sizeLine):t_ (y_ q o) w (Yp (.ref e) (.ref r)) Â ν d:=by
 have b:sizeOk (.seq ((υ.toList.drop (sIx υ.size 0 Β)).take (sIx υ.size υ.size Κ-sIx υ.size 0 Β)).toArray):=by show((υ.toList.drop (sIx υ.size 0 Β)).take (sIx υ.size υ.size Κ-sIx υ.size 0 Β)).toArray.size<=sizeLine;rw[G_,Yi,WQ,Sx];omega
 have z:sIx υ.size υ.size Κ<=υ.size:=JI _ _ (r_ _) Κ;obtain⟨os,f,i,u⟩:=id m;have j:d.TypeIs (.ref r) "slice":=⟨os,f,i⟩;unfold Yp;try with_reducible refine SL ?_
 first|refine c_ (j_ ?_)|skip
 refine c_ (wpAny_sequenceKey c.typeIs (by decide) ?_);refine c_ (Sz (name:=b_ "__getitem__") c.typeIs S8 (SY S8 c.typeIs entry_tuple_getitem ?_ (args_tuple_getitem _ _)));show t_ _ _ (Xz (.ref e)>>=_) _ _ d;refine c_ (tupleItemsOf_ c ?_);refine c_ (UU j ?_);rw[if_pos (by decide)];refine c_ (sliceApplied_gen m p n ?_);have g:¬((((sIx υ.size 0 Β:Nat):Int)==0&&(1:Int)==1&&(sIx υ.size υ.size Κ-sIx υ.size 0 Β)==υ.size)=L):=by intro a;rw[pi,pi]at a;have y:((sIx υ.size 0 Β:Nat):Int)=0:=WT a.1.1;have v:sIx υ.size υ.size Κ-sIx υ.size 0 Β=υ.size:=WT a.2;exact s ⟨by omega,by omega⟩
 show t_ _ _ (if(((sIx υ.size 0 Β:Nat):Int)==0&&(1:Int)==1&&(sIx υ.size υ.size Κ-sIx υ.size 0 Β)==υ.size)=L then _ else _) _ _ d;rw[if_neg g,Bt];first|exact c_ (m:=Vb _) (Sv (j_ ⟨_,rfl,j_ h⟩) b)|exact c_ (m:=Vb _) (Sv (c_ (j_ (j_ ⟨_,rfl,j_ h⟩))) b)|exact c_ (c_ (m:=Vb _) (Sv (j_ (j_ ⟨_,rfl,j_ h⟩)) b))|exact c_ (c_ (m:=Vb _) (Sv (j_ ⟨_,rfl,j_ h⟩) b))
end HT
variable{Β Κ:Option Int}
namespace L2
abbrev TO:=St->Hp->(Option Int->Hp->Prop)->Prop
def PO(X:C)(e:Option u_)(t:TO):Prop:=∀(b:List (O×Obj))(s:g_)(a:St)(H:Hp)(Q:Option Int->Hp->Prop),Ë X b a H s->t a H Q->t_ (y_ X.prog X.w) X.A (evalPart e X.env) (λu d=>∃o c,Ë X b a c d/\Yu u o/\Q o c) X.xe s
def Fp:TO:=λ_ H Q=>Q U H
def Oo(t:TE):TO:=λa H Q=>t a H λx b=>∃i,x=.int i/\Q (Z i) b
def Fq:PO a U Fp:=by intro c s b H Q I h;rw[evalPart_none];exact j_ ⟨U,H,I,.none,h⟩
def Ft(h:PE a f À):PO a (Z f) (Oo À):=by intro g s b H Q I e;rw[evalPart_some];refine è (h g s b H _ I e) λu m⟨x,k,j,c,d⟩=>?_;obtain⟨i,rfl,q⟩:=d;obtain⟨t,rfl⟩:=c;exact⟨Z i,k,j,.int i t,q⟩
def Ų(X:C)(r:V->Option Int->Option Int->Hp->VK->Prop):Prop:=∀(f:List (O×Obj))(s:g_)(a:St)(H:Hp)(x:V)(v c b:R)(lo e:Option Int)(d:O)(Q:VK),Ë X f a H s->Ú x v->s.heap.IsSliceOf d c b .none->Yu c lo->Yu b e->r x lo e H Q->∃T id,typeLookup (.type T) "__getitem__"=pure (Z (.builtin id))/\s.TypeIs v T/\t_ (y_ X.prog X.w) X.A (Yp v (.ref d)) (EP X f a Q) X.xe s
def Ų.or{r i:V->Option Int->Option Int->Hp->VK->Prop}(h:Ų a r)(n:Ų a i):Ų a (λx lo b H Q=>r x lo b H Q\/i x lo b H Q):=by
 intro m s c H x v e d lo b f Q I g k pl j q;rcases q with q|q;·exact h m s c H x v e d lo b f Q I g k pl j q
 ·exact n m s c H x v e d lo b f Q I g k pl j q
def tSl(r:V->Option Int->Option Int->Hp->VK->Prop)(d:TE)(b c:TO):TE:=λa H Q=>d a H λx g=>b a g λl f=>c a f λu e=>r x l u e Q
def uf{j k:Option u_}{m n:TO}{r:V->Option Int->Option Int->Hp->VK->Prop}(hr:Ų a r)(he:PE a f À)(hl:PO a j m)(hu:PO a k n):PE a (.Subscript f (.Slice j k U B) p) (tSl r À m n):=by intro e s d H Q I h;refine Subscript_ (è (he e s d H _ I h) λv w⟨x,H1,I1,y,E⟩=>?_);refine wpAny_Slice (è (hl e w d H1 _ I1 E) λi t⟨l,H2,I2,pl,A⟩=>è (hu e t d H2 _ I2 A) λg c⟨u,o,I3,P,z⟩=>?_);rw[evalPart_none];refine j_ ?_;have I4:Ë a e d o {c with heap:=c.heap.push {cls:=.type "slice",data:=.fields #[i,g,.none]}}:=I3.kept (t':=c.toks) λb ob q=>i_ _ q;obtain⟨T,id,hT,ht,hg⟩:=hr e {c with heap:=c.heap.push {cls:=.type "slice",data:=.fields #[i,g,.none]}} d o x v i g l u c.heap.objs.size Q I4 y (Heap.IsSliceOf.new ..) pl P z;show t_ (y_ a.prog a.w) a.A (subscriptTail f (.Slice j k U B) v (.ref c.heap.objs.size)) (EP a e d Q) a.xe {c with heap:=c.heap.push {cls:=.type "slice",data:=.fields #[i,g,.none]}};exact tail_any (ops:=[.ref c.heap.objs.size,v]) ht hT hg (by with_unfolding_all rfl)
def Bu(a:List V)(b c:Option Int):List V:=(a.drop (HT.sIx a.length 0 b)).take (HT.sIx a.length a.length c-HT.sIx a.length 0 b)
def lF(a:List V)(b c:Option Int):(Bu a b c).length<=a.length:=by unfold Bu;rw[Yi,WQ];omega
def Rk(K:d_):V->Option Int->Option Int->Hp->VK->Prop:=λx lo c H Q=>∃a b,x=.ref a/\ö K H a b/\¬(HT.sIx b.length 0 lo=0/\HT.sIx b.length b.length c=b.length)/\∀p,H p=U->Q (.ref p) (Ý H p (.tup (Bu b lo c)))
def sl_tup:Ų a (Rk a.K):=by
 intro A s t H x v w u lo f y Q I k p pl m h;obtain⟨c,e,rfl,n,o,q⟩:=h;cases k;obtain⟨g,r,j,i⟩:=I.tuple n;have d:g.toArray.size=e.length:=by rw[G_];exact r.length.symm
 refine⟨"tuple",_,S8.lookup,j.typeIs,?_⟩;refine HT.getItem_tuple_cut j p pl m (by rw[d];exact o) ?_ (by rw[d];exact i);rw[d];refine⟨.ref s.heap.objs.size,_,I.laid (t':=s.toks) (o:=.tup (Bu e lo f)) (λb z q=>i_ _ q) (r_ _) ?_,rfl,q _ (I.hok.fresh (r_ _))⟩;exact⟨RZ (lF e lo f) i,_,(r.drop (HT.sIx e.length 0 lo)).take (HT.sIx e.length e.length f-HT.sIx e.length 0 lo),aa2 _ _⟩
def JJ(K:d_):R2:=λx y H Q=>∃a b d c,x=.ref a/\y=.ref b/\ö K H a d/\ö K H b c/\d≠[]/\d.length+c.length<=sizeLine/\(c=[]->Q (.ref a) H)/\(c≠[]->∀p,H p=U->Q (.ref p) (Ý H p (.tup (d++c))))
def Î.nil_iff(r:Î θ E):E=[]↔θ=[]:=by cases r with|nil=>simp|cons _ _=>simp
def op_catT:õ a (UX .Add) (JJ a.K):=by intro f' s P H x y v u Q I m k h;obtain⟨c,b,j,i,rfl,rfl,B,A,t,f,o,n⟩:=h;cases m;cases k;obtain⟨E,e,r,_⟩:=I.tuple B;obtain⟨g,d,p,_⟩:=I.tuple A;refine HT.cat_tup r p (λz=>t (e.nil_iff.mp z)) (λz=>⟨.ref c,H,I,rfl,o (d.nil_iff.mp z)⟩) (λz=>?_) (by rw[<-e.length,<-d.length];exact f);refine⟨.ref s.heap.objs.size,_,I.laid (t':=s.toks) (o:=.tup (j++i)) (λb ob q=>i_ _ q) (r_ _) ?_,rfl,n (λw=>z (d.nil_iff.mpr w)) _ (I.hok.fresh (r_ _))⟩;exact⟨by rw[SV];exact f,_,e.append d,aa2 _ _⟩
def Ź(n:Nat)(i:Int):Option Nat:=if 0<=i then(if i<n then Z i.toNat else U)else if-(n:Int)<=i then Z (i+n).toNat else U
def K'(a:List z)(i:Int):Option z:=(Ź a.length i).bind λj=>a[j]?
def xz(h:Ź c i=Z m):seqIndex? i c=Z m/\m<c/\-(c:Int)<=i/\i<c:=by
 unfold Ź at h;by_cases b:0<=i
 · rw[if_pos b]at h;by_cases a:i<c;·rw[if_pos a]at h;have e:i.toNat=m:=Sd h;exact⟨by rw[aan b a,e],by omega,by omega,a⟩
   ·rw[if_neg a]at h;cases h
 · rw[if_neg b]at h;by_cases a:-(c:Int)<=i;·rw[if_pos a]at h;have e:(i+c).toNat=m:=Sd h;exact⟨by rw[seqIndex_neg (by omega) a,e],by omega,a,by omega⟩
   ·rw[if_neg a]at h;cases h
def sn{a:List z}(h:K' a i=Z É):∃j,seqIndex? i a.length=Z j/\a[j]?=Z É/\j<a.length/\-(a.length:Int)<=i/\i<a.length:=by unfold K' at h;cases e:Ź a.length i with|none=>rw[e]at h;cases h|some j=>rw[e]at h;obtain⟨f,d,c,b⟩:=xz e;exact⟨j,f,h,d,c,b⟩
def xA(b:u_):Prop:=∀o i,aal b D o i=operate [o,i] (Yp o i)
def Ŭ(X:C)(r:R2):Prop:=∀(b a:u_)(d:List (O×Obj))(s:g_)(c:St)(H:Hp)(x y:V)(v u:R)(Q:VK),Ë X d c H s->Ú x v->Ú y u->r x y H Q->aal a D v u=operate [v,u] (Yp v u)->t_ (y_ X.prog X.w) X.A (subscriptTail b a v u) (EP X d c Q) X.xe s
def ŉ(X:C)(e:String)(r:V->List V->Hp->VK->Prop):Prop:=∀(d:List (O×Obj))(s:g_)(a:St)(H:Hp)(x:V)(b:List V)(v:R)(c:List R)(Q:VK),Ë X d a H s->Ú x v->Î b c->r x b H Q->t_ (y_ X.prog X.w) X.A (call (.builtin e) (v::c)) (EP X d a Q) X.xe s
def Ŭ.or{r g:R2}(h:Ŭ a r)(k:Ŭ a g):Ŭ a (λx y H Q=>r x y H Q\/g x y H Q):=by
 intro b c j s d H x y v u Q I f e q i;rcases q with q|q;·exact h b c j s d H x y v u Q I f e q i
 ·exact k b c j s d H x y v u Q I f e q i
def Op{c:TE}{r:R2}(k:Ŭ a r)(n:PE a f À)(m:PE a y c)(j:xA y):PE a (.Subscript f y p) (G' r À c):=by intro o s d H Q I h;exact Subscript_ (Oc n m I h λv u e x b w t i g q=>k f y o e d w x b v u Q t i g q (j _ _))
def Qv(K:d_):R2:=λx y H Q=>∃p a i v,x=.ref p/\y=.int i/\Ć K H p a/\K' a i=Z v/\Q v H
def Qw(K:d_):R2:=λx y H Q=>∃p a i v,x=.ref p/\y=.int i/\ö K H p a/\K' a i=Z v/\Q v H
def Qx:R2:=λx y H Q=>∃z i c,x=.str z/\y=.int i/\z.length<=sizeLine/\K' z.cps.toList i=Z c/\Q (.str ⟨#[c]⟩) H
def ix_list:Ŭ a (Qv a.K):=by
 intro g k A s m H x y v u Q I rx P h n;obtain⟨p,xs,i,z,rfl,rfl,hq,he,q⟩:=h;cases rx;obtain⟨t,rfl⟩:=P;obtain⟨f,r,pl,hz⟩:=I.list hq;obtain⟨j,c,h2,h3,h4,h5⟩:=sn he;obtain⟨w,B,e⟩:=r.get h2;have hl:=r.length;have hn:=pV;have b:EP a A m Q w s:=⟨z,H,I,e,q⟩;by_cases o:0<=i
 · have d:i.toNat=j:=by rw[aan o h5]at c;exact Sd c
   exact item_listR pl.isList o (by omega) (by rw[d];simpa using B) b n
 · have d:(i+(f.toArray.size:Int)).toNat=j:=by rw[seqIndex_neg (by omega) h4]at c;rw[G_,<-hl];exact Sd c
   exact Yw (x:=w) pl.isList.typeIs slot_list_getitem.lookup (wpAny_getItem_list_neg (Q:=λr E=>r=w/\EP a A m Q r E) pl.isList (by omega) (by rw[G_]<;>omega) (by omega) (by rw[d];simpa using B) ⟨rfl,b⟩) n
def ix_tup:Ŭ a (Qw a.K):=by intro d e g s f H x y v u Q I n m h o;obtain⟨p,xs,i,z,rfl,rfl,A,E,q⟩:=h;cases n;obtain⟨t,rfl⟩:=m;obtain⟨a',r,pl,hz⟩:=I.tuple A;obtain⟨j,h1,P,h3,h4,h5⟩:=sn E;obtain⟨w,ew,b⟩:=r.get P;have B:=r.length;have hn:=pV;have c:EP a g f Q w s:=⟨z,H,I,b,q⟩;exact Yw (x:=w) pl.typeIs slot_tuple_getitem.lookup (getItem_tuple (j:=j) (Q:=λr k=>r=w/\EP a g f Q r k) pl (by omega) (by omega) (by rw[G_,<-B];exact h1) (by simpa using ew) ⟨rfl,c⟩) o
def JK:Ŭ a Qx:=by
 intro b d f' s B H x y v u Q I g f h k;obtain⟨z,i,c,rfl,rfl,P,n,q⟩:=h;obtain⟨t,rfl⟩:=g;obtain⟨E,rfl⟩:=f;obtain⟨j,e,r,h3,p,o⟩:=sn n;have m:z.cps.toList.length=z.length:=by simp[Xv]
 rw[m]at e p o;have hn:=pV;exact tail_any (V_ s z t) slot_str_getitem.lookup (getItem_str (c:=c) (by have A:uk (i< -(2^63:Int))=D:=decide_eq_false (by omega);have w:uk (i>=2^63)=D:=decide_eq_false (by omega);rw[A,w,Bool.or_false]) (by rw[e];simpa using r) ⟨.str ⟨#[c]⟩,H,I.tok _,⟨_,rfl⟩,q⟩) k
def rIx(K:d_):R2:=λx y H Q=>Qv K x y H Q\/Qw K x y H Q\/Qx x y H Q
def JL:Ŭ a (rIx a.K):=ix_list.or (ix_tup.or JK)
def vX(a:List R)(n j:Nat)(u:R):J_ (·.setIfInBounds j u) {cls:=.type "list",data:=.seq a.toArray n}={cls:=.type "list",data:=.seq (a.set j u).toArray n}:=by simp[J_]
def Ë.lst(I:Ë a H Ω g d)(h:g e=Z (.lst θ)):∃(c:List R)(n:Nat),Î θ c/\d.heap.get? e=Z {cls:=.type "list",data:=.seq c.toArray n}/\θ.length<=sizeLine:=by obtain⟨z,c,n,r,b⟩:=I.hok e _ h;exact⟨c,n,r,b,z⟩
def Ë.lstUpd{k:List V}{j:List R}{f:Obj->Obj}(I:Ë a H Ω g d)(h:g e=Z (.lst θ))(p:d.heap.get? e=Z {cls:=.type "list",data:=.seq E.toArray c})(n:f {cls:=.type "list",data:=.seq E.toArray c}={cls:=.type "list",data:=.seq j.toArray m})(r:Î k j)(o:k.length<=sizeLine)(t:Nat):Ë a H Ω (Ý g e (.lst k)) {d with heap:=d.heap.update e f,toks:=t}:=by
 have i:(d.heap.update e f).get? e=Z {cls:=.type "list",data:=.seq j.toArray m}:=by rw[Tv f p (by rw[n]<;>rfl),n]
 refine I.write (x:=e) (e:=e) (by rw[h];trivial) (.inl rfl) (λb u s q=>(Ut _ _ (Vg s)).trans q) ⟨_,i⟩ ?_;exact⟨o,j,m,r,i⟩
def Oq:V->V->V->Hp->(Hp->Prop)->Prop:=λo i v H Q=>∃p a k j,o=.ref p/\i=.int k/\H p=Z (.lst a)/\Ź a.length k=Z j/\Q (Ý H p (.lst (a.set j v)))
def Bv:Qp a Oq:=by
 intro f' s A H o i v ov iv u Q I P ri E h;obtain⟨p,B,k,j,rfl,rfl,g,hj,q⟩:=h;cases P;obtain⟨t,rfl⟩:=ri;obtain⟨b,n,r,d,hz⟩:=I.lst g;obtain⟨c,h2,w,m⟩:=xz hj;have e:=r.length;have hn:=pV;have z:Ë a f' A (Ý H p (.lst (B.set j v))) {s with heap:=s.heap.update p (J_ (·.setIfInBounds j u))}:=I.lstUpd g d (vX b n j u) (r.set E j) (by rw[SF];exact hz) s.toks;by_cases y:0<=k
 · have f:k.toNat=j:=by rw[aan y m]at c;exact Sd c
   exact PySem.W.ki_setAt d y (by omega) (by rw[G_,<-e];exact m) (by rw[f];exact⟨_,z,q⟩)
 · have f:(k+(b.toArray.size:Int)).toNat=j:=by rw[seqIndex_neg (by omega) w]at c;rw[G_,<-e];exact Sd c
   exact PySem.W.ki_setBack d (by omega) (by rw[G_,<-e];exact w) (by omega) (by rw[f];exact⟨_,z,q⟩)
def p9(a b:Option Int)(n:Nat):(We a b U n).1=((HT.sIx n 0 a:Nat):Int)/\(We a b U n).2.1=((HT.sIx n n b:Nat):Int)/\(We a b U n).2.2=1:=by
 refine⟨?_,?_,rfl⟩;·cases a with|none=>simp[We,HT.sIx]|some i=>
  simp only[We,HT.sIx,aaf,show(1:Int)>0 by decide,if_true];by_cases h:i<0;·simp only[h,if_true]<;>omega
  ·simp only[h,if_false]<;>omega
 ·cases b with|none=>simp[We,HT.sIx]|some i=>
  simp only[We,HT.sIx,aaf,show(1:Int)>0 by decide,if_true];by_cases h:i<0;·simp only[h,if_true]<;>omega
  ·simp only[h,if_false]<;>omega
def ou(a:List R)(b c:Option Int):slicePick a.toArray b c U=((a.drop (HT.sIx a.length 0 b)).take (HT.sIx a.length a.length c-HT.sIx a.length 0 b)).toArray:=by obtain⟨f,e,d⟩:=p9 b c a.toArray.size;unfold slicePick;rw[f,e,d];simp only[sliceRange_one,pick_run,G_]<;>rfl
def Rl(K:d_):V->Option Int->Option Int->Hp->VK->Prop:=λx lo c H Q=>∃a b,x=.ref a/\Ć K H a b/\∀p,H p=U->Q (.ref p) (Ý H p (.lst (Bu b lo c)))
def xB:Ų a (Rl a.K):=by intro z s p H x v u t lo f w Q I i n pl j h;obtain⟨c,d,rfl,m,q⟩:=h;cases i;obtain⟨o,r,g,k⟩:=I.list m;have e:=r.length;refine⟨"list",_,slot_list_getitem.lookup,g.isList.typeIs,?_⟩;refine wpAny_getItem_list_slice g.isList n pl j .none (by simp) ?_ (by rw[G_]<;>omega);rw[ou,<-e];refine⟨.ref s.heap.objs.size,_,I.laid (t':=s.toks) (o:=.lst (Bu d lo f)) (λb y q=>i_ _ q) (r_ _) ?_,rfl,q _ (I.hok.fresh (r_ _))⟩;exact⟨RZ (lF d lo f) k,_,0,(r.drop (HT.sIx d.length 0 lo)).take (HT.sIx d.length d.length f-HT.sIx d.length 0 lo),n_ _ rfl⟩
def hZ:V->Bool|.non=>L|.bl _=>L|.int _=>L|.str _=>L|_=>D
def ĭ:V->V->Bool|.non,.non=>L|.bl a,.bl b=>a==b|.bl a,.int b=>(if a then 1 else 0)==b|.int a,.bl b=>a==(if b then 1 else 0)|.int a,.int b=>a==b|.str a,.str b=>a==b|_,_=>D
def JM{x:V}{v:R}(f:Ú Γ Ζ)(c:Ú x v)(h:hZ Γ=L)(g:hZ x=L):SeqAt.EqAt w d Ζ v (ĭ Γ x):=by cases Γ with
 |non=>cases f;cases x with|non=>cases c;exact SeqAt.EqAt.same _|bl b=>cases c;exact SeqAt.EqAt.none_bool b|int b=>obtain⟨t,rfl⟩:=c;exact SeqAt.EqAt.none_int b t|str b=>obtain⟨t,rfl⟩:=c;exact SeqAt.EqAt.none_str b t|_=>exact absurd (show D=L from g) C_
 |bl a=>cases f;cases x with|non=>cases c;exact SeqAt.EqAt.bool_none a|bl b=>cases c;exact Y3 a b|int b=>obtain⟨t,rfl⟩:=c;exact SeqAt.EqAt.bool_int a b t|str b=>obtain⟨t,rfl⟩:=c;exact SeqAt.EqAt.bool_str a b t|_=>exact absurd (show D=L from g) C_
 |int a=>obtain⟨e,rfl⟩:=f;cases x with|non=>cases c;exact SeqAt.EqAt.int_none a e|bl b=>cases c;exact SeqAt.EqAt.int_bool a e b|int b=>obtain⟨t,rfl⟩:=c;exact SeqAt.EqAt.int_int a e b t|str b=>obtain⟨t,rfl⟩:=c;exact ZC a e b t|_=>exact absurd (show D=L from g) C_
 |str a=>obtain⟨e,rfl⟩:=f;cases x with|non=>cases c;exact SeqAt.EqAt.str_none a e|bl b=>cases c;exact SeqAt.EqAt.str_bool a e b|int b=>obtain⟨t,rfl⟩:=c;exact ZB a e b t|str b=>obtain⟨t,rfl⟩:=c;exact SeqAt.EqAt.str_str a e b t|_=>exact absurd (show D=L from g) C_
 |_=>exact absurd (show D=L from h) C_
def Ĭ(x:V)(u:R):Bool:=match u with|.none=>ĭ .non x|.bool b=>ĭ (.bl b) x|.int i _=>ĭ (.int i) x|.str z _=>ĭ (.str z) x|_=>D
def ug{y:V}(r:Ú y Ζ)(f:hZ y=L):Ĭ Γ Ζ=ĭ y Γ:=by cases y with|non=>cases r;rfl|bl b=>cases r;rfl|int i=>obtain⟨t,rfl⟩:=r;rfl|str z=>obtain⟨t,rfl⟩:=r;rfl|_=>exact absurd (show D=L from f) C_
def lG{x:V}:∀{a:List V}{b:List R},Î a b->a.all hZ=L->b.any (Ĭ x)=a.any λy=>ĭ y x|_,_,.nil,_=>rfl|y::a,u::b,.cons r t,f=>by rw[Tn,pi]at f;rw[WW,WW,ug r f.1,lG t f.2]
def gL{A:x_}{s:g_}{x:V}{v:R}(d:Ú x v)(e:hZ x=L):∀{b:List V}{c:List R},Î b c->b.all hZ=L->∀u∈c,SeqAt.EqAt A s u v (Ĭ x u)
 |_,_,.nil,_=>λu a=>by cases a|y::b,u::c,.cons r t,f=>λg a=>by
  rw[Tn,pi]at f;rcases w_.mp a with rfl|a;·rw[ug r f.1];exact JM r d f.1 e
  ·exact gL d e t f.2 g a
def inV(x:V)(a:List V):Bool:=a.any λy=>ĭ y x
def rIn(K:d_)(b:Bool):R2:=λx y H Q=>∃p a,y=.ref p/\(Ć K H p a\/ö K H p a)/\hZ x=L/\a.all hZ=L/\Q (.bl (if b then !inV x a else inV x a)) H
def xC:õ a (So .In) (rIn a.K D):=by
 intro m s j H x y v u Q I e g h;obtain⟨p,k,rfl,c,f,fs,q⟩:=h;cases g;rcases c with c|c;·obtain⟨b,r,pl,i⟩:=I.list c;refine SeqAt.in_listAt (Ĭ x) pl.isList (λw d=>gL e f r fs w (by simpa using d)) ⟨.bl _,H,I,rfl,?_⟩;rw[show b.toArray.any (Ĭ x)=b.any (Ĭ x)by simp,lG r fs];exact q
 ·obtain⟨b,r,pl,i⟩:=I.tuple c;refine SeqAt.in_tupleAt (Ĭ x) pl (λw d=>gL e f r fs w (by simpa using d)) ⟨.bl _,H,I,rfl,?_⟩;rw[show b.toArray.any (Ĭ x)=b.any (Ĭ x)by simp,lG r fs];exact q
def qc:õ a (So .NotIn) (rIn a.K L):=by
 intro m s j H x y v u Q I e g h;obtain⟨p,k,rfl,c,f,fs,q⟩:=h;cases g;rcases c with c|c;·obtain⟨b,r,pl,i⟩:=I.list c;refine SeqAt.notIn_listAt (Ĭ x) pl.isList (λw d=>gL e f r fs w (by simpa using d)) ⟨.bl _,H,I,rfl,?_⟩;rw[show b.toArray.any (Ĭ x)=b.any (Ĭ x)by simp,lG r fs];exact q
 ·obtain⟨b,r,pl,i⟩:=I.tuple c;refine SeqAt.notIn_tupleAt (Ĭ x) pl (λw d=>gL e f r fs w (by simpa using d)) ⟨.bl _,H,I,rfl,?_⟩;rw[show b.toArray.any (Ĭ x)=b.any (Ĭ x)by simp,lG r fs];exact q
def op_notIn_str:õ a (So .NotIn) (λx y H Q=>∃i j,x=.str i/\y=.str j/\Q (.bl (!(!(Ss j i 0 j.length 1).isEmpty))) H):=by intro f s d H x y v u Q I c b h;obtain⟨i,j,rfl,rfl,q⟩:=h;obtain⟨t,rfl⟩:=c;obtain⟨e,rfl⟩:=b;exact notIn_str ⟨.bl _,H,I,rfl,q⟩
def ow:kO a (.type "tuple") (λk H Q=>∃p d,k=[.ref p]/\((Ć a.K H p d/\∀l,H l=U->Q (.ref l) (Ý H l (.tup d)))\/(ö a.K H p d/\Q (.ref p) H))):=by
 intro n s j H k z Q I r h;obtain⟨p,d,rfl,h⟩:=h;obtain⟨u,rfl,w⟩:=eD r;cases w;rcases h with⟨i,q⟩|⟨i,q⟩
 ·obtain⟨c,g,pl,m⟩:=I.list i;have v:=g.length;refine call_tuple_list pl.isList (λf kp=>?_) (by simp only[G_]<;>omega);have t:Ë a n j H {s with heap:=f}:=I.kept (t':=s.toks) kp;have y:Ë a n j (Ý H f.objs.size (.tup d)) {s with heap:=f.push {cls:=.type "tuple",data:=.seq c.toArray}}:=t.laid (t':=s.toks) (λb o e=>i_ _ e) (r_ _) (show ì a.prog a.w _ _ _ (.tup d)from⟨m,c,g,aa2 _ _⟩);exact⟨.ref f.objs.size,_,y,rfl,q _ (t.hok.fresh (r_ _))⟩
 ·obtain⟨c,g,pl,m⟩:=I.tuple i;exact call_tuple_same pl ⟨.ref p,H,I,rfl,q⟩
def tyV(K:d_)(T:String)(x:V)(H:Hp):Prop:=match x with|.str _=>T="str"|.int _=>T="int"|.ref p=>(T="list"/\∃b,Ć K H p b)\/(T="tuple"/\∃o,K.lookup p=Z o/\o.cls=.type "tuple"/\o.dict=U)\/(T="dict"/\((∃a,H p=Z (.dK a))\/∃a,H p=Z (.dT a)))\/(T="set"/\∃S n,H p=Z (.set S n))|_=>False
def JN{T:String}(I:Ë a H Ω g d)(r:Ú Γ Ζ)(j:tyV a.K T Γ g):d.TypeIs Ζ T/\∀b,Ζ=.ref b->∃s,d.heap.get? b=Z s/\s.dict=U:=by cases Γ with
 |str z=>obtain⟨t,rfl⟩:=r;cases(show T="str"from j);exact⟨V_ d z t,λ_ e=>nomatch e⟩|int i=>obtain⟨t,rfl⟩:=r;cases(show T="int"from j);exact⟨typeIs_int d i t,λ_ e=>nomatch e⟩|ref p=>
 cases r;rcases j with⟨rfl,y,u⟩|⟨rfl,o,f,v,k⟩|⟨rfl,f⟩|⟨rfl,S,n,f⟩;·obtain⟨w,_,pl,_⟩:=I.list u;refine⟨pl.isList.typeIs,λb e=>?_⟩;cases e;obtain⟨o,n,e,c,k,_⟩:=pl;exact⟨o,e,k⟩
 ·refine⟨⟨o,I.kIn p o f,v⟩,λb e=>?_⟩;cases e;exact⟨o,I.kIn _ o f,k⟩
 · have z:∃o,d.heap.get? p=Z o/\o.ExactDict:=by
    rcases f with⟨q,f⟩|⟨q,f⟩;·obtain⟨_,_,_,_,o,_,_,e,h,_⟩:=I.hok p _ f;exact⟨o,e,h⟩
    ·obtain⟨_,_,_,_,o,_,_,e,h,_⟩:=I.hok p _ f;exact⟨o,e,h⟩
   obtain⟨o,e,h⟩:=z;refine⟨⟨o,e,h.1⟩,λb m=>?_⟩;cases m;exact⟨o,e,h.2.1⟩
 ·obtain⟨o,_,_,_,e,h,_⟩:=I.hok p _ f;refine⟨⟨o,e,h.1⟩,λb m=>?_⟩;cases m;exact⟨o,e,h.2.1⟩|_=>exact SK j
def tBM(K:d_)(T:String)(r:V->List V->Hp->VK->Prop)(d:TE)(t:TA):TE:=λa H Q=>d a H λx b=>tyV K T x b/\t a b λc e=>r x c e Q
def Bw{t:TA}{T j:String}{r:V->List V->Hp->VK->Prop}(pa:PlainAttrs T)(g:Slot T b j)(n:aaz (.builtin j)=pure (.type "method_descriptor"))(hm:ŉ a j r)(ho:PE a f À)(ha:PA a (y::u) t)(e:TU f b a.env (eval f a.env)=eval f a.env:=by rfl)(i:((R8 B (l_ (y::u) a.env)).all (λx=>!x.1)&&(Tx B (SN [] a.env)).all (λx=>x.1.isSome)&&uk ((y::u).length+([]:List Vw).length+(if([]:List Vw).isEmpty then 0 else 1)<30))=L:=by rfl)(d:(p.endLine==B.line)=L:=by rfl)(hs:l_ (y::u) a.env=(D,eval y a.env)::l_ u a.env:=by rfl)(c:(R8 B (l_ u a.env)).any (·.1)=D:=by rfl):PE a (.Call (.Attribute f b p) (y::u) [] B) (tBM a.K T r À t):=by intro m s k H Q I h;refine wpAny_Call_method_late e i d rfl (è (ho m s k H _ I h) λv P⟨x,H1,q,o,A,q1⟩=>?_);obtain⟨h1,h2⟩:=JN q o A;refine⟨T,j,pa,g,n,h1,h2,?_⟩;have hA:=ha B m P k H1 _ q q1;rw[hs]at hA⊢;refine Calls.callWith_builtin (by show(D||(R8 B (l_ u a.env)).any (·.1))=D;rw[c]<;>rfl) (Calls.evalArgs_plain ?_);exact è hA λz E⟨w,H2,I2,r2,q2⟩=>hm m E k H2 x w v z Q I2 o r2 q2
def MtM(X:C)(e:String)(r:V->List V->Hp->VK->Prop):Prop:=∀(d:List (O×Obj))(s:g_)(a:St)(H:Hp)(x:V)(b:List V)(v:R)(c:List R)(Q:VK),Ë X d a H s->Ú x v->Î b c->r x b H Q->t_ (y_ X.prog X.w) X.A (call (.builtin e) (v::c)) (EP X d a Q) X.xe s
def Î.one:∀{x:V}{a:List R},Î [x] a->∃u,a=[u]/\Ú x u|_,_,.cons r .nil=>⟨_,rfl,r⟩
def Î.two:∀{x y:V}{a:List R},Î [x,y] a->∃u v,a=[u,v]/\Ú x u/\Ú y v|_,_,_,.cons r (.cons q .nil)=>⟨_,_,rfl,r,q⟩
def Ë.lset{h:List V}{its':List R}{f:Array R->Array R}(I:Ë a H Ω g d)(p:g e=Z (.lst θ))(b:d.heap.get? e=Z {cls:=.type "list",data:=.seq E.toArray c})(n:f E.toArray=its'.toArray)(j:Î h its')(i:h.length<=sizeLine):Ë a H Ω (Ý g e (.lst h)) {d with heap:=d.heap.update e (J_ f),toks:=m}:=by have q:=aad b f;rw[n]at q;refine I.write (x:=e) (e:=e) (by rw[p];exact trivial) (.inl rfl) (λr u o k=>(Ut d.heap (J_ f) (Vg o)).trans k) ⟨_,q⟩ ?_;exact⟨i,its',_,j,q⟩
def Ë.lnew{ys:List V}{its:List R}{t':Nat}(I:Ë a H Ω g d)(c:Î ys its)(b:ys.length<=sizeLine):Ë a H Ω (Ý g d.heap.objs.size (.lst ys)) {d with heap:=d.heap.push {cls:=.type "list",data:=.seq its.toArray},toks:=t'}:=I.laid (λ_ _ q=>i_ _ q) (r_ _) ⟨b,its,0,c,n_ _ rfl⟩
def Ë.fresh(I:Ë a H Ω g d):g d.heap.objs.size=U:=I.hok.fresh (r_ _)
def Ë.lstM{l:O}{xs:List V}(I:Ë a H Ω g d)(c:g l=Z (.lst xs)):xs.length<=sizeLine/\∃(b:List R)(n:Nat),Î xs b/\xs.length=b.length/\d.heap.get? l=Z {cls:=.type "list",data:=.seq b.toArray n}:=by obtain⟨z,b,n,r,e⟩:=I.hok l _ c;exact⟨z,b,n,r,r.length,e⟩
def Fu:V->List V->Hp->VK->Prop:=λx b H Q=>∃l a y,x=.ref l/\b=[y]/\H l=Z (.lst a)/\a.length<sizeLine/\Q .non (Ý H l (.lst (a++[y])))
def xD:MtM a "list.append" Fu:=by intro t s i H x k v m Q I d f h;obtain⟨l,j,y,rfl,rfl,c,o,q⟩:=h;cases d;obtain⟨u,rfl,g⟩:=f.one;obtain⟨z,b,n,r,p,e⟩:=I.lstM c;refine Wa WZ ⟨_,e,rfl⟩ Zk (Y7 _ _) (ZL l b.toArray n u (by rw[G_];omega)) ⟨e,?_⟩;refine⟨.non,_,I.lset (its':=b++[u]) c e (by simp) (r.append (.cons g .nil)) ?_,rfl,q⟩;rw[SV,YS];omega
def Qy:R2:=λx y H Q=>∃l b c a,x=.ref l/\y=.ref b/\H l=Z (.lst c)/\H b=Z (.lst a)/\c.length+a.length<=sizeLine/\∀p,H p=U->Q (.ref p) (Ý H p (.lst (c++a)))
def JO:õ a (UX .Add) Qy:=by
 intro f' s p H x y v u Q I g f h;obtain⟨l,b,A,t,rfl,rfl,j,hB,E,q⟩:=h;cases g;cases f;obtain⟨z,d,n,r,P,e⟩:=I.lstM j;obtain⟨w,c,B,i,o,m⟩:=I.lstM hB;refine PySem.P.add_list e m ?_ (by rw[G_,G_];omega);have k:d.toArray++c.toArray=(d++c).toArray:=by simp
 rw[k];exact⟨.ref _,_,I.lnew (t':=s.toks) (r.append i) (by rw[SV];omega),rfl,q _ I.fresh⟩
end L2
namespace Att
open PySem.W PySem.Calls
def lH{c:W7}:∀(d:List Int)(e:List R),WellAll c P e (d.map WData.int)->Yy e d:=by intro d;induction d with|nil=>intro e w;rw[List.map_nil]at w;cases w;exact .nil|cons n d f=>intro e w;rw[K_]at w;cases w with|cons a b=>cases a;exact .cons _ _ (f _ b)
def xE{l:OpenLaw}(v:l.most=Z c){P:W7}{h:M_}{args:List WData}{e:List R}(f:l.row.toRowW.claim.pre args=L)(m:WellAll P h e args):∃a n b,e=[B_ a]/\args=[WData.list (b.map WData.int)]/\h.get? a=Z {cls:=.type "list",data:=.seq n.toArray}/\Yy n b/\b.length<=c:=by
 have Ĝ:WShape.hasAll [] args [.list .int]=L:=(pre_splitW f).1;have o:l.pre.holds [] {args:=args}=L:=(pre_splitW f).2;obtain⟨d,r,rfl,z,y⟩:=hasAllW_cons Ĝ;obtain rfl:=hasAllW_nil y;obtain⟨A,rfl,w⟩:=hasW_list z;obtain⟨b,rfl⟩:=items_int w;have g:b.length<=c:=by
  unfold OpenLaw.pre at o;have k:(WTm.not (.lt (.lit (.int (c:Int))) (.len (.arg 0)))).holds [] {args:=[.list (b.map .int)]}=L:=by have k:=(holds_andW o).1;rw[v]at k;exact k
  have j:=condW_of k (w_not (w_lt w_lit (w_len_list (w_arg rfl))));rw[E_]at j;refine Nat.le_of_not_lt λq=>?_;have t:(c:Int)<((b.length:Nat):Int):=by omega
  first|(rw[decide_eq_true t]at j;exact absurd j (by decide))|(simp at j;omega)
 cases m with|cons s p=>cases p;cases s with|list u i=>exact⟨_,_,b,rfl,rfl,u,lH b _ i,g⟩
def xF(l:OpenLaw)(args:List WData):l.row.toRowW.claim.post args (.bool L) args=L:=postW_of (r:=l.row.toRowW) (X:=(L==L)) (show WShape.has [] (.bool L) .bool=L by first|rfl|decide|simp[WShape.has,WShape.arms,WShape.armsAll]) (show(WTm.eq .res (.lit (.bool L))).value [] {args:=args,res:=Z (.bool L),after:=args}=Z (.bool (L==L))from w_eq_bool (w_res rfl) w_lit) rfl
def attach_call{l:OpenLaw}{XP:(Str->Option R)->M_->Prop}{YP:z_->M_->Prop}{d:DefRec}(hn:l.most=Z c)(H:d.params.defaults=[])(p:∀(w:z_)(e b:g_)(u A:Str->Option R)(j:O)(o:Obj)(z y g:R)(a:O)(i:List R)(t:List Int),Ground q v [] XP w e u A b.heap->YP w b.heap->b.heap.get? j=Z o->o.data=.func (docDef d.name d.params d.body d.scope z y g)->b.heap.CodeRec y d.name->u d.name=Z (.ref j)->b.heap.get? a=Z {cls:=.type "list",data:=.seq i.toArray}->Yy i t->t.length<=c->b.gens=#[]->Vf (y_ l.prog w) Zg (.call (.ref j) ⟨[.ref a],[]⟩) (λr s=>r=.ok (.ret (.bool L))/\OldK b.heap s.heap/\s.os=b.os/\XO s.gens) b):WalkO q v XP YP l.row.toRowW d [] (λf i=>aaF f i):=by intro w e b u A G Y j o z y g dV kV ho hd P hD E hg c' a' as k b' d' B e';obtain rfl:dV=.none:=Dflts.none hD H;obtain rfl:kV=.none:=Dflts.noKw hD;obtain⟨a,i,t,rfl,rfl,m,h,n⟩:=xE hn k B;refine enter_call (TX (p w e b u A j o z y g a i t G Y ho (fd_plain hd) P E m h n hg) λr s hq=>?_);obtain⟨rfl,h2,h3,h4⟩:=hq;exact⟨.inl ⟨.bool L,.bool L,[],rfl,λ_=>rfl,.bool L,xF l _,λ_=>⟨XS,λ_ hm=>(nomatch hm)⟩⟩,h2,h3,h4⟩
def Qz(h:M_)(b d:O):List (O×Obj):=(rl h.objs.size).filterMap λa=>if a=b\/a=d then U else(h.get? a).map λo=>(a,o)
end Att
namespace L2
def jz:∀{a:List R}{b:List Int},Yy a b->Î (b.map V.int) a|_,_,.nil=>.nil|_,_,.cons n t h=>.cons ⟨t,rfl⟩ (jz h)
def cF(s:S7)(j:Nat):S7:=match s with|.ClassDef _ _ _ a _ _ _ _ _ _ _=>a.getD j (.Pass ⟨0,0,0,0⟩)|_=>.Pass ⟨0,0,0,0⟩
def gM(s:S7):Arguments:=match s with|.FunctionDef _ a _ _ _ _ _ _ _ _=>a|_=>{posonlyargs:=[],args:=[],vararg:=U,kwonlyargs:=[],kw_defaults:=[],kwarg:=U,defaults:=[]}
def bF(s:S7):List S7:=match s with|.FunctionDef _ _ b _ _ _ _ _ _ _=>b|_=>[]
def ai(s:S7):TF:=match s with|.FunctionDef _ _ _ _ _ _ a _ _ _=>a|_=>{kind:=.function,names:=[],isGenerator:=D,isCoroutine:=D}
abbrev ù:Ľ:=λ_ _ _ _ _ _=>False
abbrev E0:XK:=λ_ _ _=>False
def qd:lD ù a E0:=λ_ _ _ _ _ _ _ h=>h.elim
structure ĥ(K:d_)(x qual:Str)(st:S7)(f:O)(fd:SO):Prop where
 ex:∃(oc:R)(od:Option O)(kV doc pm:R)(an:Option O)(cdv ct:R)(osl:Array (Option R)),fd=Uh x qual (gM st) (bF st) (ai st) .none kV doc pm an cdv ct/\K.lookup f=Z ⟨oc,od,.func fd,osl⟩/\Ws K cdv qual=L
 kp:SU K (.ref f)=L
def ĥ.ok{n:List Str}{m:Sp}(F:ĥ s b j τ e Ψ)(S:eH v n (ai τ))(p:∀i H Q E,m i H Q E->i.length=n.length)(k:∀(g:R)(A:x_)(f:List Env)(a:g_)(H:Hp)(i:List V)(Q:VK)(E:XK),Ö c (A.deeper (Uo j (ai τ) a.heap.objs.size e g))->m i H Q E->∃t,ĺ (kY ù q o s Η P v j (ai τ) e g A f a H E).nox (bF τ) t/\t {nx:=λ_ z=>Q .non z,rt:=Q} (start v i) H):ê q o s Η P ù (c+1) e Ψ n m:=by obtain⟨oc,od,kV,a',pm,an,g,ct,B,rfl,w,u⟩:=F.ex;refine xu w u S p λA f a H i Q E y r=>?_;obtain⟨t,h,d⟩:=k g A f a H i Q E y r;exact⟨t,h.nox,d⟩
def ĥ.binds(F:ĥ s b j τ e Ψ)(h:∀(kV a f:R)(i:Option O)(c g:R)(d:List R),d.length=v.length->Xq (Uh b j (gM τ) (bF τ) (ai τ) .none kV a f i c g) ⟨d,[]⟩=pure (v.zip d)):é s Ψ v []:=by obtain⟨o,n,kV,a,f,i,c,g,k,rfl,p,m⟩:=F.ex;exact .all (h kV a f i c g)
def DU{n m:Option O}{f:Array (Option R)}{h d g a i:R}(l:s.lookup e=Z ⟨Ζ,n,.func (Uh b j (gM τ) (bF τ) (ai τ) .none h d g m a i),f⟩)(c:Ws s a j=L)(k:SU s (.ref e)=L):ĥ s b j τ e (Uh b j (gM τ) (bF τ) (ai τ) .none h d g m a i):=⟨⟨Ζ,n,h,d,g,m,a,i,f,rfl,l,c⟩,k⟩
def DV{A B:Prop}(h:B):if D=L then A else B:=by rw[if_neg C_];exact h
def DW{A B:Prop}(h:A):if L=L then A else B:=by rw[if_pos rfl];exact h
def Í(H a:Hp):Prop:=∀b o,H b=Z o->a b=Z o
def Í.refl(H:Hp):Í H H:=λ_ _ h=>h
def Í.trans{d:Hp}(a:Í g ω)(b:Í ω d):Í g d:=λc o h=>b c o (a c o h)
def Í.free(e:Í g ω){l:O}(h:ω l=U):g l=U:=by cases q:g l with|none=>rfl|some o=>rw[e l o q]at h;cases h
end L2
namespace FD
open L2
inductive N where|non|bl(b:Bool)|int(i:Int)|str(x:Str)|tup(xs:List N)|lst(xs:List N)|scr(ns:List Int)|exn(c:Nat)|obj(k:Nat)(xs:List N)
def ő:Nat->Str|0=>"Keeper"|_=>"Desk"
def ċ:Nat->List Str|0=>["table","each","most","jar","latest"]|_=>["table","jar","done","undone"]
def xnm:Nat->Str|0=>"NoName"|1=>"NoTable"|2=>"NoPath"|3=>"NoAsk"|4=>"NoNote"|5=>"NoJar"|6=>"NoNumber"|7=>"NoText"|8=>"NoStep"|_=>"JarError"
def ū(K:d_)(H:Hp)(a:O)(c:List V):Prop:=(∃o,H a=Z (.frz o (.lst c)))\/∃(o:Obj)(b:Array R)(n:Nat),K.lookup a=Z o/\o.cls=.type "list"/\o.dict=U/\o.data=.seq b n/\b.size<=sizeLine/\Î c b.toList
def ū.l(h:ū s g e θ):Ć s g e θ:=h.elim (λh=>.inl (.inr h)) .inr
mutual
def Ô(K:d_)(H:Hp):N->V->Prop|.non,v=>v=.non|.bl b,v=>v=.bl b|.int i,v=>v=.int i|.str x,v=>v=.str x|.tup e,v=>∃a g,v=.ref a/\H a=Z (.tup g)/\S K H e g|.lst e,v=>∃a g,v=.ref a/\H a=Z (.lst g)/\S K H e g|.scr j,v=>∃a,v=.ref a/\ū K H a (j.map V.int)|.exn c,v=>∃a o u C,v=.ref a/\H a=Z (.frz o u)/\o.cls=.ref C/\Tp K H_ (xnm c)=Z (Z (.ref C))|.obj k e,v=>∃a C m f,v=.ref a/\H a=Z (.ins C m ((ċ k).zip f))/\Tp K H_ (ő k)=Z (Z (.ref C))/\S K H e f/\e.length<=(ċ k).length
def S(K:d_)(H:Hp):List N->List V->Prop|[],f=>f=[]|d::e,f=>∃v h,f=v::h/\Ô K H d v/\S K H e h
end
mutual
theorem Ô.mono{K:d_}{H j:Hp}(e:Í H j):∀(d:N)(v:V),Ô K H d v->Ô K j d v|.non,_,h=>h|.bl _,_,h=>h|.int _,_,h=>h|.str _,_,h=>h|.tup b,v,h=>by obtain⟨a,f,r,h,q⟩:∃a f,v=.ref a/\H a=Z (.tup f)/\S K H b f:=h;exact⟨a,f,r,e _ _ h,S.mono e b f q⟩|.lst b,v,h=>by obtain⟨a,f,r,h,q⟩:∃a f,v=.ref a/\H a=Z (.lst f)/\S K H b f:=h;exact⟨a,f,r,e _ _ h,S.mono e b f q⟩|.scr p,v,h=>by obtain⟨a,r,h⟩:∃a,v=.ref a/\ū K H a (p.map V.int):=h;exact⟨a,r,h.imp (λ⟨o,h⟩=>⟨o,e _ _ h⟩) id⟩|.exn c,v,h=>by obtain⟨a,o,u,C,r,h,q⟩:∃a o u C,v=.ref a/\H a=Z (.frz o u)/\o.cls=.ref C/\Tp K H_ (xnm c)=Z (Z (.ref C)):=h;exact⟨a,o,u,C,r,e _ _ h,q⟩|.obj k b,v,h=>by obtain⟨a,C,m,g,r,h,n,q,l⟩:∃a C m g,v=.ref a/\H a=Z (.ins C m ((ċ k).zip g))/\Tp K H_ (ő k)=Z (Z (.ref C))/\S K H b g/\b.length<=(ċ k).length:=h;exact⟨a,C,m,g,r,e _ _ h,n,S.mono e b g q,l⟩theorem S.mono{K:d_}{H j:Hp}(e:Í H j):∀(b:List N)(g:List V),S K H b g->S K j b g|[],_,h=>h|d::b,g,h=>by obtain⟨v,i,r,h,q⟩:∃v i,g=v::i/\Ô K H d v/\S K H b i:=h;exact⟨v,i,r,Ô.mono e d v h,S.mono e b i q⟩end
def S.nil:S s g [] []:=rfl
def S.cons{d b v a}(h:Ô s g d v)(t:S s g b a):S s g (d::b) (v::a):=⟨v,a,rfl,h,t⟩
def S.length{K:d_}{H:Hp}:∀{b:List N}{a:List V},S K H b a->a.length=b.length|[],a,h=>by cases(show a=[]from h);rfl|d::b,a,h=>by obtain⟨v,c,r,_,q⟩:∃v c,a=v::c/\Ô K H d v/\S K H b c:=h;subst r;show c.length+1=b.length+1;rw[S.length q]
def S.get{K:d_}{H:Hp}:∀{b:List N}{a:List V}{i:Nat}{v:V},S K H b a->a[i]?=Z v->∃d,b[i]?=Z d/\Ô K H d v|[],a,i,v,h,e=>by cases(show a=[]from h);simp at e|d::b,a,i,v,h,e=>by obtain⟨m,c,r,g,q⟩:∃v c,a=v::c/\Ô K H d v/\S K H b c:=h;subst r;cases i with|zero=>simp at e;subst e;exact⟨d,rfl,g⟩|succ i=>obtain⟨k,j,f⟩:=S.get (i:=i) q (by simpa using e);exact⟨k,by simpa using j,f⟩
def S.get'{K:d_}{H:Hp}:∀{b:List N}{a:List V}{i:Nat}{d:N},S K H b a->b[i]?=Z d->∃v,a[i]?=Z v/\Ô K H d v|[],a,i,v,h,e=>by simp at e|d::b,a,i,n,h,e=>by obtain⟨f,c,r,j,q⟩:∃v c,a=v::c/\Ô K H d v/\S K H b c:=h;subst r;cases i with|zero=>simp at e;subst e;exact⟨f,rfl,j⟩|succ i=>obtain⟨m,k,g⟩:=S.get' (i:=i) q (by simpa using e);exact⟨m,by simpa using k,g⟩
def S.append{K:d_}{H:Hp}:∀{e c:List N}{b a:List V},S K H e b->S K H c a->S K H (e++c) (b++a)|[],c,b,a,h,q=>by cases(show b=[]from h);exact q|d::e,c,b,a,h,q=>by obtain⟨g,f,r,i,t⟩:∃v a,b=v::a/\Ô K H d v/\S K H e a:=h;subst r;exact⟨g,f++a,rfl,i,S.append t q⟩
def S.take{K:d_}{H:Hp}:∀{b:List N}{a:List V}(n:Nat),S K H b a->S K H (b.take n) (a.take n)|b,a,0,_=>by simp[S]|[],a,n+1,h=>by cases(show a=[]from h);exact rfl|d::b,a,n+1,h=>by obtain⟨f,c,r,g,t⟩:∃v e,a=v::e/\Ô K H d v/\S K H b e:=h;subst r;exact⟨f,c.take n,rfl,g,S.take n t⟩
def S.drop{K:d_}{H:Hp}:∀{b:List N}{a:List V}(n:Nat),S K H b a->S K H (b.drop n) (a.drop n)|b,a,0,h=>h|[],a,n+1,h=>by cases(show a=[]from h);exact rfl|d::b,a,n+1,h=>by obtain⟨f,e,r,g,t⟩:∃v c,a=v::c/\Ô K H d v/\S K H b c:=h;subst r;exact S.drop n t
variable{k:List N}
def Ô.lstE(h:Ô s g (.lst k) Γ):∃a b,Γ=.ref a/\g a=Z (.lst b)/\S s g k b:=h
def Ô.tupE(h:Ô s g (.tup k) Γ):∃a b,Γ=.ref a/\g a=Z (.tup b)/\S s g k b:=h
def Ô.exnE(h:Ô s g (.exn c) Γ):∃a o u C,Γ=.ref a/\g a=Z (.frz o u)/\o.cls=.ref C/\Tp s H_ (xnm c)=Z (Z (.ref C)):=h
def Ô.objE(h:Ô s g (.obj c k) Γ):∃a C d b,Γ=.ref a/\g a=Z (.ins C d ((ċ c).zip b))/\Tp s H_ (ő c)=Z (Z (.ref C))/\S s g k b/\k.length<=(ċ c).length:=h
def Ô.scrE{b:List Int}(h:Ô s g (.scr b) Γ):∃a,Γ=.ref a/\Ć s g a (b.map V.int):=let⟨a,r,h⟩:∃a,Γ=.ref a/\ū s g a (b.map V.int):=h;⟨a,r,h.l⟩
def aG(h:g e=U)(o:HO):Í g (Ý g e o):=λb u q=>by rw[al (av q h)];exact q
abbrev Ev:=List (Option N)
structure Ù(K:d_)(H:Hp)(σ:L2.St)(ρ:Ev):Prop where
 len:σ.length=ρ.length
 at':∀(i:Nat)(d:N),ρ[i]?=Z (Z d)->∃v,σ[i]?=Z (Z v)/\Ô K H d v
variable{Μ:L2.St}{ζ:Ev}
def Ù.mono(E:Ù s g Μ ζ)(e:Í g ω):Ù s ω Μ ζ:=⟨E.len,λi d h=>let⟨v,b,a⟩:=E.at' i d h;⟨v,b,Ô.mono e d v a⟩⟩
variable{n:N}
def Ù.set(E:Ù s g Μ ζ)(r:Ô s g n Γ):Ù s g (Μ.set c (Z Γ)) (ζ.set c (Z n)):=by
 refine⟨by rw[SF,SF];exact E.len,λj d h=>?_⟩;by_cases a:c=j
 · subst a;by_cases b:c<ζ.length;·rw[Sh b]at h;cases h;exact⟨Γ,by rw[Sh (by rw[E.len];exact b)],r⟩
   ·rw[Ue (by rw[SF];omega)]at h;cases h
 ·rw[Sy a]at h;rw[Sy a];exact E.at' j d h
def fgt(b:List Nat)(a:Ev):Ev:=b.foldl (λr j=>r.set j U) a
def Ù.fgt1(j:Nat)(E:Ù s g Μ ζ):Ù s g Μ (ζ.set j U):=by
 refine⟨by rw[SF];exact E.len,λi d h=>?_⟩;by_cases a:j=i
 · subst a;by_cases b:j<ζ.length;·rw[Sh b]at h;cases h
   ·rw[Ue (by rw[SF];omega)]at h;cases h
 ·rw[Sy a]at h;exact E.at' i d h
def Ù.fgt{K:d_}{H:Hp}{b:L2.St}:∀(a:List Nat){c:Ev},Ù K H b c->Ù K H b (fgt a c)|[],_,E=>E|j::a,_,E=>Ù.fgt a (E.fgt1 j)
inductive Rs(α:Type)where|ok(a:α)|exc(c:Nat)
abbrev Ñ:=List N->Option (Rs N)
inductive Fl where|nx(ρ:Ev)|rt(d:N)|exc(c:Nat)
def Fly(N:O->Prop)(H:Hp)(e:O)(c:R)(h:M_):Prop:=H e=U/\N e/\∃b a g,h.get? e=Z b/\b.cls=c/\b.data=.fields a/\a[0]?=Z g/\(a[1]?=Z .none\/∃T f d,a[1]?=Z (.ref T)/\T≠e/\H T=U/\N T/\h.get? T=Z f/\f.data=.fields d/\d[3]?=Z .none)
def Rm(X:C)(a:O):Prop:=X.s₀.heap.get? a=U/\∀p∈X.pn,p.1≠a
def JP(X:C)(H:Hp)(c:Nat)(e:R)(s:g_):Prop:=∃a b,e=.ref a/\Tp X.K H_ (xnm c)=Z (Z (.ref b))/\Fly (Rm X) H a (.ref b) s.heap
def XW(X:C)(c:Nat)(H:Hp):Prop:=∀d b a s e,Í H a->Ë X d b a s->JP X a c e s->X.xe e s
def XW.mono(h:XW a c g)(e:Í g ω):XW a c ω:=λd b i s x f I q=>h d b i s x (e.trans f) I q
def ï(X:C)(H:Hp)(o:Option (Rs N))(Q:VK):Prop:=match o with|none=>False|some (.exc c)=>XW X c H|some (.ok d)=>∀v a,Í H a->Ô X.K a d v->Q v a
def ø(X:C)(H:Hp)(o:Option (Rs Bool))(Q:Bool->Hp->Prop):Prop:=match o with|none=>False|some (.exc c)=>XW X c H|some (.ok d)=>∀a,Í H a->Q d a
def æ(X:C)(H:Hp)(o:Option (Rs (List N)))(Q:List V->Hp->Prop):Prop:=match o with|none=>False|some (.exc c)=>XW X c H|some (.ok d)=>∀b a,Í H a->S X.K a d b->Q b a
def ò(X:C)(H:Hp)(o:Option Fl)(a:tZ):Prop:=match o with|none=>False|some (.exc c)=>XW X c H|some (.rt d)=>∀v b,Í H b->Ô X.K b d v->a.rt v b|some (.nx f)=>∀e b,Í H b->Ù X.K b e f->a.nx e b
def Õ(o:Option (Rs z))(k:z->Option (Rs Χ)):Option (Rs Χ):=match o with|none=>U|some (.exc c)=>Z (.exc c)|some (.ok a)=>k a
def cf(o:Option (Rs z))(k:z->Option Fl):Option Fl:=match o with|none=>U|some (.exc c)=>Z (.exc c)|some (.ok a)=>k a
def sq(o:Option Fl)(k:Ev->Option Fl):Option Fl:=match o with|some (.nx a)=>k a|o=>o
def ï.mono(e:Í g ω):∀{o:Option (Rs N)},ï a g o Ç->ï a ω o Ç|none,h=>h|some (.exc _),h=>XW.mono h e|some (.ok _),h=>λv c b r=>h v c (e.trans b) r
def ø.mono{b:Bool->Hp->Prop}(e:Í g ω):∀{o:Option (Rs Bool)},ø a g o b->ø a ω o b|none,h=>h|some (.exc _),h=>XW.mono h e|some (.ok _),h=>λd c=>h d (e.trans c)
def æ.mono{b:List V->Hp->Prop}(e:Í g ω):∀{o:Option (Rs (List N))},æ a g o b->æ a ω o b|none,h=>h|some (.exc _),h=>XW.mono h e|some (.ok _),h=>λv d c r=>h v d (e.trans c) r
def ò.mono{b:tZ}(e:Í g ω):∀{o:Option Fl},ò a g o b->ò a ω o b|none,h=>h|some (.exc _),h=>XW.mono h e|some (.rt _),h=>λv d c r=>h v d (e.trans c) r|some (.nx _),h=>λv d c r=>h v d (e.trans c) r
def ï.bind{o:Option (Rs N)}{k:N->Option (Rs N)}{P:VK}(h:ï a g (Õ o k) Ç)(c:∀d v b,Í g b->Ô a.K b d v->ï a b (k d) Ç->P v b):ï a g o P:=by match o,h with|some (.exc _),h=>exact h|some (.ok d),h=>exactλv f e r=>c d v f e r (ï.mono e h)
def ï.bindB{c:Bool->Hp->Prop}{o:Option (Rs N)}{k:N->Option (Rs Bool)}(h:ø a g (Õ o k) c)(f:∀d v b,Í g b->Ô a.K b d v->ø a b (k d) c->Ç v b):ï a g o Ç:=by match o,h with|some (.exc _),h=>exact h|some (.ok d),h=>exactλv i e r=>f d v i e r (ø.mono e h)
def ï.bindA{c:List V->Hp->Prop}{o:Option (Rs N)}{k:N->Option (Rs (List N))}(h:æ a g (Õ o k) c)(f:∀d v b,Í g b->Ô a.K b d v->æ a b (k d) c->Ç v b):ï a g o Ç:=by match o,h with|some (.exc _),h=>exact h|some (.ok d),h=>exactλv i e r=>f d v i e r (æ.mono e h)
def ï.bindS{b:tZ}{o:Option (Rs N)}{k:N->Option Fl}(h:ò a g (cf o k) b)(f:∀d v c,Í g c->Ô a.K c d v->ò a c (k d) b->Ç v c):ï a g o Ç:=by match o,h with|some (.exc _),h=>exact h|some (.ok d),h=>exactλv i e r=>f d v i e r (ò.mono e h)
def ø.bind{o:Option (Rs Bool)}{k:Bool->Option (Rs N)}{P:Bool->Hp->Prop}(h:ï a g (Õ o k) Ç)(f:∀b c,Í g c->ï a c (k b) Ç->P b c):ø a g o P:=by match o,h with|some (.exc _),h=>exact h|some (.ok d),h=>exactλi e=>f d i e (ï.mono e h)
def ø.bindB{f:Bool->Hp->Prop}{o:Option (Rs Bool)}{k:Bool->Option (Rs Bool)}{P:Bool->Hp->Prop}(h:ø a g (Õ o k) f)(i:∀b c,Í g c->ø a c (k b) f->P b c):ø a g o P:=by match o,h with|some (.exc _),h=>exact h|some (.ok d),h=>exactλj e=>i d j e (ø.mono e h)
def ø.bindS{c:tZ}{o:Option (Rs Bool)}{k:Bool->Option Fl}{P:Bool->Hp->Prop}(h:ò a g (cf o k) c)(i:∀b f,Í g f->ò a f (k b) c->P b f):ø a g o P:=by match o,h with|some (.exc _),h=>exact h|some (.ok d),h=>exactλj e=>i d j e (ò.mono e h)
variable{Ρ:Ñ}
def æ.bind{o:Option (Rs (List N))}{P:List V->Hp->Prop}(h:ï a g (Õ o Ρ) Ç)(i:∀f c b,Í g b->S a.K b f c->ï a b (Ρ f) Ç->P c b):æ a g o P:=by match o,h with|some (.exc _),h=>exact h|some (.ok d),h=>exactλv j e r=>i d v j e r (ï.mono e h)
def æ.bindA{i:List V->Hp->Prop}{o:Option (Rs (List N))}{k:List N->Option (Rs (List N))}{P:List V->Hp->Prop}(h:æ a g (Õ o k) i)(j:∀f c b,Í g b->S a.K b f c->æ a b (k f) i->P c b):æ a g o P:=by match o,h with|some (.exc _),h=>exact h|some (.ok d),h=>exactλv m e r=>j d v m e r (æ.mono e h)
abbrev Ò:=Ev->Option (Rs N)
abbrev ë:=Ev->Option (Rs Bool)
abbrev á:=Ev->Option (Rs (List N))
abbrev Ø:=Ev->Option Fl
abbrev í:Ø:=λa=>Z (.nx a)
def tF(X:C)(f:Ò):TE:=λb H Q=>∃a,Ù X.K H b a/\ï X H (f a) Q
def tT(X:C)(f:ë):TT:=λb H Q=>∃a,Ù X.K H b a/\ø X H (f a) Q
def tA(X:C)(f:á):TA:=λb H Q=>∃a,Ù X.K H b a/\æ X H (f a) Q
def tS(X:C)(f:Ø):TS:=λa c H=>∃b,Ù X.K H c b/\ò X H (f b) a
structure FE(X:C)(e:u_)(f:Ò):Prop where h:PE X e (tF X f)
structure FT(X:C)(e:u_)(f:ë):Prop where h:PT X e (tT X f)
structure FW(X:C)(e:u_)(f:ë):Prop where h:PW X e (tT X f)
structure FA(X:C)(es:List u_)(f:á):Prop where h:PA X es (tA X f)
structure FS(X:C)(st:S7)(f:Ø):Prop where h:PS X st (tS X f)
structure Ħ(X:C)(st:List S7)(f:Ø):Prop where h:ĺ X st (tS X f)
variable{A:Ò}
def dr(h:PE a f À)(w:∀b H Q c,Ù a.K H b c->ï a H (A c) Q->À b H Q):FE a f A:=⟨λd s b H Q I⟨c,E,o⟩=>h d s b H Q I (w b H Q c E o)⟩
variable{Ο:ë}
def Fv{t:TT}(h:PT a f t)(w:∀b H Q c,Ù a.K H b c->ø a H (Ο c) Q->t b H Q):FT a f Ο:=⟨λd s b H Q I⟨c,E,o⟩=>h d s b H Q I (w b H Q c E o)⟩
def JQ{t:TT}(h:PW a f t)(w:∀b H Q c,Ù a.K H b c->ø a H (Ο c) Q->t b H Q):FW a f Ο:=⟨λd e s b H Q I⟨c,E,o⟩=>h d e s b H Q I (w b H Q c E o)⟩
variable{Τ:Ø}
def qe{t:TS}(h:PS a τ t)(w:∀b c H d,Ù a.K H c d->ò a H (Τ d) b->t b c H):FS a τ Τ:=⟨λe s c H b I⟨d,E,o⟩=>h e s c H b I (w b c H d E o)⟩
def DX{t:TS}(h:ĺ a Ä t)(w:∀b c H d,Ù a.K H c d->ò a H (Τ d) b->t b c H):Ħ a Ä Τ:=⟨λe s c H b I⟨d,E,o⟩=>h e s c H b I (w b c H d E o)⟩
def FW.ft(h:FW a f Ο):FT a f Ο:=⟨h.h _⟩
def Y(i:Nat):Ò:=λa=>match a[i]? with|some (Z d)=>Z (.ok d)|_=>U
def fC(d:N):Ò:=λ_=>Z (.ok d)
def JR(i:Nat)(h:PE a f (DJ i)):FE a f (Y i):=dr h λg H Q j E o=>by
 unfold Y at o;split at o;·rename_i d b;obtain⟨v,e,c⟩:=E.at' i d b;exact⟨v,e,o v H (.refl H) c⟩
 ·exact o.elim
def Ĩ(h:a.env.kindOf b=Z .globalImplicit):Gl a b:=h
def Os(i:Nat){x:Str}(e:a.N[i]?=Z x:=by lk)(c:a.env.scope.names.lookup x=Z .local:=by lk)(d:(x==("__debug__":Str))=D:=by lk)(b:(x==("__classdict__":Str))=D:=by lk):FE a (.Name x p) (Y i):=JR i (w4 e (.inl c) d b)
def Ot(i:Nat){x:Str}(e:a.N[i]?=Z x:=by lk)(c:a.env.scope.names.lookup x=Z .cell:=by lk)(d:(x==("__debug__":Str))=D:=by lk)(b:(x==("__classdict__":Str))=D:=by lk):FE a (.Name x p) (Y i):=JR i (w4 e (.inr (.inl c)) d b)
def IM(h:PE a f (tC Γ))(r:∀K H,Ô K H n Γ):FE a f (fC n):=dr h λ_ H _ _ _ o=>o Γ H (.refl H) (r a.K H)
def JU{i j}:FE a (.Constant (.int i) j p) (fC (.int i)):=IM Jm λ_ _=>rfl
def Ou{b j}:FE a (.Constant (.bool b) j p) (fC (.bl b)):=IM N2 λ_ _=>rfl
def JV{j}:FE a (.Constant .none j p) (fC .non):=IM Jn λ_ _=>rfl
def JW{x j}:FE a (.Constant (.str x) j p) (fC (.str x)):=IM Jo λ_ _=>rfl
def Fw{t:Tok}(d:Gl a b)(c:a.mg b=Z (.int i t))(e:(b==("__debug__":Str))=D:=by lk):FE a (.Name b p) (fC (.int i)):=IM (w5 (Γ:=.int i) d c ⟨t,rfl⟩ e) λ_ _=>rfl
def Fx{t:Tok}(d:Gl a b)(c:a.mg b=Z (.str j t))(e:(b==("__debug__":Str))=D:=by lk):FE a (.Name b p) (fC (.str j)):=IM (w5 (Γ:=.str j) d c ⟨t,rfl⟩ e) λ_ _=>rfl
def I(g:N->N->Option (Rs N))(c b:Ò):Ò:=λa=>Õ (c a) λx=>Õ (b a) λy=>g x y
def ę(X:C)(r:R2)(g:N->N->Option (Rs N)):Prop:=∀b a x y H Q,Ô X.K H b x->Ô X.K H a y->ï X H (g b a) Q->r x y H Q
variable{È:Ò}
def two{r:R2}{g:N->N->Option (Rs N)}(j:ę a r g){c:L2.St}{H:Hp}{Q:VK}{b:Ev}(E:Ù a.K H c b)(o:ï a H (I g A È b) Q):G' r (tF a A) (tF a È) c H Q:=⟨b,E,ï.bind o λd x q m f i=>⟨b,E.mono m,ï.bind i λn y p k e h=>j d n x y p Q (Ô.mono k d x f) e h⟩⟩
def vY{b:Operator}{r:R2}{g:N->N->Option (Rs N)}(c:õ a (UX b) r)(d:ę a r g)(h:FE a f A)(e:FE a y È):FE a (.BinOp f b y p) (I g A È):=dr (Oe c h.h e.h) λ_ _ _ _ E o=>two d E o
def lI{b:J'}{r:R2}{g:N->N->Option (Rs N)}(c:õ a (So b) r)(e:ę a r g)(i:FE a f A)(h:FE a y È)(d:R5 b y=D):FE a (.Compare f [b] [y] p) (I g A È):=dr (xi c i.h h.h d) λ_ _ _ _ E o=>two e E o
def ñ:N->Option (Rs Bool)|.bl b=>Z (.ok b)|_=>U
def fB(f:Ò):ë:=λa=>Õ (f a) ñ
def uh{c:Bool->Hp->Prop}(r:Ô a.K g n Γ)(o:ø a g (ñ n) c):∃k,Γ=.bl k/\c k g:=by cases n with|bl b=>exact⟨b,r,o g (.refl g)⟩|_=>exact o.elim
def jA{b:J'}{r:R2}{g:N->N->Option (Rs N)}(i:õ a (So b) r)(k:ę a r g)(n:FE a f A)(m:FE a y È)(j:R5 b y=D):FT a (.Compare f [b] [y] p) (fB (I g A È)):=Fv (xj i n.h m.h j) λc H Q q E o=>by show G' r (tF a A) (tF a È) c H _;refine two k E ?_;exact ï.bindB o λd v s e r h=>uh r h
def JX(i:FE a f A)(h:∀b,isTrue f a.env b=(do let v<-b;Ym f.pos;VJ [v] (truthy v)):=by intro _;lk):FT a f (fB A):=Fv (DK i.h h) λj H Q c E o=>⟨c,E,ï.bindB o λd v k e r g=>uh r g⟩
def kB(f g:ë):ë:=λa=>Õ (f a) λk=>if k then g a else Z (.ok D)
def ÿ(f g:ë):ë:=λa=>Õ (f a) λk=>if k then Z (.ok L)else g a
def bX(f:ë):ë:=λa=>Õ (f a) λk=>Z (.ok (!k))
def Fy(b:FT a f Ο):FW a (.BoolOp .And [f] p) Ο:=⟨Fc b.h⟩
def JZ(b:FT a f Ο):FW a (.BoolOp .Or [f] p) Ο:=⟨DM b.h⟩
def DY{d:ë}(i:FT a f Ο)(h:FW a (.BoolOp .And (y::u) p) d):FW a (.BoolOp .And (f::y::u) p) (kB Ο d):=JQ (Jp i.h h.h) λj H Q b E o=>⟨b,E,ø.bindB o λk g e c=>by cases k with|true=>exact DW ⟨b,E.mono e,c⟩|false=>exact DV (c g (.refl g))⟩
def J0{d:ë}(i:FT a f Ο)(h:FW a (.BoolOp .Or (y::u) p) d):FW a (.BoolOp .Or (f::y::u) p) (ÿ Ο d):=JQ (Jq i.h h.h) λj H Q b E o=>⟨b,E,ø.bindB o λk g e c=>by cases k with|true=>exact DW (c g (.refl g))|false=>exact DV ⟨b,E.mono e,c⟩⟩
def J4(g:FT a f Ο):FT a (.UnaryOp .Not f p) (bX Ο):=Fv (DN g.h) λh H Q c E o=>⟨c,E,ø.bindB o λk b e d=>d b (.refl b)⟩
def ij(f g:Ò):Ò:=λa=>Õ (f a) λx=>Õ (ñ x) λk=>if k then g a else Z (.ok (.bl D))
def Ě(f g:Ò):Ò:=λa=>Õ (f a) λx=>Õ (ñ x) λk=>if k then Z (.ok (.bl L))else g a
def NC(f:Ò):Ò:=λa=>Õ (f a) λx=>Õ (ñ x) λk=>Z (.ok (.bl (!k)))
def sr{k:Bool->Option (Rs N)}(r:Ô a.K g n Γ)(o:ï a g (Õ (ñ n) k) Ç):∃b,Γ=.bl b/\ï a g (k b) Ç:=by cases n with|bl b=>exact⟨b,r,o⟩|_=>exact o.elim
def J5{b}(c:FE a f A):FE a (.BoolOp b [f] p) A:=⟨DO c.h⟩
def J6(j:FE a f A)(i:FE a (.BoolOp .And (y::u) p) È):FE a (.BoolOp .And (f::y::u) p) (ij A È):=dr (DP j.h i.h) λm H Q b E o=>⟨b,E,ï.bind o λd v g e r h=>by obtain⟨k,rfl,c⟩:=sr r h;refine⟨k,rfl,?_⟩;cases k with|true=>exact DW ⟨b,E.mono e,c⟩|false=>exact DV (c (.bl D) g (.refl g) rfl)⟩
def Ov(j:FE a f A)(i:FE a (.BoolOp .Or (y::u) p) È):FE a (.BoolOp .Or (f::y::u) p) (Ě A È):=dr (N5 j.h i.h) λm H Q b E o=>⟨b,E,ï.bind o λd v g e r h=>by obtain⟨k,rfl,c⟩:=sr r h;refine⟨k,rfl,?_⟩;cases k with|true=>exact DW (c (.bl L) g (.refl g) rfl)|false=>exact DV ⟨b,E.mono e,c⟩⟩
def J7(i:FE a f A):FE a (.UnaryOp .Not f p) (NC A):=dr (Jt i.h) λj H Q c E o=>⟨c,E,ï.bind o λd v b e r h=>by obtain⟨k,rfl,g⟩:=sr r h;exact⟨k,rfl,g (.bl (!k)) b (.refl b) rfl⟩⟩
def ĩ(c:ë)(f g:Ò):Ò:=λa=>Õ (c a) λk=>if k then f a else g a
def Ow{c:u_}(g:FT a c Ο)(i:FE a f A)(h:FE a y È):FE a (.IfExp c f y p) (ĩ Ο A È):=dr (Bl g.h i.h h.h) λj H Q b E o=>⟨b,E,ø.bind o λk m e d=>by cases k with|true=>exact DW ⟨b,E.mono e,d⟩|false=>exact DV ⟨b,E.mono e,d⟩⟩
def dZ:á:=λ_=>Z (.ok [])
def aO(f:Ò)(g:á):á:=λa=>Õ (f a) λx=>Õ (g a) λb=>Z (.ok (x::b))
abbrev az(f:Ò):á:=aO f dZ
abbrev bt(f g:Ò):á:=aO f (az g)
abbrev dP(f g h:Ò):á:=aO f (bt g h)
abbrev iZ(f g h k:Ò):á:=aO f (dP g h k)
abbrev vZ(f g h k l:Ò):á:=aO f (iZ g h k l)
abbrev v3(f g h k l m:Ò):á:=aO f (vZ g h k l m)
abbrev X(i:Int):Ò:=fC (.int i)
abbrev Ð(x:Str):Ò:=fC (.str x)
variable{μ:á}
def J8{t:TA}(h:PA a u t)(w:∀b H Q c,Ù a.K H b c->æ a H (μ c) Q->t b H Q):FA a u μ:=⟨λpos d s b H Q I⟨c,E,o⟩=>h pos d s b H Q I (w b H Q c E o)⟩
def DZ:FA a [] dZ:=J8 xq λ_ H _ _ _ o=>o [] H (.refl H) rfl
def xG(m:FE a f A)(k:FA a u μ)(j:l_ (f::u) a.env=(D,eval f a.env)::l_ u a.env:=by lk):FA a (f::u) (aO A μ):=J8 (oq m.h k.h j) λp H Q b E o=>⟨b,E,ï.bindA o λd v s f r i=>⟨b,E.mono f,æ.bindA i λq c e n g h=>h (v::c) e (.refl e) ⟨v,c,rfl,Ô.mono n d v r,g⟩⟩⟩
def ib(g:á):Ò:=λb=>Õ (g b) λa=>if a.length<=100000 then Z (.ok (.lst a))else U
def jC(g:á):Ò:=λb=>Õ (g b) λa=>if a.length<=100000 then Z (.ok (.tup a))else U
def cx(h:c<=100000):c<=sizeLine:=RZ h (by rw[WX];decide)
def J9(h:FA a u μ):FE a (.List u p) (ib μ):=dr (DT h.h) λk H Q g E o=>⟨g,E,æ.bind o λm i n e d c=>by
 split at c;·rename_i j;refine⟨by rw[d.length];exact cx j,λb f=>c (.ref b) _ (aG f _) ⟨b,i,rfl,ao,S.mono (aG f _) _ _ d⟩⟩
 ·exact c.elim⟩
def Ka{k}(h:FA a u μ):FE a (.Tuple u k p) (jC μ):=dr (JG h.h) λm H Q g E o=>⟨g,E,æ.bind o λn i q e d c=>by
 split at c;·rename_i j;refine⟨by rw[d.length];exact cx j,λb f=>c (.ref b) _ (aG f _) ⟨b,i,rfl,ao,S.mono (aG f _) _ _ d⟩⟩
 ·exact c.elim⟩
def Fz:Ħ a [] (λc=>Z (.nx c)):=DX se λb d H c E o=>o d H (.refl H) E
def aI(f g:Ø):Ø:=λa=>sq (f a) g
def Bx{g:Ø}(k:FS a τ Τ)(j:Ħ a Ä g):Ħ a (τ::Ä) (aI Τ g):=DX (kX k.h j.h) λb p H i E o=>⟨i,E,by unfold aI at o;match f:Τ i with|none=>rw[f]at o;exact o.elim|some (.exc c)=>rw[f]at o;exact o|some (.rt d)=>rw[f]at o;exact o|some (.nx h)=>rw[f]at o;exactλn q e m=>⟨h,m,ò.mono e o⟩⟩
def FB(b:FS a τ Τ):Ħ a [τ] Τ:=⟨sf b.h⟩
def aJ(f:Ò):Ø:=λa=>cf (f a) λd=>Z (.rt d)
def Kb(h:FE a f A):FS a (.Return (Z f) p) (aJ A):=qe (w6 h.h) λb i H e E o=>⟨e,E,ï.bindS o λd v c f r g=>g v c (.refl c) r⟩
def Ox:Ø:=λ_=>Z (.rt .non)
def cG(f:Ò):Ø:=λa=>cf (f a) λ_=>Z (.nx a)
def FF(j:FE a f A)(i:To f U p.line a.env=pure D:=by lk):FS a (.Expr f p) (cG A):=qe (sh j.h i) λb e H g E o=>⟨g,E,ï.bindS o λd v c f r h=>h e c (.refl c) (E.mono f)⟩
def bW(i:Nat)(f:Ò):Ø:=λa=>cf (f a) λd=>Z (.nx (a.set i (Z d)))
def Kc(i:Nat){x:Str}{c:Pos}(s:a.N.Nodup)(m:a.N[i]?=Z x)(j:ľ a.env.scope x)(q:FE a f A)(k:To f (Z (.Name x c)) p.line a.env=pure D:=by lk)(n:a.fn x=L\/a.env.scope.names.lookup x=Z .local:=by first|exact .inl rfl|exact .inr rfl|assumption):FS a (.Assign [.Name x c] f p) (bW i A):=qe (ua s m j q.h k n) λb t H g E o=>⟨g,E,ï.bindS o λd v e f r h=>h _ e (.refl e) ((E.mono f).set r)⟩
def aY(c:ë)(f g:Ø):Ø:=λa=>cf (c a) λk=>if k then f a else g a
def Oy{g:Ø}{h:List S7}(i:FT a f Ο)(m:Ħ a Ä Τ)(j:Ħ a h g):FS a (.If f Ä h p) (aY Ο Τ g):=qe (Fd i.h m.h j.h) λb n H c E o=>⟨c,E,ø.bindS o λk q e d=>by cases k with|true=>exact DW ⟨c,E.mono e,d⟩|false=>exact DV ⟨c,E.mono e,d⟩⟩
def gh:Ø:=λ_=>U
def By:FS a τ gh:=qe Bm λ_ _ _ _ _ o=>o
def Its(z:Str):It:=⟨λi _=>i<z.cps.size,λi H x a=>a=H/\∃c,z.cps[i]?=Z c/\x=.str ⟨#[c]⟩,λi _=>i=z.cps.size⟩
def qf(c:w.handled=U)(I:O)(x:Str)(t:Tok){a:String}(b:a="str_ascii_iterator"\/a="str_iterator"):Walks q o w I [I] [I] x.cps.size (SignAt x) (λi h=>h.IsStrIter I a x t i):=by
 rcases b with rfl|rfl;·exact Walks.strAscii c I x t
 ·exact Walks.strWide c I x t
def Bz(z:Str)(t:Tok)(m:O){P:String}(n:P="str_ascii_iterator"\/P="str_iterator"):xa q o s f (Its z) [m] m (λi h=>h.IsStrIter m P z t i)where
 mem:=by simp
 obj:=λi h st b p=>by
  have e:b=m:=by simpa using p
  subst e;obtain⟨a,e,c,d⟩:=st;exact⟨a,e,λv z=>by rw[d]at z;cases z⟩
 keep:=λi h B st k=>let⟨a,ho,r⟩:=st;⟨a,k m (by simp) a ho,r⟩;item:=by intro X hP hw hK hc i f' g σ H E j y st hg;subst hP hw hK;obtain⟨f0,f1,I,f3,f4,f5⟩:=y m (by simp);have W:=qf (q:=X.prog) (o:=X.w) (j.ok.hd hc) m z t n;refine W.item i g _ _ hg st λv B tk hv w kk=>?_;obtain⟨c,u,b',rfl⟩:=hv;have I1:Ë X f' σ H {g with heap:=B,toks:=tk}:=j.turned (λb a p e=>kk b a (by simpa using p) e) f0 f1 f3 f4 f5;obtain⟨a,e,c',d⟩:=id w;refine⟨_,rfl,Bn (d:={g with heap:=B,toks:=tk}) e c' d (by rcases n with rfl|rfl<;>decide) ⟨.str ⟨#[c]⟩,H,I1,⟨u,rfl⟩,⟨rfl,c,b',rfl⟩,w,λb p=>(y b p).1⟩⟩
 done:=by intro X hP hw hK hc i f' g σ H E j y st hg;subst hP hw hK;obtain⟨f0,f1,I,f3,f4,f5⟩:=y m (by simp);have W:=qf (q:=X.prog) (o:=X.w) (j.ok.hd hc) m z t n;have a':i=z.cps.size:=hg;subst a';exact W.done g _ _ st λB tk kk=>⟨rfl,j.turned (λb a p e=>kk b a (by simpa using p) e) f0 f1 f3 f4 f5⟩
 self:=λA i g Q E st h=>by
  rcases n with rfl|rfl;·exact wpAny_pyIter_striter_ascii st h
  ·exact wpAny_pyIter_striter_wide st h
structure Wk(K:d_)(J:It)(ds:List N)(H0:Hp):Prop where
 go:∀i H,Í H0 H->i<ds.length->J.go i H
 stop:∀H,Í H0 H->J.stop ds.length H
 yld:∀i H x H',Í H0 H->i<ds.length->J.yld i H x H'->H'=H/\∃d,ds[i]?=Z d/\Ô K H d x
def ı(X:C)(H:Hp)(o:Option (Rs (List N)))(R:It->Hp->Prop):Prop:=match o with|none=>False|some (.exc c)=>XW X c H|some (.ok b)=>∀J a,Í H a->Wk X.K J b a->R J a
structure FI(X:C)(tg iter:u_)(f:á):Prop where h:PI X tg iter λσ H R=>∃ρ,Ù X.K H σ ρ/\ı X H (f ρ) R
def ı.mono{R:It->Hp->Prop}(e:Í g ω):∀{o:Option (Rs (List N))},ı a g o R->ı a ω o R|none,h=>h|some (.exc _),h=>XW.mono h e|some (.ok _),h=>λv c b r=>h v c (e.trans b) r
def ĝ(z:Str):List N:=z.cps.toList.map λc=>.str ⟨#[c]⟩
def items:N->Option (Rs (List N))|.lst a=>Z (.ok a)|.tup a=>Z (.ok a)|.str z=>Z (.ok (ĝ z))|_=>U
def cV(f:Ò):á:=λa=>Õ (f a) items
def FH(h:g e=Z (.lst θ))(r:S s g k θ):Wk s (Itl s e) k g where
 go:=λi c a b=>by
  have f:i<θ.length:=by rw[r.length];exact b
  exact⟨θ,θ[i],Ć.of (a _ _ h),by simp[f]⟩
 stop:=λc a=>⟨θ,Ć.of (a _ _ h),by rw[r.length];exact r_ _⟩;yld:=λi c x o a b y=>by obtain⟨n,y⟩:=y;obtain⟨d,m,j⟩:=S.get (S.mono a _ _ r) (y θ (Ć.of (a _ _ h)));exact⟨n,d,m,j⟩
def Kd(h:g e=Z (.tup θ))(r:S s g k θ):Wk s (Itt s e) k g where
 go:=λi c a b=>by
  have f:i<θ.length:=by rw[r.length];exact b
  exact⟨θ,θ[i],ö.of (a _ _ h),by simp[f]⟩
 stop:=λc a=>⟨θ,ö.of (a _ _ h),by rw[r.length];exact r_ _⟩;yld:=λi c x o a b y=>by obtain⟨n,y⟩:=y;obtain⟨d,m,j⟩:=S.get (S.mono a _ _ r) (y θ (ö.of (a _ _ h)));exact⟨n,d,m,j⟩
def Ke:Wk s (Its b) (ĝ b) g where
 go:=λi f e d=>by show i<b.cps.size;simpa[ĝ]using d
 stop:=λf e=>by show(ĝ b).length=b.cps.size;simp[ĝ]
 yld:=λi f x k e d y=>by
  obtain⟨j,c,h,rfl⟩:=y;refine⟨j,.str ⟨#[c]⟩,?_,rfl⟩;have a:b.cps.toList[i]?=Z c:=by simpa using h
  rw[ĝ,O_,a]<;>rfl
def rng(a:Int):Nat->List N|0=>[]|n+1=>.int a::rng (a+1) n
def iP:∀(n:Nat)(lo:Int),(rng lo n).length=n|0,_=>rfl|n+1,lo=>by show(rng (lo+1) n).length+1=n+1;rw[iP]
def xH:∀(n:Nat)(lo:Int)(i:Nat),i<n->(rng lo n)[i]?=Z (.int (lo+i))|0,_,_,h=>by omega|n+1,lo,0,_=>by simp[rng]|n+1,lo,i+1,h=>by have q:=xH n (lo+1) i (by omega);show(N.int lo::rng (lo+1) n)[i+1]?=_;rw[Wm,q];congr 2;omega
def ui:Wk s (T' i c) (rng i c) g where
 go:=λa d e b=>by rw[iP]at b;exact b
 stop:=λd e=>by show c<=(rng i c).length;rw[iP];exact r_ _
 yld:=λa d x h e b y=>by obtain⟨f,rfl⟩:=y;rw[iP]at b;exact⟨f,_,xH c i a b,rfl⟩
def Kf(hl:FE a y A):FI a f y (cV A):=by
 constructor;intro f' s σ H R I h;obtain⟨ρ,E,o⟩:=h;have key:ï a H (A ρ) λx j=>∃d,Ô a.K j d x/\ı a j (items d) R:=by unfold cV at o;match hf:A ρ,o with|some (.exc c),o=>exact o|some (.ok d),o=>exactλv j e r=>⟨d,r,ı.mono e o⟩|none,o=>exact o
 refine è (hl.h f' s σ H _ I ⟨ρ,E,key⟩) λv i⟨x,j,u,r1,d,rd,q⟩=>?_;have m:∀(o:Obj)(P:Nat->M_->Prop)(J:It)(k:List N),xa a.prog a.w a.K f J [i.heap.objs.size] i.heap.objs.size P->P 0 (i.heap.push o)->Wk a.K J k j->(∀J H',Í j H'->Wk a.K J k H'->R J H')->PIE a f' σ f R (.ref i.heap.objs.size) {i with heap:=i.heap.push o}:=λo P J k T t0 w q=>by
  refine⟨i.heap.objs.size,[i.heap.objs.size],P,J,j,rfl,u.kept (t':=i.toks) λb o e=>i_ _ e,T,t0,λb hb=>?_,q J j (.refl j) w⟩;have e:b=i.heap.objs.size:=by simpa using hb
  subst e;exact u.fpOk (r_ _) (u.hok.fresh (r_ _))
 cases d with|lst k=>obtain⟨g,xs,rfl,n,h2⟩:=rd.lstE;cases r1;obtain⟨B,rv,p,hz⟩:=u.list (Ć.of n);exact VI p.isList (m _ _ (Itl a.K g) k (xb g _) ⟨_,n_ _ rfl,rfl,rfl⟩ (FH n h2) q)|tup k=>obtain⟨g,xs,rfl,n,h2⟩:=rd.tupE;cases r1;obtain⟨B,rv,p,hz⟩:=u.tuple (ö.of n);exact V9 (show i.heap.IsTuple g B.toArray from p) (m _ _ (Itt a.K g) k (vP g _) ⟨_,n_ _ rfl,rfl,rfl⟩ (Kd n h2) q)|str z=>
  cases(show x=.str z from rd);obtain⟨t,rfl⟩:=r1;have a':aam z="str_ascii_iterator"\/aam z="str_iterator":=by
   unfold aam;split;·exact .inl rfl
   ·exact .inr rfl
  exact wpAny_pyIter_strU (m _ _ (Its z) (ĝ z) (Bz z t _ a') ⟨_,n_ _ rfl,rfl,rfl⟩ Ke q)|_=>exact q.elim
def Oz:List N->Option (Rs (List N))|[.int j]=>if-(2^62)<=j/\j<2^62 then Z (.ok (rng 0 j.toNat))else U|_=>U
def Be:List N->Option (Rs (List N))|[.int i,.int j]=>if-(2^62)<=i/\i<2^62/\-(2^62)<=j/\j<2^62 then Z (.ok (rng i (j-i).toNat))else U|_=>U
def ni{R:It->Hp->Prop}{o:Option (Rs (List N))}{k:List N->Option (Rs (List N))}{P:List V->Hp->Prop}(h:ı a g (Õ o k) R)(i:∀f c b,Í g b->S a.K b f c->ı a b (k f) R->P c b):æ a g o P:=by match o,h with|some (.exc _),h=>exact h|some (.ok d),h=>exactλv j e r=>i d v j e r (ı.mono e h)
def xI(w:Gl a "range")(u:a.mg "range"=U)(z:FA a [y] μ)(q:l_ [y] a.env=[(D,eval y a.env)]:=by lk):FI a f (.Call (.Name "range" B) [y] [] p) (λg=>Õ (μ g) Oz):=by
 constructor;intro A s k H R I h;obtain⟨g,E,o⟩:=h;refine pU w u z.h q A s k H R I ⟨g,E,ni o λP m d e n b=>?_⟩;unfold Oz at b;split at b
 · rename_i j;split at b;·rename_i i;obtain⟨v,c,rfl,r,t⟩:∃v c,m=v::c/\Ô a.K d (.int j) v/\S a.K d [] c:=n;cases(show c=[]from t);cases(show v=.int j from r);exact⟨j,rfl,i.1,i.2,b _ d (.refl d) ui⟩
   ·exact b.elim
 ·exact b.elim
def xJ{b:u_}(hg:Gl a "range")(hm:a.mg "range"=U)(ha:FA a [y,b] μ)(hs:l_ [y,b] a.env=[(D,eval y a.env),(D,eval b a.env)]:=by lk)(q:l_ [b] a.env=[(D,eval b a.env)]:=by lk):FI a f (.Call (.Name "range" B) [y,b] [] p) (λm=>Õ (μ m) Be):=by
 constructor;intro f' s u H R I h;obtain⟨m,E,o⟩:=h;refine xc hg hm ha.h hs q f' s u H R I ⟨m,E,ni o λds w d e P c=>?_⟩;unfold Be at c;split at c
 · rename_i i j;split at c;·rename_i hj;obtain⟨v,k,rfl,r,t⟩:∃v k,w=v::k/\Ô a.K d (.int i) v/\S a.K d [.int j] k:=P;obtain⟨z,n,rfl,r2,A⟩:∃v g,k=v::g/\Ô a.K d (.int j) v/\S a.K d [] g:=t;cases(show n=[]from A);cases(show v=.int i from r);cases(show z=.int j from r2);exact⟨i,j,rfl,hj,c _ d (.refl d) ui⟩
   ·exact c.elim
 ·exact c.elim
def mN(i:Nat)(c:List Nat)(a:Ø):List N->Ev->Option Fl|[],b=>Z (.nx (fgt c b))|d::f,b=>match a ((fgt c b).set i (Z d))with|some (.nx e)=>mN i c a f e|o=>o
def D4(i:Nat)(d:List Nat)(b:á)(a:Ø):Ø:=λc=>cf (b c) λe=>mN i d a e c
def jE{a:List z}(h:a[c]?=Z É):a.drop c=É::a.drop (c+1):=by obtain⟨b,e⟩:=xy.mp h;rw[List.drop_eq_getElem_cons b,e]
def Kg(i:Nat)(t:List Nat)(hp:Wf (y_ a.prog a.w) a.A a.env a.xe)(hc:a.calm=L)(hi:FI a f y μ)(hg:PG a f (w8 i))(hb:Ħ a Ä Τ)(hs:∀x,Sj y a.env x=pure x:=by intro _;lk):FS a (.For f y Ä [] p) (D4 i t μ Τ):=by refine qe (uc hp hc hi.h hg hb.h hs) λb σ H A E o=>⟨A,E,?_⟩;unfold D4 at o;match hf:μ A,o with
 |none,o=>exact o|some (.exc c),o=>exact o|some (.ok k),o=>
 intro J H1 e1 wk;have o1:ò a H1 (mN i t Τ k A) b:=ò.mono e1 o;refine⟨λn m v q=>m=k.length-n/\n<=k.length/\Í H1 q/\∃j,Ù a.K q v j/\ò a q (mN i t Τ (k.drop n) j) b,⟨k.length,by simp,Sb _,.refl H1,A,E.mono e1,by simpa using o1⟩,?_⟩;rintro n m v q⟨rfl,hn,P,j,E',h⟩;by_cases w:n<k.length;·refine .inr ⟨wk.go n q P w,λu z=>Í H1 z/\∃g,Ù a.K z u g/\ò a z (mN i t Τ (k.drop (n+1)) g) b,λu z⟨B,g,E2,o2⟩=>⟨k.length-(n+1),by omega,rfl,w,B,g,E2,o2⟩,λx z e=>?_⟩;obtain⟨rfl,d,hd,rd⟩:=wk.yld n q x z P w e;rw[jE hd]at h;show tS a Τ _ _ _;refine⟨(fgt t j).set i (Z d),(Ù.fgt t E').set rd,?_⟩;unfold mN at h;match s:Τ ((fgt t j).set i (Z d))with|none=>rw[s]at h;exact h|some (.exc c)=>rw[s]at h;exact h|some (.rt r)=>rw[s]at h;exact h|some (.nx g)=>rw[s]at h;exactλu H3 B E3=>⟨P.trans B,g,E3,ò.mono B h⟩
 · have a':n=k.length:=by omega
   subst a';rw[WS]at h;exact .inl ⟨wk.stop q P,h v q (.refl q) (Ù.fgt t E')⟩
def Ŋ(K:d_)(F:Ñ)(n:Nat):Sp:=λc H Q _=>∃a,S K H a c/\a.length=n/\match F a with|some (.ok d)=>∀v b,Í H b->Ô K b d v->Q v b|_=>False
def ab(F:Ñ)(n:Nat)(g:á):Ò:=λb=>Õ (g b) λa=>if a.length=n then(match F a with|some (.ok d)=>Z (.ok d)|_=>U)else U
def FJ(G:ê a.prog a.w a.K a.mg a.base ù c e Ψ v (Ŋ a.K Ρ m))(t:Ö c a.A)(A:Gl a b)(w:a.mg b=Z (.ref e))(z:SU a.K (.ref e)=L)(hb:é a.K Ψ v [])(ha:FA a (f::u) μ)(k:(b==("__debug__":Str))=D:=by lk)(P:l_ (f::u) a.env=(D,eval f a.env)::l_ u a.env:=by lk)(j:(R8 B (l_ u a.env)).any (·.1)=D:=by lk):FE a (.Call (.Name b p) (f::u) [] B) (ab Ρ m μ):=dr (ot G t A w z hb .nil qd ha.h k P j) λσ H Q q E o=>⟨q,E,æ.bind o λn r H' f s h=>by
 show Ŋ a.K Ρ m (r++[]) H' Q E0;rw[Uc];split at h
 ·rename_i y;refine⟨n,s,y,?_⟩;match i:Ρ n with|some (.ok d)=>rw[i]at h;exact h|some (.exc g)=>rw[i]at h;exact h|none=>rw[i]at h;exact h
 ·exact h.elim⟩
def Has(P:on)(w:z_)(K:d_)(c:Str->Option R)(a:M_)(x:Str)(k:Nat)(b:List Str)(F:Ñ):Prop:=∃f d,ê P w K c a ù k f d b (Ŋ K F b.length)/\c x=Z (.ref f)/\SU K (.ref f)=L/\é K d b []
def BA(k:Nat)(j:List Str)(F:Ñ)(h:Has a.prog a.w a.K a.mg a.base b k j F)(n:Ö m a.A)(r:k<=m)(s:Gl a b)(w:FA a (f::u) μ)(o:c=j.length:=by lk)(i:(b==("__debug__":Str))=D:=by lk)(t:l_ (f::u) a.env=(D,eval f a.env)::l_ u a.env:=by lk)(e:(R8 B (l_ u a.env)).any (·.1)=D:=by lk):FE a (.Call (.Name b p) (f::u) [] B) (ab F c μ):=by subst o;obtain⟨d,y,G,q,g,v⟩:=h;exact FJ (G.mono r) n s q g v w i t e
def aQ(m:Nat)(b:Ø):Ñ:=λa=>match b (a.map Z++P_ (m-a.length) U)with|some (.nx _)=>Z (.ok .non)|some (.rt d)=>Z (.ok d)|_=>U
def j6(r:S s g k θ):Ù s g (L2.start v θ) (k.map Z++P_ (v.length-k.length) U):=by
 have f:=r.length;refine⟨by unfold L2.start;rw[SV,SV,E_,E_,Ud,Ud,f],λi d h=>?_⟩;by_cases c:i<k.length;·rw[Su (by simpa using c),O_]at h;cases e:k[i]? with|none=>rw[e]at h;cases h|some n=>rw[e]at h;have b:Z (Z n)=Z (Z d):=h;injection b with b;injection b with b;subst b;obtain⟨a,m,j⟩:=r.get' e;refine⟨a,?_,j⟩;unfold L2.start;rw[Su (by rw[E_,f];exact c),O_,m]<;>rfl
 ·rw[Sn (by simpa using c),Wl]at h;split at h<;>cases h
def OA{N:List Str}(Fn:ĥ s b j τ e Ψ)(S:eH N v (ai τ))(hb:∀(n:R)(A:x_)(m:List Env)(f:g_)(H:Hp)(E:XK),Ö c (A.deeper (Uo j (ai τ) f.heap.objs.size e n))->Ħ (kY ù q o s Η P N j (ai τ) e n A m f H E).nox (bF τ) Τ):ê q o s Η P ù (c+1) e Ψ v (Ŋ s (aQ N.length Τ) v.length):=by
 refine Fn.ok S (λy H Q E h=>?_) (λn A m f H y Q E B h=>?_);·obtain⟨p,r,w,_⟩:=h;rw[r.length,w]
 ·obtain⟨p,r,w,a⟩:=h;refine⟨_,(hb n A m f H E B).h,p.map Z++P_ (N.length-p.length) U,j6 r,?_⟩;unfold aQ at a;match t:Τ (p.map Z++P_ (N.length-p.length) U)with|none=>rw[t]at a;exact a.elim|some (.exc k)=>rw[t]at a;exact a.elim|some (.rt d)=>rw[t]at a;exactλi u g z=>a i u g z|some (.nx ρ)=>rw[t]at a;exactλa' u g _=>a .non u g rfl
def D6(N g:List Str)(h:Ø)(n:Ρ=aQ N.length h)(i:m=g.length)(p:ĥ s b j τ e Ψ)(S:eH N g (ai τ))(k:∀(f:R)(A:x_)(d:List Env)(a:g_)(H:Hp)(E:XK),Ö c (A.deeper (Uo j (ai τ) a.heap.objs.size e f))->Ħ (kY ù q o s Η P N j (ai τ) e f A d a H E).nox (bF τ) h):ê q o s Η P ù (c+1) e Ψ g (Ŋ s Ρ m):=by subst n i;exact OA p S k
def kZ(b:List (Str×Vm))(c:Env)(a:List (Str×O)):List (Str×O):=match b with|[]=>a|(n,k)::r=>kZ r c (if k==.free then(n,(c.cells.lookup n).getD 0)::a else a)
def nj{d:Env}{n:Str}{c:O}:∀(a:List (Str×Vm))(b:List (Str×O)),(kZ a d b).lookup n=Z c->b.lookup n=Z c\/((n,TV)∈a/\c=(d.cells.lookup n).getD 0)
 |[],b,h=>.inl h|(m,k)::r,b,h=>by
  rcases nj r _ h with q|⟨j,i⟩
  · by_cases g:k=.free;·subst g;simp only[beq_self_eq_true,if_true]at q;rw[Sq]at q;cases f:n==m with
      |true=>
      rw[f]at q;have e:n=m:=by simpa using f
      subst e;exact .inr ⟨o_,(Sd q).symm⟩|false=>rw[f]at q;exact .inl q
    · have o:(k==TV)=D:=by simpa using g
      rw[o]at q;exact .inl (by simpa using q)
  ·exact .inr ⟨m_ _ j,i⟩
def qg{c:Env}{n:Str}:∀(b:List (Str×Vm))(a:List (Str×O)),(a.lookup n).isSome=L->((kZ b c a).lookup n).isSome=L
 |[],a,h=>h|(m,k)::r,a,h=>by
  refine qg r _ ?_;split;·rw[Sq];cases n==m with|true=>rfl|false=>exact h
  ·exact h
def ox{c:Env}{n:Str}:∀(a:List (Str×Vm))(b:List (Str×O)),(n,TV)∈a->((kZ a c b).lookup n).isSome=L
 |[],b,h=>by cases h|(m,k)::r,b,h=>by
  rcases w_.mp h with e|q;·injection e with f d;subst f;subst d;refine qg r _ ?_;simp only[beq_self_eq_true,if_true,Sq];rfl
  ·exact ox r _ q
def gk{b:Type}{n:Str}{k:b}:∀{l:List (Str×b)},l.lookup n=Z k->(n,k)∈l|[],h=>by simp at h|(m,j)::r,h=>by rw[Sq]at h;cases a:n==m with
 |true=>
 rw[a]at h;have e:n=m:=by simpa using a
 subst e;have c:j=k:=Sd h;subst c;exact o_|false=>rw[a]at h;exact m_ _ (gk h)
def kG{d:Env}{k:Vm}(h:(aaw ι d).names.lookup b=Z k):(b,k)∈ι.names\/(k=.cell/\(b,TV)∈ι.names):=by
 have q:=gk h;unfold aaw at q;obtain⟨⟨m,j⟩,f,e⟩:=R7.mp q;dsimp only at e;split at e
 · rename_i g;injection e with c a;subst c;have i:j=.free:=by rw[pi,pi]at g;simpa using g.1.1
   subst i;exact .inr ⟨a.symm,f⟩
 ·injection e with c a;subst c;subst a;exact .inl f
def kH{a:Env}:∀{b:List (Str×Vm)}{n:Str},b.lookup n=Z .free->(b.map λ(n,k)=>if(k==TV&&a.scope.kind==.function&&a.kindOf n==Z .cell)then(n,Uj)else(n,k)).lookup n=Z .cell\/(b.map λ(n,k)=>if(k==TV&&a.scope.kind==.function&&a.kindOf n==Z .cell)then(n,Uj)else(n,k)).lookup n=Z .free
 |[],_,h=>by simp at h|(m,k)::r,n,h=>by have e:=@kH a r n;rw[Sq]at h;rw[K_];cases c:n==m with
 |true=>
 rw[c]at h;have f:k=.free:=Sd h;subst f;by_cases d:(TV==TV&&a.scope.kind==.function&&a.kindOf m==Z .cell)=L;·dsimp only;rw[if_pos d,Sq,c];exact .inl rfl
 ·dsimp only;rw[if_neg d,Sq,c];exact .inr rfl|false=>
 rw[c]at h;dsimp only;by_cases d:(k==TV&&a.scope.kind==.function&&a.kindOf m==Z .cell)=L;·rw[if_pos d,Sq,c];exact e h
 ·rw[if_neg d,Sq,c];exact e h
def IN(b:List (Str×Nat))(a:Ev):Ev:=U::b.map λc=>(a[c.2]?).join
def xK(a:Option ë)(b:Ò)(c:Ev):List N->Option (List N)|[]=>Z []|d::f=>let e:=c.set 0 (Z d);match(match a with|none=>(Z (.ok L):Option (Rs Bool))|some t=>t e)with|some (.ok L)=>(match b e with|some (.ok y)=>(match xK a b c f with|some g=>Z (y::g)|none=>U)|_=>U)|some (.ok D)=>xK a b c f|_=>U
def bY(g:List (Str×Nat))(b:á)(a:Option ë)(c:Ò):Ò:=λd=>Õ (b d) λf=>match xK a c (IN g d) f with|some e=>if e.length<=100000/\f.length<=100000 then Z (.ok (.lst e))else U|none=>U
def LAt(h:M_)(a:O)(b:List R):Prop:=∃n,h.get? a=Z {cls:=.type "list",data:=.seq b.toArray n}
def v4(h:LAt d.heap e E)(i:E.length<=100000)(m:∀g,LAt g e (E++[Ζ])->(∀b a,b≠e->d.heap.get? b=Z a->g.get? b=Z a)->Â .none {d with heap:=g}):t_ (y_ q o) w (call (.builtin "list.append") [.ref e,Ζ]) Â ν d:=by
 obtain⟨n,c⟩:=h;refine Wa WZ ⟨_,c,rfl⟩ Zk (Y7 _ _) (ZL e E.toArray n Ζ (by rw[G_];exact cx i)) ⟨c,?_⟩;have f:=aad c (·.push Ζ);have p:E.toArray.push Ζ=(E++[Ζ]).toArray:=by simp
 rw[p]at f;exact m _ ⟨_,f⟩ λb a k j=>(Ut d.heap _ (Vg k)).trans j
def xL(X:C)(a:List u_)(b:Option ë):Prop:=match b with|none=>a=[]|some t=>∃c,a=[c]/\FT X c t
def đ.add{i:M_}{f:HO}(x:đ q o g P)(n:g e=U)(p:g r=U)(k:∀b u,b≠r->P.get? b=Z u->i.get? b=Z u)(j:ì q o (Ý g e f) i e f):đ q o (Ý g e f) i:=λb u d=>by
 by_cases m:b=e;·subst m;rw[ao]at d;cases d;exact j
 · rw[al m]at d;refine(x b u d).stay (λc v h a=>k c v ?_ a) (λc a=>by rw[al (av a n)];exact a) λc s a=>by rw[al (av a n)];exact a
   rcases h with rfl|h;·exact av d p
   ·exact av h p
def FK(h:c<m):c≠m:=by omega
def Kh(h:c<m):c≠m+1:=by omega
def QC:c≠c+1:=by omega
def cH:N->N->Option (Rs N)|.int i,.int j=>Z (.ok (.int (i+j)))|.str x,.str y=>if x.length+y.length<=100000 then Z (.ok (.str (x++y)))else U|.lst a,.lst b=>if a.length+b.length<=100000 then Z (.ok (.lst (a++b)))else U|_,_=>U
def FL:R2:=λx y H Q=>Ŏ (λi j=>.int (i+j)) x y H Q\/((∃i j,x=.str i/\y=.str j/\i.length+j.length<=sizeLine/\Q (.str (i++j)) H)\/Qy x y H Q)
def ŷ:õ a (UX .Add) FL:=op_add.or (op_add_str.or JO)
def Ki:ę a FL cH:=by
 intro t s x y H Q f e o;cases t<;>cases s<;>try exact(show False from o).elim
 ·rename_i i j;exact .inl ⟨i,j,f,e,o _ H (.refl H) rfl⟩
 · rename_i i j;simp only[cH]at o;split at o;·rename_i d;exact .inr (.inl ⟨i,j,f,e,cx d,o _ H (.refl H) rfl⟩)
   ·exact o.elim
 · rename_i c b;simp only[cH]at o;split at o;·rename_i d;obtain⟨p,m,rfl,r,k⟩:=f.lstE;obtain⟨n,g,rfl,q,h⟩:=e.lstE;refine .inr (.inr ⟨p,n,m,g,rfl,rfl,r,q,by rw[k.length,h.length];exact cx d,λl d=>o _ _ (aG d _) ⟨l,_,rfl,ao,S.mono (aG d _) _ _ (k.append h)⟩⟩)
   ·exact o.elim
def xM:N->N->Option (Rs N)|.int i,.int j=>Z (.ok (.int (i-j)))|_,_=>U
def OB:ę a (Ŏ λi j=>.int (i-j)) xM:=by
 intro e d x y H Q c b o;cases e<;>cases d<;>try exact(show False from o).elim
 rename_i i j;exact⟨i,j,c,b,o _ H (.refl H) rfl⟩
def lJ:N->N->Option (Rs N)|.int i,.int j=>if(-18446744073709551616<i/\i<18446744073709551616)\/(-18446744073709551616<j/\j<18446744073709551616)then Z (.ok (.int (i*j)))else U|_,_=>U
def OC:ę a (rI Ū λi j=>.int (i*j)) lJ:=by
 intro e d x y H Q c b o;cases e<;>cases d<;>try exact(show False from o).elim
 rename_i i j;simp only[lJ]at o;split at o;·rename_i h;exact⟨i,j,c,b,h,o _ H (.refl H) rfl⟩
 ·exact o.elim
def jx:N->N->Option (Rs N)|.int i,.int j=>if 0<j then Z (.ok (.int (i%j)))else U|_,_=>U
def OD:ę a (rI (λ_ j=>0<j) λi j=>.int (i%j)) jx:=by
 intro e d x y H Q c b o;cases e<;>cases d<;>try exact(show False from o).elim
 rename_i i j;simp only[jx]at o;split at o;·rename_i h;exact⟨i,j,c,b,h,o _ H (.refl H) rfl⟩
 ·exact o.elim
def jF:N->N->Option (Rs N)|.int i,.int j=>if 0<j/\j<1073741824 then Z (.ok (.int (i/j)))else U|_,_=>U
def Kj:ę a (rI Qs λi j=>.int (i/j)) jF:=by
 intro e d x y H Q c b o;cases e<;>cases d<;>try exact(show False from o).elim
 rename_i i j;simp only[jF]at o;split at o;·rename_i h;exact⟨i,j,c,b,h,o _ H (.refl H) rfl⟩
 ·exact o.elim
def D7:N->Option (Rs N)|.int i=>Z (.ok (.int (-i)))|_=>U
def f1(g:N->Option (Rs N))(b:Ò):Ò:=λa=>Õ (b a) g
def Kk(h:FE a f A):FE a (.UnaryOp .USub f p) (f1 D7 A):=dr (Of JD h.h) λj H Q g E o=>⟨g,E,ï.bind o λd v c e r b=>by
 cases d<;>try exact(show False from b).elim
 rename_i i;exact⟨i,r,b _ c (.refl c) rfl⟩⟩
def seq(x y:Str):Bool:=x.cps.toList==y.cps.toList
def uj(x y:Str):(x==y)=seq x y:=by rw[SS];unfold seq;obtain⟨⟨a⟩⟩:=x;obtain⟨⟨b⟩⟩:=y;simp
def Ŀ:N->N->Option Bool|.non,.non=>Z L|.non,.int _=>Z D|.int _,.non=>Z D|.non,.bl _=>Z D|.bl _,.non=>Z D|.non,.str _=>Z D|.str _,.non=>Z D|.int i,.int j=>Z (i==j)|.bl i,.bl j=>Z (i==j)|.str i,.str j=>Z (seq i j)|.int _,.str _=>Z D|.str _,.int _=>Z D|.bl _,.str _=>Z D|.str _,.bl _=>Z D|_,_=>U
variable{ξ:N}
def D8{y:V}(b:Ô s g n Γ)(a:Ô s g ξ y)(h:Ŀ n ξ=Z t):Oh Γ y=L/\uk (Γ=y)=t:=by cases n<;>cases ξ<;>(try cases h)<;>(try(cases b;cases a;exact⟨rfl,by first|rfl|exact si|exact xf|(rw[sj,uj])|simp⟩))
def OE(p:Int->Int->Bool):N->N->Option (Rs N)|.int i,.int j=>Z (.ok (.bl (p i j)))|_,_=>U
def OF(p:Int->Int->Bool):ę a (Ŏ λi j=>.bl (p i j)) (OE p):=by
 intro e d x y H Q c b o;cases e<;>cases d<;>try exact(show False from o).elim
 rename_i i j;exact⟨i,j,c,b,o _ H (.refl H) rfl⟩
abbrev ű:=OE λi j=>uk (j<i)
def Ą:N->N->Option (Rs N)|x,.non=>Z (.ok (.bl (match x with|.non=>L|_=>D)))|_,_=>U
def kP:N->N->Option (Rs N)|x,.non=>Z (.ok (.bl (match x with|.non=>D|_=>L)))|_,_=>U
def xN(r:Ô s g n Γ):uk (Γ=.non)=(match n with|.non=>L|_=>D):=by cases n with|non=>cases(show Γ=.non from r);rfl|bl b=>cases(show Γ=.bl b from r);rfl|int b=>cases(show Γ=.int b from r);rfl|str b=>cases(show Γ=.str b from r);rfl|tup d=>obtain⟨a,e,rfl,_⟩:=r.tupE;rfl|lst d=>obtain⟨a,e,rfl,_⟩:=r.lstE;rfl|scr d=>obtain⟨a,rfl,_⟩:=r.scrE;rfl|exn c=>obtain⟨a,_,_,_,rfl,_⟩:=r.exnE;rfl|obj k d=>obtain⟨a,_,_,_,rfl,_⟩:=r.objE;rfl
def Kl:ę a (λx y H Q=>y=.non/\Q (.bl (uk (x=.non))) H) Ą:=by
 intro f e x y H Q c b o;cases e<;>try exact(show False from o).elim
 have q:=xN c;refine⟨b,?_⟩;have d:=o _ H (.refl H) rfl;cases f<;>(rw[q];exact d)
def xO:ę a (λx y H Q=>y=.non/\Q (.bl (!uk (x=.non))) H) kP:=by
 intro f e x y H Q c b o;cases e<;>try exact(show False from o).elim
 have q:=xN c;refine⟨b,?_⟩;have d:=o _ H (.refl H) rfl;cases f<;>(rw[q];exact d)
def inS(x y:Str):Bool:=!(Ss y x 0 y.length 1).isEmpty
def gm:N->Bool|.non=>L|.bl _=>L|.int _=>L|.str _=>L|_=>D
def Ŷ:N->N->Bool|.non,.non=>L|.bl a,.bl b=>a==b|.bl a,.int b=>(if a then 1 else 0)==b|.int a,.bl b=>a==(if b then 1 else 0)|.int a,.int b=>a==b|.str a,.str b=>seq a b|_,_=>D
def Ť(x:N)(a:List N):Option Bool:=if gm x&&a.all gm then Z (a.any λy=>Ŷ y x)else U
def IP:N->N->Option Bool|.str x,.str y=>Z (inS x y)|x,.lst a=>Ť x a|x,.tup a=>Ť x a|_,_=>U
def ō(x y:N):Option (Rs N):=match IP x y with|some b=>Z (.ok (.bl b))|none=>U
def qh(x y:N):Option (Rs N):=match IP x y with|some b=>Z (.ok (.bl (!b)))|none=>U
def oy(r:Ô s g n Γ)(h:gm n=L):hZ Γ=L:=by cases n<;>first|(cases h;done)|(cases r;rfl)
def k6{K:d_}{H:Hp}:∀{b:List N}{a:List V},S K H b a->b.all gm=L->a.all hZ=L|[],a,r,_=>by cases(show a=[]from r);rfl|d::b,a,r,h=>by obtain⟨v,c,rfl,f,e⟩:∃v c,a=v::c/\Ô K H d v/\S K H b c:=r;rw[Tn,pi]at h;rw[Tn,pi];exact⟨oy f h.1,k6 e h.2⟩
def xP{u:V}(r:Ô s g n Γ)(q:Ô s g ξ u)(h:gm n=L)(a:gm ξ=L):ĭ Γ u=Ŷ n ξ:=by cases n<;>first|(cases h;done)|(cases r;cases ξ<;>first|(cases a;done)|(cases q;first|rfl|exact uj _ _))
def Ea{K:d_}{H:Hp}{e:N}{u:V}(q:Ô K H e u)(f:gm e=L):∀{b:List N}{a:List V},S K H b a->b.all gm=L->(a.any λy=>ĭ y u)=b.any λy=>Ŷ y e|[],a,r,_=>by cases(show a=[]from r);rfl|d::b,a,r,h=>by obtain⟨v,c,rfl,i,g⟩:∃v c,a=v::c/\Ô K H d v/\S K H b c:=r;rw[Tn,pi]at h;rw[WW,WW,xP i q h.1 f,Ea q f g h.2]
def ul(c:Ô s g n Γ)(b:S s g k θ)(h:Ť n k=Z t):hZ Γ=L/\θ.all hZ=L/\inV Γ θ=t:=by
 unfold Ť at h;split at h;·rename_i a;rw[pi]at a;cases h;exact⟨oy c a.1,k6 b a.2,Ea c a.1 b a.2⟩
 ·cases h
def QD(K:d_):R2:=λx y H Q=>(∃i j,x=.str i/\y=.str j/\Q (.bl (!(Ss j i 0 j.length 1).isEmpty)) H)\/rIn K D x y H Q
def su(K:d_):R2:=λx y H Q=>(∃i j,x=.str i/\y=.str j/\Q (.bl (!(!(Ss j i 0 j.length 1).isEmpty))) H)\/rIn K L x y H Q
def QF:õ a (So .In) (QD a.K):=op_in_str.or xC
def Ņ:õ a (So .NotIn) (su a.K):=op_notIn_str.or qc
def QG:ę a (QD a.K) ō:=by
 intro e r x y H Q j i o;unfold ō at o;split at o
 · rename_i b f;have q:=o _ H (.refl H) rfl;cases r<;>try(cases e<;>cases f;done)
   · rename_i z;cases e<;>try(cases f;done)
     rename_i p;cases f;exact .inl ⟨p,z,j,i,q⟩
   · rename_i g;have d:Ť e g=Z b:=by cases e<;>exact f
     obtain⟨c,h,rfl,m,k⟩:=i.tupE;obtain⟨f1,I,n⟩:=ul j k d;exact .inr ⟨c,h,rfl,.inr (ö.of m),f1,I,by rw[if_neg C_,n];exact q⟩
   · rename_i g;have d:Ť e g=Z b:=by cases e<;>exact f
     obtain⟨c,h,rfl,m,k⟩:=i.lstE;obtain⟨f1,I,n⟩:=ul j k d;exact .inr ⟨c,h,rfl,.inl (Ć.of m),f1,I,by rw[if_neg C_,n];exact q⟩
 ·exact o.elim
def xQ:ę a (su a.K) qh:=by
 intro e r x y H Q j i o;unfold qh at o;split at o
 · rename_i b f;have q:=o _ H (.refl H) rfl;cases r<;>try(cases e<;>cases f;done)
   · rename_i z;cases e<;>try(cases f;done)
     rename_i p;cases f;exact .inl ⟨p,z,j,i,q⟩
   · rename_i g;have d:Ť e g=Z b:=by cases e<;>exact f
     obtain⟨c,h,rfl,m,k⟩:=i.tupE;obtain⟨f1,I,n⟩:=ul j k d;exact .inr ⟨c,h,rfl,.inr (ö.of m),f1,I,by rw[if_pos rfl,n];exact q⟩
   · rename_i g;have d:Ť e g=Z b:=by cases e<;>exact f
     obtain⟨c,h,rfl,m,k⟩:=i.lstE;obtain⟨f1,I,n⟩:=ul j k d;exact .inr ⟨c,h,rfl,.inl (Ć.of m),f1,I,by rw[if_pos rfl,n];exact q⟩
 ·exact o.elim
def ó(a:List z)(i:Int):Option z:=if 0<=i then a[i.toNat]? else if-(a.length:Int)<=i then a[(i+a.length).toNat]? else U
def oz{a:List z}(h:ó a i=Z É):K' a i=Z É:=by
 unfold ó at h;unfold K' Ź;split at h
 · rename_i b;have d:i.toNat<a.length:=by obtain⟨q,_⟩:=xy.mp h;exact q
   rw[if_pos b,if_pos (by omega)];exact h
 · rename_i b;split at h;·rename_i c;rw[if_neg b,if_pos c];exact h
   ·cases h
def Ì:N->N->Option (Rs N)|.lst a,.int i=>(match ó a i with|some d=>Z (.ok d)|none=>U)|.tup a,.int i=>(match ó a i with|some d=>Z (.ok d)|none=>U)|.str z,.int i=>if z.length<=100000 then(match ó z.cps.toList i with|some c=>Z (.ok (.str ⟨#[c]⟩))|none=>U)else U|.scr b,.int i=>(match ó b i with|some d=>Z (.ok (.int d))|none=>U)|_,_=>U
def sx{b:List z}{a:List Χ}(h:a.length=b.length){i:Int}{x:z}(e:ó b i=Z x):∃j:Nat,b[j]?=Z x/\∀y,a[j]?=Z y->ó a i=Z y:=by
 unfold ó at e;split at e;·rename_i c;exact⟨_,e,λy q=>by unfold ó;rw[if_pos c];exact q⟩
 · rename_i c;split at e;·rename_i d;exact⟨_,e,λy q=>by unfold ó;rw[if_neg c,h,if_pos d];exact q⟩
   ·cases e
def Rn:ę a (rIx a.K) Ì:=by
 intro A w x y H Q n m o;cases A<;>cases w<;>try exact(show False from o).elim
 · rename_i z i;simp only[Ì]at o;split at o
   · rename_i t;split at o;·rename_i c u;exact .inr (.inr ⟨z,i,c,n,m,cx t,oz u,o _ H (.refl H) rfl⟩)
     ·exact o.elim
   ·exact o.elim
 · rename_i B i;simp only[Ì]at o;split at o;·rename_i d e;obtain⟨b,p,rfl,g,f⟩:=n.tupE;obtain⟨j,k,h⟩:=sx f.length e;obtain⟨v,r,q⟩:=f.get' k;exact .inr (.inl ⟨b,p,i,v,rfl,m,ö.of g,oz (h v r),o v H (.refl H) q⟩)
   ·exact o.elim
 · rename_i B i;simp only[Ì]at o;split at o;·rename_i d e;obtain⟨b,p,rfl,g,f⟩:=n.lstE;obtain⟨j,k,h⟩:=sx f.length e;obtain⟨v,r,q⟩:=f.get' k;exact .inl ⟨b,p,i,v,rfl,m,Ć.of g,oz (h v r),o v H (.refl H) q⟩
   ·exact o.elim
 · rename_i s i;simp only[Ì]at o;split at o;·rename_i d e;obtain⟨b,rfl,g⟩:=n.scrE;obtain⟨j,k,h⟩:=sx (a:=s.map V.int) (by simp) e;exact .inl ⟨b,_,i,.int d,rfl,m,g,oz (h _ (by rw[O_,k]<;>rfl)),o _ H (.refl H) rfl⟩
   ·exact o.elim
def OG(d:FE a f A)(c:FE a y È)(b:xA y:=by intro _ _;lk):FE a (.Subscript f y p) (I Ì A È):=dr (Op JL d.h c.h b) λ_ _ _ _ E o=>two Rn E o
abbrev Ž:=Ev->Option (Rs (Option Int))
def QH(X:C)(H:Hp)(o:Option (Rs (Option Int)))(Q:Option Int->Hp->Prop):Prop:=match o with|none=>False|some (.exc c)=>XW X c H|some (.ok d)=>∀a,Í H a->Q d a
structure FO(X:C)(e:Option u_)(f:Ž):Prop where h:PO X e λσ H Q=>∃ρ,Ù X.K H σ ρ/\QH X H (f ρ) Q
def fL:Ž:=λ_=>Z (.ok U)
def toI:N->Option (Rs (Option Int))|.int i=>Z (.ok (Z i))|_=>U
def cY(f:Ò):Ž:=λa=>Õ (f a) toI
def FM:FO a U fL:=⟨λc s b H Q I⟨_,_,o⟩=>Fq c s b H Q I (o H (.refl H))⟩
def FN(h:FE a f A):FO a (Z f) (cY A):=⟨λg s e H Q I⟨b,E,o⟩=>Ft h.h g s e H Q I ⟨b,E,by unfold cY at o;match k:A b,o with
 |none,o=>exact o|some (.exc c),o=>exact o|some (.ok d),o=>
 intro v j f r;cases d<;>try exact(show False from o).elim
 rename_i i;exact⟨i,r,o j f⟩⟩⟩
def xR(a:List z)(b c:Option Int):List z:=(a.drop (HT.sIx a.length 0 b)).take (HT.sIx a.length a.length c-HT.sIx a.length 0 b)
def Ro:V->Option Int->Option Int->Hp->VK->Prop:=λx lo a H Q=>∃z,x=.str z/\z.length<=sizeLine/\Q (.str (Z9 z lo a)) H
def Ş:Ų a Ro:=by intro o s m H x v r p lo h w Q I n e pl g q;obtain⟨z,rfl,d,q⟩:=q;obtain⟨t,rfl⟩:=n;refine⟨"str",_,F.slot_str_getitem.lookup,V_ _ _ _,?_⟩;have c:∀(b:Tok)(k:Nat),EP a o m Q (.str (Z9 z lo h) b) {s with toks:=k}:=λb k=>⟨.str (Z9 z lo h),H,I.tok _,⟨_,rfl⟩,q⟩;cases pl with
 |none=>cases g with|none=>exact Vh (l:=U) (u:=U) (st:=U) e rfl (W4 ⟨RZ (Ys z _ _) d,λb k=>c b k⟩)|int j u=>exact Vh (l:=U) (u:=Z (j,u)) (st:=U) e rfl (W4 ⟨RZ (Ys z _ _) d,λb k=>c b k⟩)
 |int i f=>cases g with|none=>exact Vh (l:=Z (i,f)) (u:=U) (st:=U) e rfl (W4 ⟨RZ (Ys z _ _) d,λb k=>c b k⟩)|int j u=>exact Vh (l:=Z (i,f)) (u:=Z (j,u)) (st:=U) e rfl (W4 ⟨RZ (Ys z _ _) d,λb k=>c b k⟩)
def ND(x:N)(a b:Option Int):Option (Rs N):=match x with|.str z=>if z.length<=100000 then Z (.ok (.str (Z9 z a b)))else U|.lst c=>Z (.ok (.lst (xR c a b)))|_=>U
def wQ(e:Ò)(c d:Ž):Ò:=λa=>Õ (e a) λx=>Õ (c a) λlo=>Õ (d a) λb=>ND x lo b
def jG{o:Option (Rs (Option Int))}{k:Option Int->Option (Rs N)}{P:Option Int->Hp->Prop}(h:ï a g (Õ o k) Ç)(f:∀b c,Í g c->ï a c (k b) Ç->P b c):QH a g o P:=by match o,h with|some (.exc _),h=>exact h|some (.ok d),h=>exactλi e=>f d i e (ï.mono e h)
def Km{h j:Option u_}{m n:Ž}(ha:FE a f A)(hl:FO a h m)(hh:FO a j n):FE a (.Subscript f (.Slice h j U p) B) (wQ A m n):=dr (uf (Ş.or xB) ha.h hl.h hh.h) λσ H Q e E o=>⟨e,E,ï.bind o λd v H1 r w P=>⟨e,E.mono r,jG P λl H2 q y=>⟨e,(E.mono r).mono q,jG y λu s e3 c=>by
 have g:=Ô.mono e3 d v (Ô.mono q d v w);cases d<;>try exact(show False from c).elim
 · rename_i z;unfold ND at c;dsimp only at c;split at c;·rename_i hz;exact .inl ⟨z,g,cx hz,c _ s (.refl s) rfl⟩
   ·exact c.elim
 ·rename_i ds;obtain⟨a',t,rfl,h1,k⟩:=g.lstE;refine .inr ⟨a',t,rfl,Ć.of h1,λb i=>c _ _ (aG i _) ⟨b,_,rfl,ao,S.mono (aG i _) _ _ ?_⟩⟩;unfold Bu xR;rw[k.length];exact(k.drop _).take _⟩⟩⟩
def gZ:Ñ|[.str z]=>if z.length<=100000 then Z (.ok (.int z.length))else U|[.lst a]=>Z (.ok (.int a.length))|[.tup a]=>Z (.ok (.int a.length))|[.scr b]=>Z (.ok (.int b.length))|_=>U
def â(g:Ñ)(b:á):Ò:=λa=>Õ (b a) g
def cZ(r:S s g [n] θ):∃v,θ=[v]/\Ô s g n v:=by obtain⟨v,a,rfl,c,b⟩:∃v a,θ=v::a/\Ô s g n v/\S s g [] a:=r;cases(show a=[]from b);exact⟨v,rfl,c⟩
def BB(r:S s g [n,ξ] θ):∃v a,θ=[v,a]/\Ô s g n v/\Ô s g ξ a:=by obtain⟨v,b,rfl,e,d⟩:∃v b,θ=v::b/\Ô s g n v/\S s g [ξ] b:=r;obtain⟨a,rfl,c⟩:=cZ d;exact⟨v,a,rfl,e,c⟩
def Kn(s:Gl a "len")(q:a.mg "len"=U)(w:FA a (f::u) μ)(t:l_ (f::u) a.env=(D,eval f a.env)::l_ u a.env:=by lk)(j:(R8 B (l_ u a.env)).any (·.1)=D:=by lk):FE a (.Call (.Name "len" p) (f::u) [] B) (â gZ μ):=dr (gK Bo s q aaG w.h (by decide) (by decide) t j) λy H Q k E o=>⟨k,E,æ.bind o λds A d e1 g c=>by
 unfold gZ at c;split at c
 · rename_i z;split at c;·rename_i n;obtain⟨v,rfl,r⟩:=cZ g;cases(show v=.str z from r);exact⟨_,_,rfl,⟨cx n,rfl⟩,c _ d (.refl d) rfl⟩
   ·exact c.elim
 ·rename_i m;obtain⟨v,rfl,r⟩:=cZ g;obtain⟨b,h,rfl,e,i⟩:=r.lstE;exact⟨_,_,rfl,.inl ⟨h,Ć.of e,rfl⟩,c _ d (.refl d) (by rw[i.length];rfl)⟩
 ·rename_i m;obtain⟨v,rfl,r⟩:=cZ g;obtain⟨b,h,rfl,e,i⟩:=r.tupE;exact⟨_,_,rfl,.inr ⟨h,ö.of e,rfl⟩,c _ d (.refl d) (by rw[i.length];rfl)⟩
 ·rename_i P;obtain⟨v,rfl,r⟩:=cZ g;obtain⟨b,rfl,e⟩:=r.scrE;exact⟨_,_,rfl,.inl ⟨_,e,rfl⟩,c _ d (.refl d) (by rw[E_];rfl)⟩
 ·exact c.elim⟩
def i5:List N->Option (List Bool)|[]=>Z []|.bl b::r=>(match i5 r with|some bs=>Z (b::bs)|none=>U)|_=>U
def mO:Ñ|[.lst a]=>(match i5 a with|some bs=>Z (.ok (.bl (bs.all id)))|none=>U)|_=>U
def oA{K:d_}{H:Hp}:∀{e:List N}{c:List V}{a:List R}{bs:List Bool},S K H e c->Î c a->i5 e=Z bs->a=bs.map R9
 |[],c,a,bs,r,q,h=>by cases(show c=[]from r);cases q;cases h;rfl|d::e,c,a,bs,r,q,h=>by obtain⟨v,n,rfl,i,g⟩:∃v a,c=v::a/\Ô K H d v/\S K H e a:=r;cases q with|cons k j=>
 cases d<;>try(cases h;done)
 rename_i b;simp only[i5]at h;cases f:i5 e with|none=>rw[f]at h;cases h|some m=>rw[f]at h;cases h;cases(show v=.bl b from i);cases k;rw[oA g j f];rfl
def BC:kO a (.builtin "all") (λw H Q=>∃c m bs p,w=[.ref c]/\H c=Z (.lst m)/\S a.K H p m/\i5 p=Z bs/\a.calm=L/\Q (.bl (bs.all id)) H):=by
 intro f' s σ H w us Q I r h;obtain⟨c,m,bs,p,rfl,h1,h2,h3,hc,q⟩:=h;obtain⟨u,rfl,E⟩:=eD r;cases E;obtain⟨z,a',n,B,hl,e⟩:=I.lstM h1;have j:=oA h2 B h3;subst j;have y:s.heap.IsList c (bs.map R9).toArray:=⟨_,e,rfl,_,rfl⟩;have t:c<s.heap.objs.size:=v_ e;refine call_all_walk (VI y ?_);refine⟨s.heap.objs.size,[s.heap.objs.size,c],[s.heap.objs.size],(bs.map R9).toArray.size,_,_,λi=>(bs[i]?).getD L,rfl,ZA (A:=a.A.in1) (I.ok.hd hc) _ c (D_ t) (bs.map R9).toArray,⟨⟨_,n_ _ rfl,rfl,rfl⟩,y.push _⟩,λi v A Q' E' hP hQ=>?_,λh' tk hk=>?_⟩
 · have d:(bs.map R9)[i]?=Z v:=by simpa using hP
   rw[O_]at d;cases g:bs[i]? with|none=>rw[g]at d;cases d|some b=>rw[g]at d;cases d;have k:Q' ((bs[i]?).getD L) A:=hQ;rw[g]at k;exact TW k
 · have e2:((rl (bs.map R9).toArray.size).all λi=>(bs[i]?).getD L)=bs.all id:=by
    rw[G_,E_];rw[SS];simp only[S3,SH,id];constructor;·intro o b g;obtain⟨i,f,rfl⟩:=U6.mp g;simpa[f]using o i f
    ·intro o i f;simp only[s_ f,aae];exact o _ (Vr f)
   rw[e2];refine⟨.bl _,H,I.kept λb x j=>hk b x (λP=>?_) (i_ _ j),rfl,q⟩;rw[Sf.mp P]at j;exact Tg _ (v_ j)
def Ko(q:a.calm=L)(m:Gl a "all")(k:a.mg "all"=U)(t:FA a (f::u) μ)(n:l_ (f::u) a.env=(D,eval f a.env)::l_ u a.env:=by lk)(d:(R8 B (l_ u a.env)).any (·.1)=D:=by lk):FE a (.Call (.Name "all" p) (f::u) [] B) (â mO μ):=dr (gK BC m k PyProof.Rows.boot_all t.h (by decide) (by decide) n d) λz H Q g E o=>⟨g,E,æ.bind o λds A e P j c=>by
 unfold mO at c;split at c
 · rename_i h;split at c;·rename_i bs s;obtain⟨v,rfl,r⟩:=cZ j;obtain⟨b,i,rfl,y,w⟩:=r.lstE;exact⟨b,i,bs,h,rfl,y,w,s,q,c _ e (.refl e) rfl⟩
   ·exact c.elim
 ·exact c.elim⟩
def tyD:N->String|.non=>"NoneType"|.bl _=>"bool"|.int _=>"int"|.str _=>"str"|.tup _=>"tuple"|.lst _=>"list"|.scr _=>"list"|.exn _=>"object"|.obj _ _=>"object"
def FP(r:Ô s g n Γ)(j:∀e,n≠.scr e)(i:∀c,n≠.exn c)(m:∀k d,n≠.obj k d):ud s g Γ (.type (tyD n)):=by cases n with|non=>cases(show Γ=.non from r);exact .non|bl b=>cases(show Γ=.bl b from r);exact .bl b|int b=>cases(show Γ=.int b from r);exact .int b|str b=>cases(show Γ=.str b from r);exact .str b|tup d=>obtain⟨a,f,rfl,h,_⟩:=r.tupE;exact .tup h|lst d=>obtain⟨a,f,rfl,h,_⟩:=r.lstE;exact .lst h|scr e=>exact absurd rfl (j e)|exn c=>exact absurd rfl (i c)|obj k d=>exact absurd rfl (m k d)
def BD(T:String):kO a (.builtin "isinstance") (λd H Q=>∃x t b,d=[x,.ty T]/\ud a.K H x t/\Vk a.K t (.type T)=Z b/\Q (.bl b) H):=by intro n s k H d m Q I r h;obtain⟨x,t,b,rfl,f,j,q⟩:=h;obtain⟨u,e,rfl,i,c⟩:=Ff r;cases(show e=p_ T from c);exact xp I i f j λg=>⟨.bl b,H,I.tok g,rfl,q⟩
def i7(a:N->Bool):N->Option (Rs N)|.scr _=>U|.exn _=>U|.obj _ _=>U|d=>Z (.ok (.bl (a d)))
variable{Υ:Pos}
def um{T:String}{q:N->Bool}(hk:∀K d,Vk K (.type (tyD d)) (.type T)=Z (q d))(hT:TC (b_ T)=Z (.type T))(y:b_ T≠"__name__")(n:(b_ T==("__debug__":Str))=D)(hg:Gl a "isinstance")(P:a.mg "isinstance"=U)(m:Gl a (b_ T))(j:a.mg (b_ T)=U)(ha:FE a f A)(e:l_ [f,.Name (b_ T) Υ] a.env=(D,eval f a.env)::l_ [.Name (b_ T) Υ] a.env:=by lk)(h:l_ [.Name (b_ T) Υ] a.env=(D,eval (.Name (b_ T) Υ) a.env)::l_ [] a.env:=by lk)(i:(R8 B (l_ [.Name (b_ T) Υ] a.env)).any (·.1)=D:=by lk):FE a (.Call (.Name "isinstance" p) [f,.Name (b_ T) Υ] [] B) (f1 (i7 q) A):=dr (gK (BD T) hg P PyProof.Rows.boot_isinstance (oq ha.h (oq (Fb (Γ:=.ty T) m j hT rfl y n) xq h) e) (by decide) (by decide) e i) λσ H Q u E o=>⟨u,E,ï.bind o λd v s e1 r g=>by show∃x t b,[v,V.ty T]=[x,.ty T]/\_;cases d with|scr w=>exact g.elim|exn c=>exact g.elim|obj k ds=>exact g.elim|_=>exact⟨v,_,_,rfl,FP r (λw z=>by cases z) (λc z=>by cases z) (λk ds z=>by cases z),hk a.K _,g _ s (.refl s) rfl⟩⟩
def qi:N->Bool|.str _=>L|_=>D
def FQ(K:d_)(d:N):Vk K (.type (tyD d)) (.type "str")=Z (qi d):=by cases d<;>lk
def sy:N->Bool|.tup _=>L|_=>D
def FR(K:d_)(d:N):Vk K (.type (tyD d)) (.type "tuple")=Z (sy d):=by cases d<;>lk
def dH:N->Bool|.bl _=>L|_=>D
def BE(K:d_)(d:N):Vk K (.type (tyD d)) (.type "bool")=Z (dH d):=by cases d<;>lk
def fM(g:Str->Ñ)(d:Ò)(c:á):Ò:=λa=>Õ (d a) λx=>match x with|.str i=>Õ (c a) λb=>g i b|_=>U
def qj(h:Str->Str->Bool):Str->Ñ|x,[.str y]=>Z (.ok (.bl (h x y)))|_,_=>U
def NE(h:Str->Str->Int):Str->Ñ|x,[.str y]=>Z (.ok (.int (h x y)))|_,_=>U
def FU(h:Str->Str->Bool):V->List V->Hp->VK->Prop:=λx a H Q=>∃i j,x=.str i/\a=[.str j]/\Q (.bl (h i j)) H
def Kp(h:Str->Str->Int):V->List V->Hp->VK->Prop:=λx a H Q=>∃i j,x=.str i/\a=[.str j]/\Q (.int (h i j)) H
def OH:ŉ a "str.startswith" (FU Sk):=by intro m s e H x f v g Q I b d h;obtain⟨i,j,rfl,rfl,q⟩:=h;obtain⟨t,rfl⟩:=b;obtain⟨u,rfl,c⟩:=eD d;obtain⟨k,rfl⟩:=c;exact SC.startswith ⟨.bl _,H,I,rfl,q⟩
def OI:ŉ a "str.endswith" (FU Xh):=by intro m s e H x f v g Q I b d h;obtain⟨i,j,rfl,rfl,q⟩:=h;obtain⟨t,rfl⟩:=b;obtain⟨u,rfl,c⟩:=eD d;obtain⟨k,rfl⟩:=c;exact SC.endswith ⟨.bl _,H,I,rfl,q⟩
def BF:ŉ a "str.rfind" (Kp aa0):=by intro m s e H x f v g Q I b d h;obtain⟨i,j,rfl,rfl,q⟩:=h;obtain⟨t,rfl⟩:=b;obtain⟨u,rfl,c⟩:=eD d;obtain⟨k,rfl⟩:=c;exact SC.rfind ⟨.int _,H,I.tok _,⟨_,rfl⟩,q⟩
def FV{o:String}{r:V->List V->Hp->VK->Prop}{g:Str->Ñ}(j:Slot "str" b o)(q:aaz (.builtin o)=pure (.type "method_descriptor"))(hm:ŉ a o r)(hg:∀i n m H Q,S a.K H n m->ï a H (g i n) Q->r (.str i) m H Q)(ho:FE a y A)(ha:FA a (f::u) μ)(h:TU y b a.env (eval y a.env)=eval y a.env:=by lk)(k:((R8 B (l_ (f::u) a.env)).all (λx=>!x.1)&&(Tx B (SN [] a.env)).all (λx=>x.1.isSome)&&uk ((f::u).length+([]:List Vw).length+(if([]:List Vw).isEmpty then 0 else 1)<30))=L:=by lk)(e:(p.endLine==B.line)=L:=by lk)(P:l_ (f::u) a.env=(D,eval f a.env)::l_ u a.env:=by lk)(c:(R8 B (l_ u a.env)).any (·.1)=D:=by lk):FE a (.Call (.Attribute y b p) (f::u) [] B) (fM g A μ):=dr (Bw PySem.F.plainAttrs_str j q hm ho.h ha.h h k e P c) λσ H Q s E y=>⟨s,E,ï.bind y λd v H1 e1 rd t=>by
 cases d<;>try exact(show False from t).elim
 rename_i i;cases(show v=.str i from rd);exact⟨rfl,s,E.mono e1,æ.bind t λn m H2 e2 w z=>hg i n m H2 Q w z⟩⟩
def Eb{h:Str->Str->Bool}(i:Str)(d:List N)(c:List V)(H:Hp)(Q:VK)(e:S a.K H d c)(o:ï a H (qj h i d) Q):FU h (.str i) c H Q:=by
 unfold qj at o;split at o;·rename_i j;obtain⟨w,rfl,b⟩:=cZ e;cases(show w=.str j from b);exact⟨i,j,rfl,rfl,o _ H (.refl H) rfl⟩
 ·exact o.elim
def Kq{h:Str->Str->Int}(i:Str)(d:List N)(c:List V)(H:Hp)(Q:VK)(e:S a.K H d c)(o:ï a H (NE h i d) Q):Kp h (.str i) c H Q:=by
 unfold NE at o;split at o;·rename_i j;obtain⟨w,rfl,b⟩:=cZ e;cases(show w=.str j from b);exact⟨i,j,rfl,rfl,o _ H (.refl H) rfl⟩
 ·exact o.elim
def QI(K:d_):R2:=λx y H Q=>∃(a b:O)(c:List Int),x=.ref a/\y=.ref b/\Ć K H a (c.map V.int)/\H b=Z (.lst [])/\Q (.bl c.isEmpty) H
def OJ(f:a.A.units<cLine):õ a (So .Eq) (QI a.K):=by intro f' s σ H x y v u Q I o m h;obtain⟨c,b,e,rfl,rfl,A,w,q⟩:=h;cases o;cases m;obtain⟨d,r,pl,hz⟩:=I.list A;obtain⟨z2,k,n2,p,P,B⟩:=I.lstM w;cases p;have j:s.heap.IsList b #[]:=⟨_,B,rfl,_,rfl⟩;have g:=r.length;cases e with
 |nil=>
 have E:d=[]:=by cases d with|nil=>rfl|cons _ _=>simp at g
 subst E;exact SeqAt.eq_listAt (e:=λ_=>L) pl.isList j rfl f (λi t=>absurd t (by simp)) (by first|exact⟨.bl _,H,I,rfl,q⟩|(refine⟨.bl _,H,I,?_,q⟩;simp[Ú]))|cons n e=>
 refine SeqAt.eq_list_lengthsAt pl.isList j ?_ f ⟨.bl _,H,I,rfl,q⟩;have:0<d.length:=by rw[<-g];simp
 simp;exactλz=>by rw[z]at this;simp at this
def NF:N->N->Option (Rs N)|.scr a,.lst []=>Z (.ok (.bl a.isEmpty))|_,_=>U
def OK:ę a (QI a.K) NF:=by
 intro m k x y H Q f e o;unfold NF at o;split at o;·rename_i g;obtain⟨c,rfl,j⟩:=f.scrE;obtain⟨b,d,rfl,i,h⟩:=e.lstE;cases(show d=[]from h);exact⟨c,b,g,rfl,rfl,j,i,o _ H (.refl H) rfl⟩
 ·exact o.elim
def Kr:TC (b_ "str")=Z (.type "str"):=PyProof.Rows.boot_str
def BG:TC (b_ "tuple")=Z (.type "tuple"):=by decide+kernel
def FX:TC (b_ "bool")=Z (.type "bool"):=by decide+kernel
mutual
def di:N->PyData|.non=>.none|.bl b=>.bool b|.int i=>.int i|.str x=>.str x|.tup a=>.tuple (ç a)|.lst a=>.list (ç a)|.scr c=>.list (c.map PyData.int)|.exn _=>.dict []|.obj _ _=>.dict []def ç:List N->List PyData|[]=>[]|d::e=>di d::ç e
end
def nn{s:g_}:∀{b:List Int}{a:List R},Î (b.map V.int) a->∃as,ReadsAll s.heap a (b.map PyData.int) as|[],a,r=>by cases r;exact⟨_,.nil⟩|n::b,a,r=>by cases r with|cons d c=>obtain⟨t,rfl⟩:=d;obtain⟨as,q⟩:=nn c;exact⟨_,.cons (.int n t) q⟩
mutual
theorem Ô.reads{X:C}{P:List (O×Obj)}{A:L2.St}{H:Hp}{s:g_}(I:Ë X P A H s):∀(d:N)(v:V)(u:R),Ô X.K H d v->Ú v u->(di d).canLay0=L->∃as,Reads s.heap u (di d) as|.non,v,u,r,q,f=>by cases(show v=.non from r);cases(show u=F_ from q);exact⟨_,.none⟩|.bl b,v,u,r,q,f=>by cases(show v=.bl b from r);cases(show u=R9 b from q);exact⟨_,.bool b⟩|.int i,v,u,r,q,f=>by cases(show v=.int i from r);obtain⟨t,rfl⟩:=(show∃t,u=Zh i t from q);exact⟨_,.int i t⟩|.str x,v,u,r,q,f=>by cases(show v=.str x from r);obtain⟨t,rfl⟩:=(show∃t,u=Ti x t from q);exact⟨_,.str x t⟩|.tup g,v,u,r,q,f=>by obtain⟨a,B,rfl,h,E⟩:=r.tupE;cases(show u=B_ a from q);obtain⟨j,p,⟨o,e,c,n,d⟩,hz⟩:=I.tuple (ö.of h);obtain⟨as,w⟩:=S.reads I g B j E p (by simpa[di,Sl]using f);exact⟨as,.tuple e c d (by simpa using w)⟩|.lst g,v,u,r,q,f=>by obtain⟨a,B,rfl,h,E⟩:=r.lstE;cases(show u=B_ a from q);obtain⟨z,j,n,p,hl,e⟩:=I.lstM h;obtain⟨as,w⟩:=S.reads I g B j E p (by simpa[di,Sl]using f);exact⟨a::as,.list e rfl rfl (by simpa using w)⟩|.scr ns,v,u,r,q,f=>by obtain⟨a,rfl,h⟩:=r.scrE;cases(show u=B_ a from q);obtain⟨j,p,⟨o,n,e,c,hd,d⟩,hz⟩:=I.list h;obtain⟨as,w⟩:=nn (s:=s) p;exact⟨a::as,.list e c d (by simpa using w)⟩|.exn c,v,u,r,q,f=>by simp[di,Sl]at f|.obj c g,v,u,r,q,f=>by simp[di,Sl]at f
theorem S.reads{X:C}{P:List (O×Obj)}{A:L2.St}{H:Hp}{s:g_}(I:Ë X P A H s):∀(g:List N)(m:List V)(k:List R),S X.K H g m->Î m k->TZ (ç g)=L->∃as,ReadsAll s.heap k (ç g) as|[],m,k,r,q,_=>by cases(show m=[]from r);cases q;exact⟨_,.nil⟩|d::g,m,k,r,q,f=>by obtain⟨v,ws,rfl,r1,r2⟩:∃v k,m=v::k/\Ô X.K H d v/\S X.K H g k:=r;cases q with|cons q1 q2=>
 have y:(di d).canLay0=L/\TZ (ç g)=L:=by simpa[ç,TZ]using f
 obtain⟨as,a⟩:=Ô.reads I d v _ r1 q1 y.1;obtain⟨bs,b⟩:=S.reads I g ws _ r2 q2 y.2;exact⟨_,.cons a b⟩end
def okP(d:N):Bool:=SeqAt.shaped (di d)
def rPy(X:C)(c:Bool):R2:=λx y H Q=>∃b a,Ô X.K H b x/\Ô X.K H a y/\okP b=L/\okP a=L/\Q (.bl (if c then !SI (di b) (di a)else SI (di b) (di a))) H
def Ks(k:a.A.units+64<cLine):õ a (So .Eq) (rPy a D):=by intro p s o H x y v u Q I e d h;obtain⟨n,m,j,i,c,b,q⟩:=h;obtain⟨as,g⟩:=Ô.reads I n x v j e (TQ.mp c).1;obtain⟨bs,f⟩:=Ô.reads I m y u i d (TQ.mp b).1;exact SeqAt.compareEq_shaped g f c b k ⟨.bl _,H,I,rfl,q⟩
def Kt(k:a.A.units+64<cLine):õ a (So .NotEq) (rPy a L):=by intro p s o H x y v u Q I e d h;obtain⟨n,m,j,i,c,b,q⟩:=h;obtain⟨as,g⟩:=Ô.reads I n x v j e (TQ.mp c).1;obtain⟨bs,f⟩:=Ô.reads I m y u i d (TQ.mp b).1;exact SeqAt.compareNe_shaped g f c b k ⟨.bl _,H,I,rfl,q⟩
def ß(x y:N):Option (Rs N):=match Ŀ x y with|some b=>Z (.ok (.bl b))|none=>if okP x&&okP y then Z (.ok (.bl (SI (di x) (di y))))else U
def č(x y:N):Option (Rs N):=match Ŀ x y with|some b=>Z (.ok (.bl (!b)))|none=>if okP x&&okP y then Z (.ok (.bl (!SI (di x) (di y))))else U
def QJ(X:C):R2:=λx y H Q=>rEq x y H Q\/rPy X D x y H Q
def QK(X:C):R2:=λx y H Q=>rNe x y H Q\/rPy X L x y H Q
def FY(b:a.A.units+64<cLine):õ a (So .Eq) (QJ a):=op_eq.or (Ks b)
def Ku(b:a.A.units+64<cLine):õ a (So .NotEq) (QK a):=op_ne.or (Kt b)
def F0:ę a (QJ a) ß:=by
 intro j i x y H Q e d o;unfold ß at o;split at o;·rename_i b f;obtain⟨h,g⟩:=D8 e d f;exact .inl ⟨h,by rw[g];exact o _ H (.refl H) rfl⟩
 · split at o;·rename_i c;rw[pi]at c;exact .inr ⟨j,i,e,d,c.1,c.2,o _ H (.refl H) rfl⟩
   ·exact o.elim
def Kv:ę a (QK a) č:=by
 intro j i x y H Q e d o;unfold č at o;split at o;·rename_i b f;obtain⟨h,g⟩:=D8 e d f;exact .inl ⟨h,by rw[g];exact o _ H (.refl H) rfl⟩
 · split at o;·rename_i c;rw[pi]at c;exact .inr ⟨j,i,e,d,c.1,c.2,o _ H (.refl H) rfl⟩
   ·exact o.elim
def ltX:N->N->Option (Rs N)|.int i,.int j=>Z (.ok (.bl (uk (i<j))))|.str x,.str y=>Z (.ok (.bl (uk (x.cps.toList<y.cps.toList))))|_,_=>U
def QL:R2:=λx y H Q=>Ŏ (λi j=>.bl (uk (i<j))) x y H Q\/∃i j,x=.str i/\y=.str j/\Q (.bl (uk (i.cps.toList<j.cps.toList))) H
def Kw:õ a (So .Lt) QL:=op_lt.or xh
def Kx:ę a QL ltX:=by
 intro e d x y H Q c b o;cases e<;>cases d<;>try exact(show False from o).elim
 ·rename_i i j;exact .inl ⟨i,j,c,b,o _ H (.refl H) rfl⟩
 ·rename_i i j;exact .inr ⟨i,j,c,b,o _ H (.refl H) rfl⟩
def qk:∀(a:List Str)(k:Nat),Î (a.map V.str) (strsFrom k a)|[],_=>.nil|p::a,k=>.cons ⟨k,rfl⟩ (qk a (k+1))
def ql{K:d_}{H:Hp}:∀a:List Str,S K H (a.map N.str) (a.map V.str)|[]=>rfl|p::a=>⟨.str p,a.map V.str,rfl,rfl,ql a⟩
def g9:Str->Ñ|x,[.str y]=>if y.length≠0/\x.length<=100000/\(UO x y).length<=100000 then Z (.ok (.lst ((UO x y).map N.str)))else U|_,_=>U
def Ec:V->List V->Hp->VK->Prop:=λx a H Q=>∃i j,x=.str i/\a=[.str j]/\j.length≠0/\i.length<=sizeLine/\(UO i j).length<=sizeLine/\∀p,H p=U->Q (.ref p) (Ý H p (.lst ((UO i j).map V.str)))
def BH:ŉ a "str.split" Ec:=by
 intro z s n H x A v B Q I o r h;obtain⟨i,j,rfl,rfl,w,y,f,q⟩:=h;obtain⟨t,rfl⟩:=o;obtain⟨u,rfl,p⟩:=eD r;obtain⟨d,rfl⟩:=p;have m:(j.length==0)=D:=by simpa using w
 have one:∀{k:g_},k={s with heap:=s.heap.push {cls:=.type "list",data:=.seq [Ti i t].toArray}}->UO i j=[i]->EP a z n Q (.ref s.heap.objs.size) k:=λe g=>by subst e;rw[g]at q;exact⟨.ref _,_,I.lnew (its:=[Ti i t]) (ys:=[V.str i]) (t':=s.toks) (.cons ⟨t,rfl⟩ .nil) (by show 1<=sizeLine;decide),rfl,q _ I.fresh⟩
 cases b:(uk (i.length<j.length)||uk (Uq i<Uq j))
 · cases c:(Ss i j 0 i.length (i.length+1)).isEmpty
   · have g:UO i j=Builtin.Str.partsBetween i (Ss i j 0 i.length (i.length+1)) j.length:=by unfold UO;rw[if_neg (by rw[b];exact C_),if_neg (by rw[c];exact C_)]
     rw[g]at q f;refine Wa Wn (V_ _ _ _) XN (Xw _ _) (meets_str_split_sep i j t d b m c y f) ?_;exact⟨.ref _,_,I.lnew (t':=_) (qk _ _) (by rw[E_];exact f),rfl,q _ I.fresh⟩
   ·refine Wa Wn (V_ _ _ _) XN (Xw _ _) (meets_str_split_not_found i j t d b m c) ?_;exact one rfl (by unfold UO;rw[if_neg (by rw[b];exact C_),if_pos c])
 ·refine Wa Wn (V_ _ _ _) XN (Xw _ _) (meets_str_split_cannot_occur i j t d b) ?_;exact one rfl (by unfold UO;rw[if_pos b])
def F1(i:Str)(e:List N)(d:List V)(H:Hp)(Q:VK)(f:S a.K H e d)(o:ï a H (g9 i e) Q):Ec (.str i) d H Q:=by
 unfold g9 at o;split at o
 · rename_i j;split at o;·rename_i b;obtain⟨w,rfl,c⟩:=cZ f;cases(show w=.str j from c);exact⟨i,j,rfl,rfl,b.1,cx b.2.1,cx b.2.2,λp g=>o _ _ (aG g _) ⟨p,_,rfl,ao,ql _⟩⟩
   ·exact o.elim
 ·exact o.elim
def oE:List N->Option (List Str)|[]=>Z []|.str x::r=>(match oE r with|some a=>Z (x::a)|none=>U)|_=>U
def v7:Str->Ñ|x,[.lst b]=>(match oE b with|some a=>if JoinOk x a=L then Z (.ok (.str (Vl x a)))else U|none=>U)|_,_=>U
def Ky(K:d_):V->List V->Hp->VK->Prop:=λx e H Q=>∃i a c d b,x=.str i/\e=[.ref a]/\H a=Z (.lst c)/\S K H d c/\oE d=Z b/\JoinOk i b=L/\Q (.str (Vl i b)) H
def np{K:d_}{H:Hp}:∀{e:List N}{c:List V}{a:List R}{f:List Str},S K H e c->Î c a->oE e=Z f->∃l:List (Str×Tok),a=strValues l/\l.map (·.1)=f
 |[],c,a,f,r,q,h=>by cases(show c=[]from r);cases q;cases h;exact⟨[],rfl,rfl⟩|d::e,c,a,f,r,q,h=>by obtain⟨v,s,rfl,j,i⟩:∃v a,c=v::a/\Ô K H d v/\S K H e a:=r;cases q with|cons m k=>
 cases d<;>try(cases h;done)
 rename_i b;simp only[oE]at h;cases g:oE e with|none=>rw[g]at h;cases h|some p=>rw[g]at h;cases h;cases(show v=.str b from j);obtain⟨t,rfl⟩:=m;obtain⟨l,o,n⟩:=np i k g;exact⟨(b,t)::l,by rw[o];rfl,by rw[K_,n]⟩
def F2:ŉ a "str.join" (Ky a.K):=by intro f' s A H x B v P Q I c g h;obtain⟨i,b,E,ds,ts,rfl,rfl,p,o,m,j,q⟩:=h;obtain⟨t,rfl⟩:=c;obtain⟨u,rfl,f⟩:=eD g;cases f;obtain⟨z,y,n,d,hl,e⟩:=I.lstM p;obtain⟨l,w,r⟩:=np o d m;subst w;exact SC.join ⟨_,e,rfl,_,rfl⟩ r j λt' k=>⟨.str _,H,I.tok _,⟨_,rfl⟩,q⟩
def Kz(i:Str)(e:List N)(d:List V)(H:Hp)(Q:VK)(h:S a.K H e d)(o:ï a H (v7 i e) Q):Ky a.K (.str i) d H Q:=by
 unfold v7 at o;split at o
 · rename_i p;split at o
   · rename_i g j;split at o;·rename_i k;obtain⟨w,rfl,c⟩:=cZ h;obtain⟨b,f,rfl,n,m⟩:=c.lstE;exact⟨i,b,f,p,g,rfl,rfl,n,m,j,k,o _ H (.refl H) rfl⟩
     ·exact o.elim
   ·exact o.elim
 ·exact o.elim
def oF:Str->Ñ|x,[.str y]=>if y.length≠0/\x.length<=100000 then Z (.ok (.tup [.str (UD x y).1,.str (UD x y).2.1,.str (UD x y).2.2]))else U|_,_=>U
def KB:V->List V->Hp->VK->Prop:=λx a H Q=>∃i j,x=.str i/\a=[.str j]/\j.length≠0/\i.length<=sizeLine/\∀p,H p=U->Q (.ref p) (Ý H p (.tup [.str (UD i j).1,.str (UD i j).2.1,.str (UD i j).2.2]))
def F3:ŉ a "str.partition" KB:=by
 intro f' s p H x xs v us Q I y A h;obtain⟨i,j,rfl,rfl,E,P,q⟩:=h;obtain⟨t,rfl⟩:=y;obtain⟨u,rfl,z⟩:=eD A;obtain⟨w,rfl⟩:=z;have B:(j.length==0)=D:=by simpa using E
 have f:∀(d b c:Str)(n m g:Tok)(k:Nat),UD i j=(d,b,c)->EP a f' p Q (.ref s.heap.objs.size) {s with toks:=k,heap:=s.heap.push {cls:=.type "tuple",data:=.seq [Ti d n,.str b m,.str c g].toArray}}:=λd b c n m g k e=>by rw[e]at q;refine⟨.ref _,_,I.laid (t':=k) (λb u e=>i_ _ e) (r_ _) ?_,rfl,q _ I.fresh⟩;exact⟨by show 3<=sizeLine;decide,[Ti d n,.str b m,.str c g],.cons ⟨_,rfl⟩ (.cons ⟨_,rfl⟩ (.cons ⟨_,rfl⟩ .nil)),⟨_,n_ _ rfl,rfl,_,rfl⟩⟩
 refine Wa X9 (V_ _ _ _) F.entry_str_partition (F.args_str_partition_2 _ _) (meets_str_partition i j t w B P) ?_;cases o:Ss i j 0 i.length 1 with|nil=>exact f _ _ _ _ _ _ _ (by unfold UD;rw[o])|cons k r=>exact f _ _ _ _ _ _ _ (by unfold UD;rw[o])
def KC(i:Str)(e:List N)(c:List V)(H:Hp)(Q:VK)(f:S a.K H e c)(o:ï a H (oF i e) Q):KB (.str i) c H Q:=by
 unfold oF at o;split at o
 · rename_i j;split at o;·rename_i d;obtain⟨w,rfl,b⟩:=cZ f;cases(show w=.str j from b);exact⟨i,j,rfl,rfl,d.1,cx d.2,λp g=>o _ _ (aG g _) ⟨p,_,rfl,ao,⟨_,_,rfl,rfl,_,_,rfl,rfl,_,_,rfl,rfl,rfl⟩⟩⟩
   ·exact o.elim
 ·exact o.elim
def hJ:Ñ|[.lst a]=>Z (.ok (.tup a))|[.tup a]=>Z (.ok (.tup a))|_=>U
def BI(s:Gl a "tuple")(q:a.mg "tuple"=U)(w:FA a (f::u) μ)(t:l_ (f::u) a.env=(D,eval f a.env)::l_ u a.env:=by lk)(h:(R8 B (l_ u a.env)).any (·.1)=D:=by lk):FE a (.Call (.Name "tuple" p) (f::u) [] B) (â hJ μ):=dr (lE ow s q (by decide+kernel) w.h (by decide) (by decide) t h) λy H Q m E o=>⟨m,E,æ.bind o λP z k A i d=>by
 unfold hJ at d;split at d;·rename_i n;obtain⟨v,rfl,r⟩:=cZ i;obtain⟨b,c,rfl,e,g⟩:=r.lstE;exact⟨b,c,rfl,.inl ⟨Ć.of e,λl j=>d _ _ (aG j _) ⟨l,c,rfl,ao,S.mono (aG j _) _ _ g⟩⟩⟩
 ·rename_i n;obtain⟨v,rfl,r⟩:=cZ i;obtain⟨b,c,rfl,e,g⟩:=r.tupE;exact⟨b,c,rfl,.inr ⟨ö.of e,d _ k (.refl k) ⟨b,c,rfl,e,g⟩⟩⟩
 ·exact d.elim⟩
def NG(x:N):List N->Nat->Option Nat|[],_=>U|y::a,k=>if Ŷ y x then Z k else NG x a (k+1)
def OL:List N->Ñ|a,[x]=>if gm x&&a.all gm&&uk (a.length<=100000)then(match NG x a 0 with|some j=>Z (.ok (.int j))|none=>U)else U|_,_=>U
def xS{K:d_}{H:Hp}{x:N}{u:V}(q:Ô K H x u)(o:gm x=L):∀{d:List N}{b:List V}{k j:Nat},S K H d b->d.all gm=L->NG x d k=Z j->k<=j/\(∃v,b[j-k]?=Z v/\ĭ v u=L)/\∀(m:Nat)v,m<j-k->b[m]?=Z v->ĭ v u=D
 |[],b,k,j,r,_,h=>by cases h|y::s,b,k,j,r,g,h=>by
  obtain⟨v,ws,rfl,A,t⟩:∃v i,b=v::i/\Ô K H y v/\S K H s i:=r;rw[Tn,pi]at g;unfold NG at h;have p:=xP A q g.1 o;split at h;·rename_i f;cases h;refine⟨r_ _,⟨v,by simp,by rw[p];exact f⟩,λm w B=>by omega⟩
  · rename_i f;obtain⟨a,⟨w,P,E⟩,c⟩:=xS q o t g.2 h;refine⟨by omega,⟨w,?_,E⟩,λm z B n=>?_⟩
    · have e:j-k=(j-(k+1))+1:=by omega
      rw[e,Wm];exact P
    ·cases m with|zero=>
      have:z=v:=by simpa using n.symm
      subst this;rw[p];simpa using f|succ m=>exact c m z (by omega) (by simpa using n)
def KD:V->List V->Hp->VK->Prop:=λx c H Q=>∃a b y j,x=.ref a/\c=[y]/\H a=Z (.lst b)/\hZ y=L/\b.all hZ=L/\b.length<=100000/\(∃v,b[j]?=Z v/\ĭ v y=L)/\(∀(m:Nat)v,m<j->b[m]?=Z v->ĭ v y=D)/\Q (.int j) H
def Ed(r:Î θ E)(f:θ.all hZ=L){m:Nat}{v:V}(h:θ[m]?=Z v):∃a:m<E.length,Ĭ Γ E[m]=ĭ v Γ:=by obtain⟨u,c,b⟩:=r.get h;obtain⟨a,e⟩:=xy.mp c;refine⟨a,?_⟩;rw[e];exact ug b (S3.mp f v (Sg h))
def BJ:ŉ a "list.index" KD:=by
 intro f' s σ H x xs v us Q I r B h;obtain⟨b,p,y,j,rfl,rfl,h1,fy,f,hz,⟨w,E,o⟩,i,q⟩:=h;cases r;obtain⟨u,rfl,A⟩:=eD B;obtain⟨z,g,n,d,hl,e⟩:=I.lstM h1;obtain⟨hj,ej⟩:=Ed (Γ:=y) d f E;refine Wa X_ ⟨_,e,rfl⟩ PySem.F.entry_list_index (PySem.F.args_list_index_2 _ _) (SeqAt.list_indexAt b g.toArray n U #[] u (Ĭ y) j (by simpa using hj) (by omega) (by simpa[ej]using o) λm hm k=>?_) ⟨e,λt P=>gL A fy d f t (by simpa using P),⟨.int j,H,I.tok _,⟨_,rfl⟩,q⟩⟩;have c:m<p.length:=by rw[d.length];simpa using hm
 obtain⟨a',em⟩:=Ed (Γ:=y) d f (s_ c);have:=i m p[m] k (s_ c);simpa[em]using this
def fML(g:List N->Ñ)(d:Ò)(c:á):Ò:=λa=>Õ (d a) λx=>match x with|.lst i=>Õ (c a) λb=>g i b|_=>U
def BK(ho:FE a y A)(ha:FA a (f::u) μ)(h:TU y "index" a.env (eval y a.env)=eval y a.env:=by lk)(n:((R8 B (l_ (f::u) a.env)).all (λx=>!x.1)&&(Tx B (SN [] a.env)).all (λx=>x.1.isSome)&&uk ((f::u).length+([]:List Vw).length+(if([]:List Vw).isEmpty then 0 else 1)<30))=L:=by lk)(g:(p.endLine==B.line)=L:=by lk)(hs:l_ (f::u) a.env=(D,eval f a.env)::l_ u a.env:=by lk)(c:(R8 B (l_ u a.env)).any (·.1)=D:=by lk):FE a (.Call (.Attribute y "index" p) (f::u) [] B) (fML OL A μ):=dr (Bw Wg X_ PySem.F.type_list_index BJ ho.h ha.h h n g hs c) λσ H Q o E y=>⟨o,E,ï.bind y λd v H1 e1 rd r=>by
 cases d<;>try exact(show False from r).elim
 rename_i ds;obtain⟨b,q,rfl,t,s⟩:=rd.lstE;refine⟨.inl ⟨rfl,q,Ć.of t⟩,o,E.mono e1,æ.bind r λu ws P z rs e=>?_⟩;unfold OL at e;split at e
 · rename_i x;split at e
   · rename_i i;rw[pi,pi]at i;split at e;·rename_i j hj;obtain⟨w,rfl,k⟩:=cZ rs;have m:=S.mono z _ _ s;obtain⟨c1,c2,c3⟩:=xS k i.1.1 m i.1.2 hj;refine⟨b,q,w,j,rfl,rfl,z _ _ t,oy k i.1.1,k6 m i.1.2,by rw[s.length];exact of_decide_eq_true i.2,by simpa using c2,by simpa using c3,e _ P (.refl P) rfl⟩
     ·exact e.elim
   ·exact e.elim
 ·exact e.elim⟩
structure FG(X:C)(tg:u_)(b:N->Ev->Option Ev):Prop where h:∀(f':List (O×Obj))(s:g_)(σ:L2.St)(H:Hp)(v:V)(u:R)(d:N)(ρ ρ':Ev),Ë X f' σ H s->Ú v u->Ô X.K H d v->Ù X.K H σ ρ->b d ρ=Z ρ'->t_ (y_ X.prog X.w) X.A (Vj tg X.env u) (λ_ s'=>∃σ' H',Ë X f' σ' H' s'/\Í H H'/\Ù X.K H' σ' ρ') X.xe s
def gN(i:Nat):N->Ev->Option Ev:=λd a=>Z (a.set i (Z d))
def gP(i j:Nat):N->Ev->Option Ev:=λd b=>match d with|.tup [a,c]=>Z ((b.set i (Z a)).set j (Z c))|_=>U
def F4(i:Nat){x:Str}(k:a.N.Nodup)(h:a.N[i]?=Z x)(g:ľ a.env.scope x)(j:a.fn x=L\/a.env.scope.names.lookup x=Z .local):FG a (.Name x p) (gN i):=⟨λm s c H v u d w t I r rd E e=>by cases e;exact è (ii k h g j m s c H v u (λb f=>f=H/\b=c.set i (Z v)) I r ⟨rfl,rfl⟩) λ_ y⟨b,f,q,o,n⟩=>by subst o n;exact⟨_,_,q,.refl _,E.set rd⟩⟩
def xT(i j:Nat){x y:Str}{k:Nat}(hc:a.calm=L)(t:a.N.Nodup)(hi:a.N[i]?=Z x)(hx:ľ a.env.scope x)(hf:a.fn x=L\/a.env.scope.names.lookup x=Z .local)(hj:a.N[j]?=Z y)(P:ľ a.env.scope y)(hg:a.fn y=L\/a.env.scope.names.lookup y=Z .local)(n:(Si [.Name x B,.Name y Υ] a.env).map (·.2)=Vj (.Name x B) a.env::(Si [.Name y Υ] a.env).map (·.2):=by lk)(m:(Si [.Name y Υ] a.env).map (·.2)=Vj (.Name y Υ) a.env::(Si [] a.env).map (·.2):=by lk)(hn:(Si [.Name x B,.Name y Υ] a.env).length=2:=by lk)(h:(Si [.Name x B,.Name y Υ] a.env).findIdx? (·.1)=U:=by lk):FG a (.Tuple [.Name x B,.Name y Υ] k p) (gP i j):=⟨λf' s o H v u d ρ a' I r rd E e=>by
 unfold gP at e;split at e;·rename_i b c;cases e;obtain⟨ad,xs,rfl,h1,h2⟩:=rd.tupE;obtain⟨q,g,rfl,A,z⟩:=BB h2;refine è (DQ (m:=2) hc (oj (ii (c:=i) t hi hx hf) (oj (ii (c:=j) t hj P hg) w9 m) n) hn h f' s o H _ u (λf w=>w=H/\f=(o.set i (Z q)).set j (Z g)) I r ⟨ad,_,rfl,ö.of h1,rfl,q,[g],rfl,g,[],rfl,rfl,rfl,rfl⟩) λ_ s'⟨f,w,I',e1,e2⟩=>?_;subst e1 e2;exact⟨_,_,I',.refl _,(E.set A).set z⟩
 ·cases e⟩
structure Ŵ(K:d_)(J:It)(ds:List N)(H0:Hp):Prop where
 go:∀i H,Í H0 H->i<ds.length->J.go i H
 stop:∀H,Í H0 H->J.stop ds.length H
 yld:∀i H x H',Í H0 H->i<ds.length->J.yld i H x H'->Í H H'/\∃d,ds[i]?=Z d/\Ô K H' d x
def Wk.toG{J:It}(w:Wk s J k g):Ŵ s J k g:=⟨w.go,w.stop,λi H x f e a y=>by obtain⟨rfl,d,c,b⟩:=w.yld i H x f e a y;exact⟨.refl _,d,c,b⟩⟩
def ģ(X:C)(H:Hp)(o:Option (Rs (List N)))(R:It->Hp->Prop):Prop:=match o with|none=>False|some (.exc c)=>XW X c H|some (.ok b)=>∀J a,Í H a->Ŵ X.K J b a->R J a
def ģ.mono{R:It->Hp->Prop}(e:Í g ω):∀{o:Option (Rs (List N))},ģ a g o R->ģ a ω o R|none,h=>h|some (.exc _),h=>XW.mono h e|some (.ok _),h=>λv c b r=>h v c (e.trans b) r
structure Ŕ(X:C)(tg iter:u_)(f:á):Prop where h:PI X tg iter λσ H R=>∃ρ,Ù X.K H σ ρ/\ģ X H (f ρ) R
def FI.toG(h:FI a f y μ):Ŕ a f y μ:=⟨λg s d H R I⟨b,E,o⟩=>h.h g s d H R I ⟨b,E,by match j:μ b,o with|some (.exc c),o=>exact o|some (.ok k),o=>exactλJ i e w=>o J i e w.toG⟩⟩
def hU(m:Nat)(b:List (Str×Nat))(a:Ev):Ev:=P_ m U++b.map λc=>(a[c.2]?).join
def jy(b:N->Ev->Option Ev)(a:Option ë)(c:Ò)(e:Ev):List N->Option (List N)|[]=>Z []|d::g=>match b d e with|none=>U|some f=>match(match a with|none=>(Z (.ok L):Option (Rs Bool))|some t=>t f)with|some (.ok L)=>(match c f with|some (.ok y)=>(match jy b a c e g with|some h=>Z (y::h)|none=>U)|_=>U)|some (.ok D)=>jy b a c e g|_=>U
def qm(m:Nat)(b:List (Str×Nat))(a:L2.St):L2.St:=P_ m U++b.map λc=>(a[c.2]?).join
def qo{l:List (Option z)}(h:(P_ c (U:Option z)++l)[m]?=Z (Z É)):∃k,m=c+k/\l[k]?=Z (Z É):=by
 by_cases a:m<c;·rw[Su (by simpa using a),Wl,if_pos a]at h;cases h
 ·refine⟨m-c,by omega,?_⟩;rw[Sn (by simpa using a)]at h;simpa using h
def xU(m:Nat)(e:List (Str×Nat))(E:Ù s g Μ ζ):Ù s g (qm m e Μ) (hU m e ζ):=by refine⟨by simp[qm,hU],λi d h=>?_⟩;obtain⟨k,rfl,a⟩:=qo h;rw[O_]at a;cases b:e[k]? with|none=>rw[b]at a;simp at a|some c=>
 rw[b]at a;simp only[Ub,U0]at a;have n:ζ[c.2]?=Z (Z d):=by cases q:ζ[c.2]? with|none=>rw[q]at a;simp at a|some o=>rw[q]at a;simp at a;rw[a]
 obtain⟨v,j,f⟩:=E.at' c.2 d n;refine⟨v,?_,f⟩;unfold qm;rw[Sn (by simp)];simp only[Ud,Ye,O_,b,Ub,j];rfl
def qp{a:XY->g_->Prop}{P:u_}{b':R}{b:Env}(I:Nat->g_->Prop)(c':∀n d,I n d->t_ (y_ q o) w (VH Ζ) (λr z=>match r with|none=>a (.ok .next) z|some v=>t_ (y_ q o) w (W5 y Ζ v) (λ_ H=>t_ (y_ q o) w (Vj y b v) (λ_ E=>t_ (y_ q o) w (ſ u L λc r=>if r=L then do let ok<-isTrue c b (eval c b);pure (VE ok)else pure (VE r)) (λok t=>if ok=L then t_ (y_ q o) w (eval f b) (λx s=>t_ (y_ q o) w (call (.builtin "list.append") [b',x]) (λ_ k=>∃m,m<n/\I m k) (ZJ (y_ q o) w b λe j=>a (.error e) j) s) (ZJ (y_ q o) w b λe j=>a (.error e) j) t else∃m,m<n/\I m t) (ZJ (y_ q o) w b λe j=>a (.error e) j) E) (ZJ (y_ q o) w b λe j=>a (.error e) j) H) (ZJ (y_ q o) w b λe j=>a (.error e) j) z) (ZJ (y_ q o) w b λe j=>a (.error e) j) d)(n:Nat)(h:I n d):Vf (y_ q o) w (.compLoop (.ListComp f [⟨y,P,u,0⟩] ι p) 0 Ζ b' b) a d:=by refine codeAny_loop rfl I (λn d hI=>?_) n h;show t_ _ w ((compTurn (.ListComp f [⟨y,P,u,0⟩] ι p) 0 Ζ b' b).onRaise (λx=>do noteFrame x b;theTreesLotGoes x)) _ _ d;refine wpAny_noted ?_;rw[compTurn_list];refine c_ (Zp (c_ (Sw (c' n d hI) (λr z a'=>?_) λ_ _ i=>i)));cases r with|none=>exact j_ a'|some v=>refine c_ (Sw a' (λ_ H e'=>?_) λ_ _ i=>i);refine c_ (Sw e' (λ_ E d'=>c_ (Sw d' (λok t g=>?_) λ_ _ i=>i)) λ_ _ i=>i);cases ok with
 |false=>rw[if_neg C_]at g;first|exact c_ (j_ (j_ ⟨rfl,g⟩))|exact j_ ⟨rfl,g⟩|(show t_ _ _ (N' _) _ _ _;exact j_ ⟨rfl,g⟩)
 |true=>rw[if_pos rfl]at g;first|exact c_ (c_ (Sw g (λx s B=>c_ (Sw B (λ_ k A=>j_ (j_ ⟨rfl,A⟩)) λ_ _ i=>i)) λ_ _ i=>i))|exact c_ (Sw g (λx s B=>c_ (Sw B (λ_ k A=>j_ ⟨rfl,A⟩) λ_ _ i=>i)) λ_ _ i=>i)
def bP(m:Nat)(h:List (Str×Nat))(c:á)(b:N->Ev->Option Ev)(a:Option ë)(d:Ò):Ò:=λe=>Õ (c e) λg=>match jy b a d (hU m h e) g with|some f=>if f.length<=100000/\g.length<=100000 then Z (.ok (.lst f))else U|none=>U
def OM{j:List (Str×Nat)}{b:N->Ev->Option Ev}{d:Option ë}{o:Rs N}(h:bP c j μ b d A ζ=Z o):(∃a,μ ζ=Z (.exc a)/\o=.exc a)\/∃e f,μ ζ=Z (.ok e)/\jy b d A (hU c j ζ) e=Z f/\e.length<=100000/\f.length<=100000/\o=.ok (.lst f):=by unfold bP at h;match i:μ ζ with|none=>rw[i]at h;cases h|some (.exc a)=>rw[i]at h;cases h;exact .inl ⟨a,rfl,rfl⟩|some (.ok e)=>rw[i]at h;dsimp only[Õ]at h;match g:jy b d A (hU c j ζ) e with
 |none=>rw[g]at h;cases h|some f=>
 rw[g]at h;dsimp only at h;split at h;·rename_i k;cases h;exact .inr ⟨e,f,rfl,g,k.2,k.1,rfl⟩
 ·cases h
def KF(c:List (Str×Nat))(b:Ev)(d:N)(a:Ev)(h:gN 0 d (hU 1 c b)=Z a):fgt [0] a=hU 1 c b:=by cases h;rfl
def ON(c:List (Str×Nat))(b:Ev)(d:N)(a:Ev)(h:gP 0 1 d (hU 2 c b)=Z a):fgt [0,1] a=hU 2 c b:=by
 unfold gP at h;split at h;·cases h;rfl
 ·cases h
def Ite(K:d_)(a:O):It:=⟨λi H=>∃b x,Ć K H a b/\b[i]?=Z x,λi H v c=>∃p x,v=.ref p/\H p=U/\c=Ý H p (.tup [.int i,x])/\∀b,Ć K H a b->b[i]?=Z x,λi H=>∃b,Ć K H a b/\b.length<=i⟩
def xV(a e A:O)(e':e≠A):xa q o s (.Tuple u c p) (Ite s a) [e,A] e (λi h=>(∃B,IsEnum h e A i B)/\h.IsListIter A a i)where
 mem:=by simp
 obj:=λi h st b P=>by
  obtain⟨⟨B,he⟩,g,e2,w,d⟩:=st;have n':b=e\/b=A:=by simpa using P
  rcases n' with rfl|rfl;·exact⟨_,he,λv z=>by cases z⟩
  ·exact⟨g,e2,λv z=>by rw[d]at z;cases z⟩
 keep:=λi h h' st kk=>by obtain⟨⟨B,he⟩,a'⟩:=st;exact⟨⟨B,kk e (by simp) _ he⟩,a'.at λg ee=>kk A (by simp) g ee⟩
 item:=by
  intro X hP hw hK hc i f' j σ H E k hf st hg;subst hP hw hK;obtain⟨xs,x,hq,hx⟩:=hg;obtain⟨l',rv,y,hz⟩:=k.list hq;obtain⟨t,hu,ru⟩:=rv.get hx;obtain⟨⟨B,he⟩,a'⟩:=st;obtain⟨f0,f1,I,f3,f4,f5⟩:=hf e (by simp);obtain⟨g0,g1,g2,g3,g4,g5⟩:=hf A (by simp);refine wpAny_pyNext_enum_item he a' y.isList (x:=t) (by simpa using hu) e' λh' eo k' tp sz kk=>?_;refine⟨_,rfl,wpAny_letOwnedTupleGo_enum eo λh2 m' c'=>?_⟩;have hp:H j.heap.objs.size=U:=k.hok.fresh (r_ _);have g':e<j.heap.objs.size:=v_ he;have k2:∀b g,b∉[e,A]->j.heap.get? b=Z g->h2.get? b=Z g:=λb g P f=>c'.extBut b g (λz=>P (by simp[z])) (kk b g (λz=>P (by simp[z])) (λz=>P (by simp[z])) f);have i':h2.get? j.heap.objs.size=Z {cls:=.type "tuple",data:=.seq #[.int i j.toks,t]}:=c'.extBut _ _ (Uy g') tp;have I1:Ë X f' σ (Ý H j.heap.objs.size (.tup [.int i,x])) {j with heap:=h2,toks:=j.toks+1}:=by
   have nt:∀b t,H b=Z t->b∉[e,A]:=λb t f z=>by
    have z':b=e\/b=A:=by simpa using z
    rcases z' with rfl|rfl;·rw[f0]at f;cases f
    ·rw[g0]at f;cases f
   refine k.step (g':=j.gens) (d':=j.drawn) (ch:=[e,A]) (λb P=>?_) (λb g _ _ b' f _=>k2 b g b' f) (λb g _ _ b' f _=>⟨g.slots,k2 b g b' f⟩) (λb g b' f n=>?_) (λb g b' f=>⟨g,k2 b g b' f⟩) (λb ys f=>by rw[al (av f hp)];exact f) (λb g ys f=>by rw[al (av f hp)];exact f) (λb ps f=>⟨#[],by rw[al (av f hp),f];simp⟩) (λm hm=>?_) (λb u2 f=>?_) k.bare
   · have z':b=e\/b=A:=by simpa using P
     rcases z' with rfl|rfl;·exact⟨f3,f1,f4,f5⟩
     ·exact⟨g3,g1,g4,g5⟩
   ·rw[al (D_ (v_ f))];exact n
   ·obtain⟨g,o',ep,ho,r⟩:=hm;exact⟨g,o',ep,k2 _ g (λz=>by
      have z':X.env.locals=e\/X.env.locals=A:=by simpa using z
      rcases z' with z'|z';·exact f1 z'.symm
      ·exact g1 z'.symm) ho,r⟩
   · by_cases P:b=j.heap.objs.size;·subst P;rw[ao]at f;cases f;exact⟨by show 2<=sizeLine;decide,[.int i j.toks,t],.cons ⟨_,rfl⟩ (.cons ru .nil),⟨_,i',rfl,_,rfl⟩⟩
     · rw[al P]at f;refine(k.hok b u2 f).stay (λw v d' qq=>k2 w v ?_ qq) (λw qq=>by rw[al (av qq hp)];exact qq) λw ys qq=>by rw[al (av qq hp)];exact qq
       rcases d' with rfl|d';·exact nt _ _ f
       ·exact nt _ _ d'
  refine⟨.ref j.heap.objs.size,_,I1,rfl,⟨_,x,rfl,hp,rfl,λzs hy=>by rw[k.list_inj hy hq];exact hx⟩,⟨⟨_,by simpa using m'⟩,?_⟩,λb P=>?_⟩;·exact k'.at λg f=>c'.extBut _ _ (Vg e') f
  · have z':b=e\/b=A:=by simpa using P
    rcases z' with rfl|rfl;·rw[al (D_ g')];exact f0
    ·obtain⟨g,f,_⟩:=id a';rw[al (D_ (v_ f))];exact g0
 done:=by intro X hP hw hK hc i f' j σ H E k hf st hg;subst hP hw hK;obtain⟨xs,hq,hx⟩:=hg;obtain⟨l',rv,y,hz⟩:=k.list hq;obtain⟨⟨B,he⟩,a'⟩:=st;obtain⟨g0,g1,g2,g3,g4,g5⟩:=hf A (by simp);have hl:=rv.length;exact wpAny_pyNext_enum_end (k.ok.hd hc) he a' y.isList (by simp;omega) λh' eb=>⟨rfl,k.turned (t':=j.toks) (λb g P e=>eb b g P e) g0 g1 g3 g4 g5⟩
 self:=λ_ _ _ _ _ st h=>by obtain⟨⟨B,he⟩,_⟩:=st;exact wpAny_pyIter_enum he h
def j7:Nat->List N->List N|_,[]=>[]|k,d::a=>.tup [.int k,d]::j7 (k+1) a
def ik:∀(a:List N)(k:Nat),(j7 k a).length=a.length|[],_=>rfl|d::a,k=>by show(j7 (k+1) a).length+1=a.length+1;rw[ik]
def qr:∀(a:List N)(k i:Nat)(d:N),a[i]?=Z d->(j7 k a)[i]?=Z (.tup [.int ((k+i:Nat):Int),d])
 |[],_,_,_,h=>by simp at h|d::a,k,0,b,h=>by simp at h;subst h;rfl|d::a,k,i+1,b,h=>by
  have q:=qr a (k+1) i b (by simpa using h);show(N.tup [.int k,d]::j7 (k+1) a)[i+1]?=_;rw[Wm,q];have e:k+1+i=k+(i+1):=by omega
  rw[e]
def F5(h:g e=Z (.lst θ))(r:S s g k θ):Ŵ s (Ite s e) (j7 0 k) g where
 go:=λi f a b=>by
  rw[ik]at b;have j:i<θ.length:=by rw[r.length];exact b
  exact⟨θ,θ[i],Ć.of (a _ _ h),by simp[j]⟩
 stop:=λf a=>⟨θ,Ć.of (a _ _ h),by rw[r.length,ik];exact r_ _⟩;yld:=λi f v o a b y=>by obtain⟨p,x,rfl,c,rfl,y⟩:=y;obtain⟨d,n,m⟩:=S.get (S.mono a _ _ r) (y θ (Ć.of (a _ _ h)));have q:=qr k 0 i d n;rw[U1]at q;exact⟨aG c _,_,q,⟨p,_,rfl,ao,⟨.int i,[x],rfl,rfl,x,[],rfl,Ô.mono (aG c _) _ _ m,rfl⟩⟩⟩
def BL:List N->Option (Rs (List N))|[.lst a]=>Z (.ok (j7 0 a))|_=>U
def BM(hg:Gl a "enumerate")(hm:a.mg "enumerate"=U)(ha:FA a [f] μ)(hs:l_ [f] a.env=[(D,eval f a.env)]:=by lk):Ŕ a (.Tuple u c p) (.Call (.Name "enumerate" B) [f] [] Υ) (λm=>Õ (μ m) BL):=by
 constructor;intro f' s P H R I h;obtain⟨m,E,o⟩:=h;have key:æ a H (μ m) λt y=>∃n,S a.K y n t/\ģ a y (BL n) R:=by match hf:μ m,o with|some (.exc i),o=>exact o|some (.ok n),o=>exactλt y e w=>⟨n,w,ģ.mono e o⟩
 refine Call_ (gg I hg hm (show TC "enumerate"=Z (.type "enumerate")by decide+kernel) (S6 (è (ha.h Υ f' s P H _ I ⟨m,E,key⟩) λus j⟨t,r,k,r1,n,w,q⟩=>?_) hs rfl));unfold BL at q;split at q
 · rename_i xs;obtain⟨v,rfl,rv⟩:=cZ w;obtain⟨d,ws,rfl,h1,h2⟩:=rv.lstE;obtain⟨g,rfl,ru⟩:=eD r1;cases ru;obtain⟨b',a',pl,hz⟩:=k.list (Ć.of h1);refine call_enumerate_list pl.isList λh' he z c' kk=>?_;refine wpAny_pyIter_enum he ?_;have I2:Ë a f' P r {j with heap:=h'}:=k.kept (t':=j.toks) kk;refine⟨j.heap.objs.size+1,[j.heap.objs.size+1,j.heap.objs.size],_,Ite a.K d,r,rfl,I2,xV d _ _ (Nat.succ_ne_self _),⟨⟨_,he⟩,z⟩,λb hb=>?_,q _ r (.refl r) (F5 h1 h2)⟩;have A:b=j.heap.objs.size+1\/b=j.heap.objs.size:=by simpa using hb
   rcases A with rfl|rfl;·exact k.fpOk (Wj _) (k.hok.fresh (Wj _))
   ·exact k.fpOk (r_ _) (k.hok.fresh (r_ _))
 ·exact q.elim
def OO:List Nat->List V->L2.St->L2.St|i::is,v::b,a=>OO is b (a.set i (Z v))|_,_,a=>a
def NH:List Nat->List N->Ev->Ev|i::is,d::b,a=>NH is b (a.set i (Z d))|_,_,a=>a
def F6(b:List Nat):ŭ:=λa c H Q=>a.length=b.length/\Q (OO b a c) H
def uo{t d:ŭ}(h:ŕ a u t)(w:∀c b H Q,d c b H Q->t c b H Q):ŕ a u d:=λf s b H c e Q I r q=>h f s b H c e Q I r (w c b H Q q)
def KG:ŕ a [] (F6 []):=uo w9 λb c H Q⟨l,q⟩=>by cases b with|nil=>exact⟨rfl,q⟩|cons v r=>cases l
def F7(i:Nat){x:Str}{c:List Nat}{b:List u_}(m:a.N.Nodup)(j:a.N[i]?=Z x)(f:ľ a.env.scope x)(k:a.fn x=L\/a.env.scope.names.lookup x=Z .local)(h:ŕ a b (F6 c))(g:(Si (.Name x p::b) a.env).map (·.2)=Vj (.Name x p) a.env::(Si b a.env).map (·.2):=by lk):ŕ a (.Name x p::b) (F6 (i::c)):=uo (oj (ii (c:=i) m j f k) h g) λe d H Q⟨l,q⟩=>by cases e with|nil=>cases l|cons v r=>exact⟨v,r,rfl,(⟨Nat.succ.inj l,q⟩:F6 c r (d.set i (Z v)) H Q)⟩
def Ù.setAll{K:d_}{H:Hp}:∀(is:List Nat){b:List N}{a:List V}{c:L2.St}{e:Ev},Ù K H c e->S K H b a->Ù K H (OO is a c) (NH is b e)|[],_,_,_,_,E,_=>E|_::_,[],a,_,_,E,r=>by cases(show a=[]from r);exact E|i::is,d::b,a,c,e,E,r=>by obtain⟨v,f,rfl,h,t⟩:∃v f,a=v::f/\Ô K H d v/\S K H b f:=r;exact Ù.setAll is (E.set h) t
def Rp(a:List Nat)(c:Ev):N->Option Fl|.tup b=>if b.length=a.length then Z (.nx (NH a b c))else U|_=>U
def KH(b:List Nat)(f:Ò):Ø:=λa=>cf (f a) (Rp b a)
def KI{g:List Nat}(hc:a.calm=L)(h:ŕ a u (F6 g))(he:FE a f A)(hn:(Si u a.env).length=g.length:=by lk)(s:(Si u a.env).findIdx? (·.1)=U:=by lk)(P:Zs [.Tuple u c B] f p.line a.env=pure D:=by lk)(z:Zt [.Tuple u c B] f a.env=pure U:=by lk)(m:(Si [.Tuple u c B] a.env).map (·.2)=[Vj (.Tuple u c B) a.env]:=by lk):FS a (.Assign [.Tuple u c B] f p) (KH g A):=qe (DR he.h (DQ (m:=g.length) hc h hn s) P z m) λe σ H t E o=>⟨t,E,ï.bindS o λd v q f r w=>by cases d with
 |tup n=>
 have i:ò a q (if n.length=g.length then Z (.nx (NH g n t))else U) e:=w;by_cases j:n.length=g.length;·rw[if_pos j]at i;obtain⟨b,y,rfl,m,k⟩:=r.tupE;exact⟨b,y,rfl,ö.of m,k.length.trans j,k.length.trans j,i _ q (.refl q) (Ù.setAll g (E.mono f) k)⟩
 ·rw[if_neg j]at i;exact i.elim|_=>exact w.elim⟩
def au{b:Ø}{a:Ev}(h:Τ ζ=Z (.nx a)):aI Τ b ζ=b a:=by unfold aI;rw[h];rfl
def oG{b:Ø}(h:Τ ζ=Z (.rt n)):aI Τ b ζ=Z (.rt n):=by unfold aI;rw[h];rfl
def dR(h:Ο ζ=Z (.ok D)):aY Ο Τ (λζ=>Z (.nx ζ)) ζ=Z (.nx ζ):=by unfold aY;rw[h];rfl
def bG{a:Ev}(h:A ζ=Z (.ok n))(e:ζ.set c (Z n)=a):bW c A ζ=Z (.nx a):=by unfold bW;rw[h,<-e];rfl
def cW(h:A ζ=Z (.ok n)):cG A ζ=Z (.nx ζ):=by unfold cG;rw[h];rfl
def bZ(h:A ζ=Z (.ok n)):aJ A ζ=Z (.rt n):=by unfold aJ;rw[h];rfl
def F8{a:List Nat}(h:μ ζ=Z (.ok k)):D4 c a μ Τ ζ=mN c a Τ k ζ:=by unfold D4;rw[h];rfl
def xW{b:ë}(h:Ο ζ=Z (.ok L)):kB Ο b ζ=b ζ:=by unfold kB;rw[h];rfl
def xX{b:ë}(h:Ο ζ=Z (.ok D)):kB Ο b ζ=Z (.ok D):=by unfold kB;rw[h];rfl
def j8(h:Ο ζ=Z (.ok t)):bX Ο ζ=Z (.ok (!t)):=by unfold bX;rw[h];rfl
def bd(h:A ζ=Z (.ok (.bl t))):fB A ζ=Z (.ok t):=by unfold fB;rw[h];rfl
def bg{g:N->N->Option (Rs N)}(b:A ζ=Z (.ok n))(a:È ζ=Z (.ok ξ)):I g A È ζ=g n ξ:=by unfold I;rw[b,a];rfl
def ac(h:A ζ=Z (.ok n))(t:μ ζ=Z (.ok k)):aO A μ ζ=Z (.ok (n::k)):=by unfold aO;rw[h,t];rfl
def aw:dZ ζ=Z (.ok []):=rfl
def k7(h:μ ζ=Z (.ok k))(a:k.length=c)(b:Ρ k=Z (.ok n)):ab Ρ c μ ζ=Z (.ok n):=by unfold ab;rw[h];show(if _ then _ else _)=_;rw[if_pos a,b]
def d5(F:Ñ){f:Ò}{b:Ev}{a d:N}(h:f b=Z (.ok a))(c:F [a]=Z (.ok d)):ab F 1 (aO f dZ) b=Z (.ok d):=k7 (ac h aw) rfl c
def cg(F:Ñ){f g:Ò}{c:Ev}{a b d:N}(h:f c=Z (.ok a))(i:g c=Z (.ok b))(e:F [a,b]=Z (.ok d)):ab F 2 (aO f (aO g dZ)) c=Z (.ok d):=k7 (ac h (ac i aw)) rfl e
def xY(h:μ ζ=Z (.ok k))(a:k.length<=100000):jC μ ζ=Z (.ok (.tup k)):=by unfold jC;rw[h];show(if _ then _ else _)=_;rw[if_pos a]
def KJ(h:A ζ=Z (.ok (.bl D))):Ě A È ζ=È ζ:=by unfold Ě;rw[h];rfl
def KM(h:A ζ=Z (.ok (.bl L))):Ě A È ζ=Z (.ok (.bl L)):=by unfold Ě;rw[h];rfl
def KN(h:A ζ=Z (.ok (.bl L))):ij A È ζ=È ζ:=by unfold ij;rw[h];rfl
def ci(h:μ ζ=Z (.ok k)):â Ρ μ ζ=Ρ k:=by unfold â;rw[h];rfl
def OP{g:N->Option (Rs N)}(h:A ζ=Z (.ok n)):f1 g A ζ=g n:=by unfold f1;rw[h];rfl
def KO(h:Ο ζ=Z (.ok L)):ĩ Ο A È ζ=A ζ:=by unfold ĩ;rw[h];rfl
def KP(h:Ο ζ=Z (.ok D)):ĩ Ο A È ζ=È ζ:=by unfold ĩ;rw[h];rfl
def sE(h:μ ζ=Z (.ok k))(a:k.length<=100000):ib μ ζ=Z (.ok (.lst k)):=by unfold ib;rw[h];show(if _ then _ else _)=_;rw[if_pos a]
def dI(h:Τ (k.map Z++P_ (c-k.length) U)=Z (.rt n)):aQ c Τ k=Z (.ok n):=by unfold aQ;rw[h]
abbrev bmV:List R:=[.type "ValueError",.type "Exception",.type "BaseException",.type "object"]
open PySem.W Builtin.Getset_descriptor
structure XI(K:d_)(C:O):Prop where
 ga:findIn K (.ref C) "__getattribute__"=Z (Z (.builtin "BaseException.__getattribute__"))gt:findIn K (.ref C) "__getattr__"=Z U
 cl:findIn K (.ref C) "__class__"=Z (Z (.builtin "object.__class__"))sp:specialIn K (.builtin "object.__class__") "__get__"=Z (Z (.builtin "getset_descriptor.__get__"))tk:takesIn K (.builtin "object.__class__")=Z L
 ob:mroIn K C (.type "object")=Z L
 be:mroIn K C (.type "BaseException")=Z L
def NI:List N->Ñ|a,[x]=>if gm x&&a.all gm&&uk (a.length<=100000)then Z (.ok (.int (a.countP (λy=>Ŷ y x):Nat)))else U|_,_=>U
def KQ:V->List V->Hp->VK->Prop:=λx c H Q=>∃a b y,x=.ref a/\c=[y]/\H a=Z (.lst b)/\hZ y=L/\b.all hZ=L/\b.length<=100000/\Q (.int (b.countP (λv=>ĭ v y):Nat)) H
def nq{y:V}:∀{b:List V}{a:List R},Î b a->b.all hZ=L->a.countP (Ĭ y)=b.countP λv=>ĭ v y|_,_,.nil,_=>rfl|_,_,.cons (a:=v) (b:=u) r t,f=>by rw[Tn,pi]at f;rw[VX,VX,nq t f.2,ug r f.1]
def xZ:ŉ a "list.count" KQ:=by intro P s r H x w v A Q I i k h;obtain⟨b,g,y,rfl,rfl,o,p,f,B,q⟩:=h;cases i;obtain⟨u,rfl,j⟩:=eD k;obtain⟨z,c,n,d,E,e⟩:=I.lstM o;refine Wa Yb ⟨_,e,rfl⟩ PySem.F.entry_list_count (PySem.F.args_list_count_2 _ _) (SeqAt.list_countAt b c.toArray n U #[] u (Ĭ y)) ⟨e,λt m=>gL j p d f t (by simpa using m),⟨.int (g.countP (λv=>ĭ v y):Nat),H,I.tok _,⟨s.toks,?_⟩,q⟩⟩;have:=nq (y:=y) d f;rw[V1,this]
def Ee{K:d_}{H:Hp}{x:N}{u:V}(q:Ô K H x u)(d:gm x=L):∀{b:List N}{a:List V},S K H b a->b.all gm=L->a.countP (λv=>ĭ v u)=b.countP λy=>Ŷ y x|[],a,r,_=>by cases(show a=[]from r);rfl|y::e,a,r,f=>by obtain⟨v,i,rfl,h,g⟩:∃v c,a=v::c/\Ô K H y v/\S K H e c:=r;rw[Tn,pi]at f;rw[VX,VX,Ee q d g f.2,xP h q f.1 d]
def BN(ho:FE a y A)(ha:FA a (f::u) μ)(g:TU y "count" a.env (eval y a.env)=eval y a.env:=by lk)(m:((R8 B (l_ (f::u) a.env)).all (λx=>!x.1)&&(Tx B (SN [] a.env)).all (λx=>x.1.isSome)&&uk ((f::u).length+([]:List Vw).length+(if([]:List Vw).isEmpty then 0 else 1)<30))=L:=by lk)(e:(p.endLine==B.line)=L:=by lk)(hs:l_ (f::u) a.env=(D,eval f a.env)::l_ u a.env:=by lk)(c:(R8 B (l_ u a.env)).any (·.1)=D:=by lk):FE a (.Call (.Attribute y "count" p) (f::u) [] B) (fML NI A μ):=dr (Bw Wg Yb PySem.F.type_list_count xZ ho.h ha.h g m e hs c) λσ H Q n E y=>⟨n,E,ï.bind y λd v H1 e1 rd q=>by
 cases d<;>try exact(show False from q).elim
 rename_i ds;obtain⟨b,o,rfl,s,r⟩:=rd.lstE;refine⟨.inl ⟨rfl,o,Ć.of s⟩,n,E.mono e1,æ.bind q λu ws z t P h=>?_⟩;unfold NI at h;split at h
 · rename_i x;split at h;·rename_i i;rw[pi,pi]at i;obtain⟨w,rfl,j⟩:=cZ P;have k:=S.mono t _ _ r;refine⟨b,o,w,rfl,rfl,t _ _ s,oy j i.1.1,k6 k i.1.2,by rw[r.length];exact of_decide_eq_true i.2,?_⟩;rw[Ee j i.1.1 k i.1.2];exact h _ z (.refl z) rfl
   ·exact h.elim
 ·exact h.elim⟩
structure Rq(K:d_)(m:Nat)(cls:Nat->O)(CJ:O):Prop where at_:∀c,c<m->nsIn K H_ (xnm c)=Z (Z (.ref (cls c)))/\excIn K (cls c) bmV "ValueError.__new__"=L/\XI K (cls c)/\mroIn K (cls c) (.ref CJ)=Z L/\kitOne K (.ref (cls c)) (.type "ValueError")=Z L/\∀d,d<m->kitOne K (.ref (cls c)) (.ref (cls d))=Z (c==d)exJ:excIn K CJ bmV "ValueError.__new__"=L
section
variable{K:d_}{m:Nat}{cls:Nat->O}{CJ:O}(x:Rq K m cls CJ)
include x
end
def lK:Str->Ñ|x,[.str y]=>if x.length<=100000 then Z (.ok (.str (Uk x y)))else U|_,_=>U
def Ef:V->List V->Hp->VK->Prop:=λx a H Q=>∃i j,x=.str i/\a=[.str j]/\i.length<=sizeLine/\Q (.str (Uk i j)) H
def BO:ŉ a "str.strip" Ef:=by intro p s f H x g v m Q I b d h;obtain⟨i,j,rfl,rfl,e,q⟩:=h;obtain⟨t,rfl⟩:=b;obtain⟨u,rfl,c⟩:=eD d;obtain⟨o,rfl⟩:=c;exact SC.stripChars (λn k=>⟨.str _,H,I.tok k,⟨_,rfl⟩,q⟩) e
def F9(i:Str)(d:List N)(c:List V)(H:Hp)(Q:VK)(e:S a.K H d c)(o:ï a H (lK i d) Q):Ef (.str i) c H Q:=by
 unfold lK at o;split at o
 · rename_i j;split at o;·rename_i f;obtain⟨w,rfl,b⟩:=cZ e;cases(show w=.str j from b);exact⟨i,j,rfl,rfl,cx f,o _ H (.refl H) rfl⟩
   ·exact o.elim
 ·exact o.elim
def gJ(x y:N):Option (Rs N):=match x,y with|.tup a,.tup b=>if a.length+b.length<=100000 then Z (.ok (.tup (a++b)))else U|x,y=>cH x y
def BP(t:F' d.heap e #[])(u:F' d.heap r E.toArray)(v:Â (.ref r) d):t_ (y_ q o) w (UX .Add (.ref e) (.ref r)) Â ν d:=by obtain⟨⟨z,y,k,p⟩,h,j,n,i⟩:=id t;obtain⟨⟨m,g,data2,f⟩,a,c,s,b⟩:=id u;simp only at j i c b;subst j i c b;exact ZM ⟨_,h,rfl⟩ ⟨_,a,rfl⟩ X3 Zu Wx Wh (V4 _ _) (tuple_addW0 e r #[] E.toArray n s y g p f (by simp)) ⟨h,a,v⟩
def Eg(K:d_):R2:=λx y H Q=>∃a b c,x=.ref a/\y=.ref b/\ö K H a []/\ö K H b c/\Q (.ref b) H
def BQ:õ a (UX .Add) (Eg a.K):=by intro t s o H x y v u Q I f e h;obtain⟨c,b,p,rfl,rfl,m,k,q⟩:=h;cases f;cases e;obtain⟨n,g,j,_⟩:=I.tuple m;obtain⟨d,r,i,_⟩:=I.tuple k;cases g;exact BP j i ⟨.ref b,H,I,rfl,q⟩
def KR(X:C):R2:=λx y H Q=>FL x y H Q\/(JJ X.K x y H Q\/Eg X.K x y H Q)
def KS:õ a (UX .Add) (KR a):=ŷ.or (op_catT.or BQ)
variable{n ξ:N}
def x3(h:∀a b,¬(n=.tup a/\ξ=.tup b)):gJ n ξ=cH n ξ:=by
 unfold gJ;split;·rename_i a b;exact absurd ⟨rfl,rfl⟩ (h a b)
 ·rfl
def KT:ę a (KR a) gJ:=by
 intro v u x y H Q r q o;by_cases t:∃c b,v=.tup c/\u=.tup b
 · obtain⟨c,b,rfl,rfl⟩:=t;have d:ï a H (if c.length+b.length<=100000 then Z (.ok (.tup (c++b)))else U) Q:=o;split at d;·rename_i g;obtain⟨p,j,rfl,n,f⟩:=r.tupE;obtain⟨k,i,rfl,m,e⟩:=q.tupE;cases j with
   |nil=>
   have A:c=[]:=by have:=f.length;exact TN.mp this.symm
   subst A;exact .inr (.inr ⟨p,k,i,rfl,rfl,ö.of n,ö.of m,d _ H (.refl H) ⟨k,i,rfl,m,by simpa using e⟩⟩)|cons w j=>refine .inr (.inl ⟨p,k,w::j,i,rfl,rfl,ö.of n,ö.of m,by simp,by rw[f.length,e.length];exact cx g,λs=>?_,λs l g=>d _ _ (aG g _) ⟨l,_,rfl,ao,S.mono (aG g _) _ _ (f.append e)⟩⟩);subst s;have z:b=[]:=TN.mp e.length.symm;subst z;exact d _ H (.refl H) ⟨p,_,rfl,n,by simpa using f⟩
   ·exact d.elim
 ·rw[x3 (λc b h=>t ⟨c,b,h⟩)]at o;exact .inl (Ki v u x y H Q r q o)
def ji{i:R}(a:F' d.heap e υ)(k:d.heap.IsSliceOf r Ζ i .none)(n:Yu Ζ Β)(m:Yu i Κ)(j:HT.sIx υ.size 0 Β=0/\HT.sIx υ.size υ.size Κ=υ.size)(h:Â (.ref e) d):t_ (y_ q o) w (Yp (.ref e) (.ref r)) Â ν d:=by
 obtain⟨os,c,f,p⟩:=id k;have g:d.TypeIs (.ref r) "slice":=⟨os,c,f⟩;unfold Yp;try with_reducible refine SL ?_
 first|refine c_ (j_ ?_)|skip
 refine c_ (wpAny_sequenceKey a.typeIs (by decide) ?_);refine c_ (Sz (name:=b_ "__getitem__") a.typeIs S8 (SY S8 a.typeIs entry_tuple_getitem ?_ (args_tuple_getitem _ _)));show t_ _ _ (Xz (.ref e)>>=_) _ _ d;refine c_ (tupleItemsOf_ a ?_);refine c_ (UU g ?_);rw[if_pos (by decide)];refine c_ (HT.sliceApplied_gen k n m ?_);have b:(((HT.sIx υ.size 0 Β:Nat):Int)==0&&(1:Int)==1&&(HT.sIx υ.size υ.size Κ-HT.sIx υ.size 0 Β)==υ.size)=L:=by rw[j.1,j.2];simp
 show t_ _ _ (if(((HT.sIx υ.size 0 Β:Nat):Int)==0&&(1:Int)==1&&(HT.sIx υ.size υ.size Κ-HT.sIx υ.size 0 Β)==υ.size)=L then _ else _) _ _ d;rw[if_pos b];refine c_ (c_ (UU a.typeIs (j_ ?_)));rw[if_pos (by decide)];exact c_ (UG (j_ ⟨_,rfl,j_ h⟩))
def Rr(K:d_):V->Option Int->Option Int->Hp->VK->Prop:=λx lo c H Q=>∃a b,x=.ref a/\ö K H a b/\(HT.sIx b.length 0 lo=0/\HT.sIx b.length b.length c=b.length)/\Q (.ref a) H
def BR:Ų a (Rr a.K):=by
 intro y s n H x v p o lo w t Q I g m pl i h;obtain⟨b,f,rfl,j,k,q⟩:=h;cases g;obtain⟨d,r,e,u⟩:=I.tuple j;have c:d.toArray.size=f.length:=by rw[G_];exact r.length.symm
 refine⟨"tuple",_,S8.lookup,e.typeIs,?_⟩;exact ji e m pl i (by rw[c];exact k) ⟨.ref b,H,I,rfl,q⟩
def OQ(x:N)(a b:Option Int):Option (Rs N):=match x with|.tup c=>Z (.ok (.tup (xR c a b)))|x=>ND x a b
def i9(e:Ò)(c d:Ž):Ò:=λa=>Õ (e a) λx=>Õ (c a) λlo=>Õ (d a) λb=>OQ x lo b
def v8{a:List z}(h:HT.sIx a.length 0 Β=0/\HT.sIx a.length a.length Κ=a.length):xR a Β Κ=a:=by unfold xR;rw[h.1,h.2];simp
variable{A:Ò}
def Ga{s t:Option u_}{w y:Ž}(ha:FE a f A)(hl:FO a s w)(hh:FO a t y):FE a (.Subscript f (.Slice s t U p) B) (i9 A w y):=dr (uf ((Ş.or xB).or (sl_tup.or BR)) ha.h hl.h hh.h) λσ H Q n E o=>⟨n,E,ï.bind o λd v H1 e1 r1 o1=>⟨n,E.mono e1,jG o1 λl H2 P o2=>⟨n,(E.mono e1).mono P,jG o2 λu m e3 e=>by
 have q:=Ô.mono e3 d v (Ô.mono P d v r1);cases d<;>try exact(show False from e).elim
 · rename_i z;unfold OQ ND at e;dsimp only at e;split at e;·rename_i hz;exact .inl (.inl ⟨z,q,cx hz,e _ m (.refl m) rfl⟩)
   ·exact e.elim
 · rename_i ds;obtain⟨j,c,rfl,i,g⟩:=q.tupE;have k:=g.length;by_cases r:HT.sIx c.length 0 l=0/\HT.sIx c.length c.length u=c.length;·refine .inr (.inr ⟨j,c,rfl,ö.of i,r,e _ m (.refl m) ⟨j,c,rfl,i,?_⟩⟩);rw[v8 (by rw[<-k];exact r)];exact g
   ·refine .inr (.inl ⟨j,c,rfl,ö.of i,r,λb h=>e _ _ (aG h _) ⟨b,_,rfl,ao,S.mono (aG h _) _ _ ?_⟩⟩);unfold Bu xR;rw[g.length];exact(g.drop _).take _
 ·rename_i ds;obtain⟨j,c,rfl,i,g⟩:=q.lstE;refine .inl (.inr ⟨j,c,rfl,Ć.of i,λb h=>e _ _ (aG h _) ⟨b,_,rfl,ao,S.mono (aG h _) _ _ ?_⟩⟩);unfold Bu xR;rw[g.length];exact(g.drop _).take _⟩⟩⟩
def ź(x:N)(a:List N):Option Bool:=if okP x&&uk ((di x).depth<=63)&&TZ (ç a)then Z ((ç a).any λy=>SI y (di x))else U
def NJ(x y:N):Option Bool:=match IP x y with|some b=>Z b|none=>match y with|.lst a=>ź x a|.tup a=>ź x a|_=>U
def inX(x y:N):Option (Rs N):=match NJ x y with|some b=>Z (.ok (.bl b))|none=>U
def kJ(x y:N):Option (Rs N):=match NJ x y with|some b=>Z (.ok (.bl (!b)))|none=>U
def QM(X:C)(c:Bool):R2:=λx y H Q=>∃d a b,Ô X.K H d x/\(Ô X.K H (.lst a) y\/Ô X.K H (.tup a) y)/\ź d a=Z b/\Q (.bl (if c then !b else b)) H
def ya(w:a.A.units+64<cLine):õ a (So .NotIn) (QM a L):=by
 intro z s t H x y v u Q I o k h;obtain⟨e,c,b,p,d,f,q⟩:=h;unfold ź at f;split at f
 · rename_i r;cases f;obtain⟨⟨j,A⟩,g⟩:(okP e=L/\(di e).depth<=63)/\TZ (ç c)=L:=by simpa using r
   obtain⟨as,m⟩:=Ô.reads I e x v p o (TQ.mp j).1;have n:a.A.units+1+min (V7 (ç c)) (di e).depth<cLine:=by have:=aag (V7 (ç c)) (di e).depth;omega
   rcases d with d|d;·obtain⟨bs,i⟩:=Ô.reads I (.lst c) y u d k (by simpa[di,Sl]using g);exact SeqAt.notIn_list_reads i m g (TQ.mp j).1 n ⟨.bl _,H,I,rfl,q⟩
   ·obtain⟨bs,i⟩:=Ô.reads I (.tup c) y u d k (by simpa[di,Sl]using g);exact SeqAt.notIn_tuple_reads i m g (TQ.mp j).1 n ⟨.bl _,H,I,rfl,q⟩
 ·cases f
def yb(X:C):R2:=λx y H Q=>su X.K x y H Q\/QM X L x y H Q
def BS(b:a.A.units+64<cLine):õ a (So .NotIn) (yb a):=Ņ.or (ya b)
def BU:ę a (yb a) kJ:=by intro d i x y H Q g f o;unfold kJ NJ at o;match h:IP d i with
 |some b=>rw[h]at o;exact .inl (xQ d i x y H Q g f (by unfold qh;rw[h];exact o))|none=>
 rw[h]at o;cases i<;>try exact(show False from o).elim
 ·rename_i e;match c:ź d e with|none=>simp only[c]at o;exact(show False from o).elim|some b=>simp only[c]at o;exact .inr ⟨d,e,b,g,.inr f,c,o _ H (.refl H) rfl⟩
 ·rename_i e;match c:ź d e with|none=>simp only[c]at o;exact(show False from o).elim|some b=>simp only[c]at o;exact .inr ⟨d,e,b,g,.inl f,c,o _ H (.refl H) rfl⟩
def KU:Str->Ñ
 |x,[.str y]=>match Ss x y 0 x.length 1 with|i::_=>Z (.ok (.int i))|[]=>U
 |_,_=>U
def QN:V->List V->Hp->VK->Prop:=λx a H Q=>∃i j k l,x=.str i/\a=[.str j]/\Ss i j 0 i.length 1=k::l/\Q (.int (k:Nat)) H
def KW:ŉ a "str.index" QN:=by intro o s f H x g v m Q I b d h;obtain⟨i,j,k,l,rfl,rfl,e,q⟩:=h;obtain⟨t,rfl⟩:=b;obtain⟨u,rfl,c⟩:=eD d;obtain⟨n,rfl⟩:=c;exact SC.index e ⟨.int _,H,I.tok _,⟨_,rfl⟩,q⟩
def OR(i:Str)(e:List N)(d:List V)(H:Hp)(Q:VK)(f:S a.K H e d)(o:ï a H (KU i e) Q):QN (.str i) d H Q:=by
 unfold KU at o;split at o
 ·rename_i j;obtain⟨w,rfl,c⟩:=cZ f;cases(show w=.str j from c);match b:Ss i j 0 i.length 1 with|[]=>rw[b]at o;exact o.elim|k::l=>rw[b]at o;exact⟨i,j,k,l,rfl,rfl,b,o _ H (.refl H) rfl⟩
 ·exact o.elim
abbrev BV(a:List R)(n:Nat):Obj:={cls:=.type "list",data:=.seq a.toArray n}
variable{Μ:L2.St}
def Ë.untrack(I:Ë a H Μ (Ý g e (.lst θ)) d)(ha:g e=U)(t:a.ex=[]):∃j n,Î θ j/\θ.length<=sizeLine/\(∀o,a.s₀.heap.get? e=Z o->a.H₀ e≠U)/\(∀p∈a.pn++H,p.1≠e)/\Ë a (H++[(e,BV j n)]) Μ g d:=by
 obtain⟨z,j,n,rv,hl,f⟩:=I.lstM (l:=e) (xs:=θ) ao;have hb:∀b u,g b=Z u->b≠e:=λb u q=>av q ha;have h:∀b,Ý g e (.lst θ) b=U->g b=U:=λb q=>by
  by_cases i:b=e;·rw[i];exact ha
  ·rw[al i]at q;exact q
 have s:∀b u,Ý g e (.lst θ) b=Z u->(∀B,u≠.lst B)->g b=Z u:=λb u q hu=>by
  by_cases i:b=e;·rw[i,ao]at q;exact absurd (Sd q).symm (hu θ)
  ·rw[al i]at q;exact q
 have a':e∉a.fs:=λhm=>by obtain⟨_,o,r,_⟩:=I.ok.funs.mem hm;have:=I.base.free e o r (I.ok.frf e hm) (by rw[t];simp);rw[ao]at this;cases this
 have y:∀p∈a.pn++H,p.1≠e:=λp hp w=>by have:=(I.pin p hp).2.1;rw[w,ao]at this;cases this
 refine⟨j,n,rv,z,λo r h0=>?_,y,⟨I.ok,I.os,I.bare,⟨I.base.keep,I.base.slot,λb o q n hx=>h b (I.base.free b o q n hx),I.base.there,λb B q=>s b _ (I.base.tups b B q) (λ_ w=>by cases w),λb o u q=>s b _ (I.base.frzs b o u q) (λ_ w=>by cases w),λb ps q=>?_⟩,I.loc,I.cell,h _ I.free,λx c q=>h _ (I.freeC x c q),λp hp=>?_,λb u q=>?_,I.len⟩⟩;·have:=I.base.free e o r h0 (by rw[t];simp);rw[ao]at this;cases this
 ·obtain⟨A,q'⟩:=I.base.tbls b ps q;exact⟨A,s b _ q' (λ_ w=>by cases w)⟩
 · rcases Sr.mp hp with k|k;·obtain⟨q1,P,E⟩:=I.pin p (RX _ k);exact⟨q1,h _ P,E⟩
   · rcases Sr.mp k with k|k;·obtain⟨q1,P,E⟩:=I.pin p (q_ _ k);exact⟨q1,h _ P,E⟩
     ·simp only[Sf]at k;subst k;refine⟨f,ha,λw=>?_,a',λv w=>by cases w⟩;obtain⟨m,⟨o,es,ep,r,hd,_⟩,_⟩:=I.loc;have w':e=a.env.locals:=w;rw[<-w',f]at r;cases r;cases hd
 · have hq:Ý g e (.lst θ) b=Z u:=by rw[al (hb b u q)];exact q
   refine(I.hok b u hq).stay (λ_ _ _ w=>w) (λc w=>s c _ w (λ_ w=>by cases w)) (λc B w=>s c _ w (λ_ w=>by cases w)) λc _ _ w=>s c _ w (λ_ w=>by cases w)
def Ë.retrack(I:Ë a (H++[(e,BV E c)]) Μ g d)(A:Î θ E)(hz:θ.length<=sizeLine)(h0:∀o,a.s₀.heap.get? e=Z o->a.H₀ e≠U)(r:∀p∈a.pn++H,p.1≠e):g e=U/\Ë a H Μ (Ý g e (.lst θ)) d:=by
 obtain⟨i,z,nL,nf,nc⟩:=I.pin (e,BV E c) (q_ _ (q_ _ (by simp)));have j:∀b u,g b=Z u->Ý g e (.lst θ) b=Z u:=λb u q=>by rw[al (av q z)];exact q
 have lo:∀b,g b=U->b≠e->Ý g e (.lst θ) b=U:=λb q h=>by rw[al h];exact q
 refine⟨z,⟨I.ok,I.os,I.bare,⟨I.base.keep,I.base.slot,λb o q c hx=>lo b (I.base.free b o q c hx) (λw=>h0 o (w▸q) (w▸c)),I.base.there,λb s q=>j b _ (I.base.tups b s q),λb o u q=>j b _ (I.base.frzs b o u q),λb ps q=>?_⟩,I.loc,I.cell,lo _ I.free (Vg nL),λx f q=>lo _ (I.freeC x f q) (λw=>?_),λp t=>?_,λb u q=>?_,I.len⟩⟩;·obtain⟨k,q'⟩:=I.base.tbls b ps q;exact⟨k,j b _ q'⟩
 ·obtain⟨v,o,m,hd⟩:=I.cell x f q;rw[w]at m;have e':d.heap.get? e=Z (BV E c):=i;rw[e']at m;cases m;cases hd
 ·obtain⟨q1,P,B⟩:=I.pin p (by
   rcases Sr.mp t with n|n;·exact RX _ n
   ·exact q_ _ (RX _ n));exact⟨q1,lo _ P (r p t),B⟩
 · by_cases y:b=e;·subst y;rw[ao]at q;cases q;exact⟨hz,E,c,A,i⟩
   ·rw[al y]at q;exact(I.hok b u q).stay (λ_ _ _ w=>w) (λf w=>j f _ w) (λf s w=>j f _ w) λf _ _ w=>j f _ w
def OS(t:TE):TE:=λd e Q=>∃H a b,e=Ý H a (.lst b)/\H a=U/\t d H λv c=>c a=U->Q v (Ý c a (.lst b))
def OT(t:TT):TT:=λd e Q=>∃H a b,e=Ý H a (.lst b)/\H a=U/\t d H λv c=>c a=U->Q v (Ý c a (.lst b))
def OW(t:TA):TA:=λd e Q=>∃H a b,e=Ý H a (.lst b)/\H a=U/\t d H λv c=>c a=U->Q v (Ý c a (.lst b))
def OX(t:TI):TI:=λd e Q=>∃H a b,e=Ý H a (.lst b)/\H a=U/\t d H λv c=>c a=U->Q v (Ý c a (.lst b))
def sI(c:a.ex=[]){t:TE}(h:PE a f t):PE a f (OS t):=by intro P s e Hf Q I⟨H,b,B,p,m,q⟩;subst p;obtain⟨A,n,g,j,o,k,z⟩:=Ë.untrack I m c;refine è (h _ s e H _ z q) λu E⟨v,H',y,r,i⟩=>?_;obtain⟨d,w⟩:=Ë.retrack y g j o k;exact⟨v,_,w,r,i d⟩
def Gb(c:a.ex=[]){t:TT}(h:PT a f t):PT a f (OT t):=by intro B s e E Q I⟨H,b,z,p,m,q⟩;subst p;obtain⟨y,n,g,j,o,k,w⟩:=Ë.untrack I m c;refine è (h _ s e H _ w q) λu A⟨P,v,i⟩=>?_;obtain⟨d,r⟩:=Ë.retrack v g j o k;exact⟨_,r,i d⟩
def Gc(d:a.ex=[]){t:TA}(h:PA a u t):PA a u (OW t):=by intro pos P s f Hf Q I⟨H,c,B,p,m,q⟩;subst p;obtain⟨A,n,g,j,o,k,z⟩:=Ë.untrack I m d;refine è (h pos _ s f H _ z q) λb E⟨v,H',y,r,i⟩=>?_;obtain⟨e,w⟩:=Ë.retrack y g j o k;exact⟨v,_,w,r,i e⟩
def Ge(i:a.ex=[]){o:u_}{t:TI}(h:PI a o f t):PI a o f (OX t):=by
 intro f' s v Hf R I⟨H,c,xs,e1,ha,q⟩;subst e1;obtain⟨d,n,A,E,h0,P,I'⟩:=Ë.untrack I ha i;refine è (h _ s v H _ I' q) λu s1 e=>è e λa' s2⟨it,fp,y,J,H',e2,I2,T,z,m,B⟩=>?_;obtain⟨k,I3⟩:=Ë.retrack I2 A E h0 P;refine⟨it,fp,y,J,_,e2,I3,T,z,λb hb=>?_,B k⟩;obtain⟨g0,g1,g2,g3,g4,r⟩:=m b hb;have j:b≠c:=λw=>r (c,BV d n) (q_ _ (q_ _ (by simp))) w.symm;refine⟨by rw[al j];exact g0,g1,g2,g3,g4,λp g=>r p ?_⟩;rcases Sr.mp g with w|w;·exact RX _ w
 ·exact q_ _ (RX _ w)
mutual
def ġ:N->Bool|.non=>L|.bl _=>L|.int _=>L|.str _=>L|.tup a=>Þ a|.lst _=>D|.scr _=>D|.exn _=>D|.obj _ _=>D
def Þ:List N->Bool|[]=>L|d::a=>ġ d&&Þ a
end
mutual
theorem Ô.tups{K:d_}{H g:Hp}(k:∀b e,H b=Z (.tup e)->g b=Z (.tup e)):∀(d:N)(v:V),ġ d=L->Ô K H d v->Ô K g d v|.non,_,_,h=>h|.bl _,_,_,h=>h|.int _,_,_,h=>h|.str _,_,_,h=>h|.tup c,v,i,h=>by obtain⟨a,m,r,h,q⟩:=h.tupE;exact⟨a,m,r,k _ _ h,S.tups k c m (by simpa[ġ]using i) q⟩|.lst _,_,i,_=>by simp[ġ]at i|.scr _,_,i,_=>by simp[ġ]at i|.exn _,_,i,_=>by simp[ġ]at i|.obj _ _,_,i,_=>by simp[ġ]at i
theorem S.tups{K:d_}{H g:Hp}(k:∀b e,H b=Z (.tup e)->g b=Z (.tup e)):∀(c:List N)(j:List V),Þ c=L->S K H c j->S K g c j
 |[],_,_,h=>h|d::c,j,i,h=>by
  obtain⟨v,f,r,h,q⟩:∃v f,j=v::f/\Ô K H d v/\S K H c f:=h;have n:ġ d=L/\Þ c=L:=by simpa[Þ]using i
  exact⟨v,f,r,Ô.tups k d v n.1 h,S.tups k c f n.2 q⟩end
inductive Fo where|nx(ρ:Ev)(ds:List N)|rt(d:N)
abbrev k8:=Ev->List N->Option Fo
def Ę(X:C)(i:Nat)(a:O)(H:Hp)(o:Option Fo)(b:tZ):Prop:=match o with|none=>False|some (.rt d)=>∀v c,Í H c->Ô X.K c d v->b.rt v c|some (.nx g h)=>∀e c f,Í H c->c a=U->e[i]?=Z (Z (.ref a))->Ù X.K c e g->S X.K c h f->b.nx e (Ý c a (.lst f))
def Ę.mono{d:tZ}(b:Í g ω):∀{o:Option Fo},Ę a c e g o d->Ę a c e ω o d|none,h=>h|some (.rt _),h=>λv i f r=>h v i (b.trans f) r|some (.nx _ _),h=>λj i k f=>h j i k (b.trans f)
def tO(X:C)(i:Nat)(f:k8):TS:=λb c h=>∃H a e d g,h=Ý H a (.lst e)/\H a=U/\c[i]?=Z (Z (.ref a))/\Ù X.K H c d/\S X.K H g e/\Ę X i a H (f d g) b
structure Ŗ(X:C)(i:Nat)(st:S7)(f:k8):Prop where h:PS X st (tO X i f)
structure ŧ(X:C)(i:Nat)(st:List S7)(f:k8):Prop where h:ĺ X st (tO X i f)
def yc(o:Option (Rs z))(k:z->Option Fo):Option Fo:=match o with|some (.ok a)=>k a|_=>U
def OY:k8:=λa b=>Z (.nx a b)
def oH(f g:k8):k8:=λc d=>match f c d with|some (.nx a b)=>g a b|o=>o
def pS(j:Nat)(f:Ò):k8:=λa b=>yc (f a) λd=>Z (.nx (a.set j (Z d)) b)
def oIf(c:ë)(f g:k8):k8:=λa b=>yc (c a) λk=>if k then f a b else g a b
def Gf(i:Nat)(f:Ò):k8:=λa b=>yc (f (a.set i (Z (.lst b)))) λd=>Z (.rt d)
def IQ(f:Ò):k8:=λa b=>if b.length<100000 then yc (f a) λd=>Z (.nx a (b++[d]))else U
def il(a:g e=U):Í g (Ý g e (.lst θ)):=aG a _
variable{ζ:Ev}{k:List N}
def qt(h:g e=U)(n:Μ[c]?=Z (Z (.ref e)))(E:Ù a.K g Μ ζ)(r:S a.K g k θ):Ù a.K (Ý g e (.lst θ)) Μ (ζ.set c (Z (.lst k))):=by
 have i:=E.mono (il (θ:=θ) h);refine⟨by rw[SF];exact i.len,λj d b=>?_⟩;by_cases f:c=j
 · subst f;by_cases m:c<ζ.length;·rw[Sh m]at b;cases b;exact⟨.ref e,n,e,θ,rfl,ao,S.mono (il h) _ _ r⟩
   ·rw[Ue (by rw[SF];omega)]at b;cases b
 ·rw[Sy f]at b;exact i.at' j d b
def Gg:ŧ a c [] OY:=⟨λi s e n b I⟨H,d,f,k,m,j,h,g,E,r,o⟩=>by subst j;exact se i s e _ b I (o e H f (.refl H) h g E r)⟩
def BW{f g:k8}(A:Ŗ a c τ f)(z:ŧ a c Ä g):ŧ a c (τ::Ä) (oH f g):=⟨λB s t Hf e I⟨H,b,u,p,q,P,y,w,E,r,o⟩=>by refine kX A.h z.h B s t Hf e I ⟨H,b,u,p,q,P,y,w,E,r,?_⟩;unfold oH at o;match h:f p q with|none=>rw[h]at o;exact o.elim|some (.rt d)=>rw[h]at o;exact o|some (.nx i n)=>rw[h]at o;exactλa' H' j e' m k E' v=>⟨H',b,j,i,n,rfl,m,k,E',v,Ę.mono e' o⟩⟩
def Gh{f:k8}(b:Ŗ a c τ f):ŧ a c [τ] f:=⟨sf b.h⟩
def KY(n:a.ex=[])(j:Nat)(k:c≠j){x:Str}{g:Pos}(hN:a.N.Nodup)(B:a.N[j]?=Z x)(y:ľ a.env.scope x)(he:FE a f A)(z:To f (Z (.Name x g)) p.line a.env=pure D:=by lk)(P:a.fn x=L\/a.env.scope.names.lookup x=Z .local:=by first|exact .inl rfl|exact .inr rfl|assumption):Ŗ a c (.Assign [.Name x g] f p) (pS j A):=⟨λf' s w Hf e I⟨H,b,u,t,ds,e1,ha,m,E,r,o⟩=>by refine ua hN B y (sI n he.h) z P f' s w Hf e I ⟨H,b,u,e1,ha,t,E,?_⟩;unfold pS at o;match h:A t with|none=>rw[h]at o;exact o.elim|some (.exc _)=>rw[h]at o;exact o.elim|some (.ok d)=>rw[h]at o;exactλv H' i rd q=>o _ H' u i q (by rw[Sy (Vg k)];exact m) ((E.mono i).set rd) (S.mono i _ _ r)⟩
variable{Ο:ë}
def OZ{d g:k8}(t:a.ex=[]){y w:List S7}(A:FT a f Ο)(P:ŧ a c y d)(B:ŧ a c w g):Ŗ a c (.If f y w p) (oIf Ο d g):=⟨λf' s z Hf e I⟨H,b,m,j,v,e1,u,i,E,r,o⟩=>by refine Fd (Gb t A.h) P.h B.h f' s z Hf e I ⟨H,b,m,e1,u,j,E,?_⟩;unfold oIf at o;match k:Ο j with|none=>rw[k]at o;exact o.elim|some (.exc _)=>rw[k]at o;exact o.elim|some (.ok L)=>rw[k]at o;exactλq h n=>DW ⟨q,b,m,j,v,rfl,n,i,E.mono h,S.mono h _ _ r,Ę.mono h o⟩|some (.ok D)=>rw[k]at o;exactλq h n=>DV ⟨q,b,m,j,v,rfl,n,i,E.mono h,S.mono h _ _ r,Ę.mono h o⟩⟩
def KZ(m:FE a f A):Ŗ a c (.Return (Z f) p) (Gf c A):=⟨λn s j z b I⟨H,e,y,k,u,t,g,i,E,r,o⟩=>by subst t;refine w6 m.h n s j _ b I ⟨_,qt g i E r,?_⟩;unfold Gf at o;match h:A (k.set c (Z (.lst u)))with|none=>rw[h]at o;exact o.elim|some (.exc _)=>rw[h]at o;exact o.elim|some (.ok d)=>rw[h]at o;exactλv w q rd=>o v w ((il g).trans q) rd⟩
def K0(B:a.ex=[]){x:Str}{h g:Pos}(hx:PE a (.Name x h) (DJ c))(he:FE a f A)(m:TU (.Name x h) "append" a.env (eval (.Name x h) a.env)=eval (.Name x h) a.env:=by lk)(t:((R8 g (l_ [f] a.env)).all (λx=>!x.1)&&(Tx g (SN [] a.env)).all (λx=>x.1.isSome)&&uk ([f].length+([]:List Vw).length+(if([]:List Vw).isEmpty then 0 else 1)<30))=L:=by lk){y:Pos}(k:(y.endLine==g.line)=L:=by lk)(hs:l_ [f] a.env=(D,eval f a.env)::l_ [] a.env:=by lk)(j:(R8 g (l_ [] a.env)).any (·.1)=D:=by lk)(z:To (.Call (.Attribute (.Name x h) "append" y) [f] [] g) U p.line a.env=pure D:=by lk):Ŗ a c (.Expr (.Call (.Attribute (.Name x h) "append" y) [f] [] g) p) (IQ A):=⟨λf' s σ Hf e I⟨H,b,n,u,ds,e1,a',q,E,r,o⟩=>by
 refine sh (Bw Wg WZ PySem.F.type_list_append xD hx (Gc B (xG he DZ hs).h) m t k hs j) z f' s σ Hf e I ?_;unfold IQ at o;split at o
 ·rename_i hl;match i:A u with
  |none=>rw[i]at o;exact o.elim|some (.exc _)=>rw[i]at o;exact o.elim|some (.ok d)=>
  rw[i]at o;refine⟨.ref b,q,.inl ⟨rfl,n,Ć.of (by rw[e1];exact ao)⟩,H,b,n,e1,a',u,E,?_⟩;show æ a H (aO A dZ u) _;rw[ac i aw];intro vs H' w rs P;obtain⟨v,rfl,rv⟩:=cZ rs;have hz:n.length<sizeLine:=by have:=r.length;have h2:=cx (c:=n.length+1) (by omega);omega
  refine⟨b,n,v,rfl,rfl,ao,hz,?_⟩;rw[wX];exact o σ H' (n++[v]) w P q (E.mono w) ((S.mono w _ _ r).append ⟨v,[],rfl,rv,rfl⟩)
 ·exact o.elim⟩
def Eh(i:Nat)(g:á)(f:k8):Ø:=λc=>cf (g c) λe=>if e.length<=100000 then(match f (c.set i U) e with|some (.nx a b)=>Z (.nx (a.set i (Z (.lst b))))|some (.rt d)=>Z (.rt d)|none=>U)else U
variable{μ:á}{Υ:Pos}
def Gi{f:k8}(hN:a.N.Nodup)(hi:a.N[c]?=Z b)(hx:ľ a.env.scope b)(hg:FA a u μ)(hr:ŧ a c Ä f)(hs:To (.List u B) (Z (.Name b Υ)) p.line a.env=pure D:=by lk)(hf:a.fn b=L\/a.env.scope.names.lookup b=Z .local:=by first|exact .inl rfl|exact .inr rfl|assumption):Ħ a (.Assign [.Name b Υ] (.List u B) p::Ä) (Eh c μ f):=⟨λf' s σ H e I⟨m,E,o⟩=>by refine kX (ua (c:=c) hN hi hx (DT hg.h) hs hf) hr.h f' s σ H e I ⟨m,E,?_⟩;unfold Eh at o;match i:μ m with
 |none=>rw[i]at o;exact o.elim|some (.exc _)=>rw[i]at o;exact o|some (.ok q)=>
 rw[i]at o;intro vs H1 P rs;have h:ò a H (if q.length<=100000 then(match f (m.set c U) q with|some (.nx r y)=>Z (.nx (r.set c (Z (.lst y))))|some (.rt d)=>Z (.rt d)|none=>U)else U) e:=o;by_cases A:q.length<=100000
 · rw[if_pos A]at h;refine⟨by rw[rs.length];exact cx A,λg hp=>?_⟩;have c':c<σ.length:=by rw[I.len];exact(xy.mp hi).1
   refine⟨H1,g,vs,m.set c U,q,rfl,hp,Sh c',?_,rs,?_⟩
   · have E1:=(E.mono P).fgt1 c;refine⟨by rw[SF];exact E1.len,λj d n=>?_⟩;by_cases t:c=j
     · subst t;by_cases b':c<m.length;·rw[Sh b']at n;cases n
       ·rw[Ue (by rw[SF];omega)]at n;cases n
     ·obtain⟨v,q1,q2⟩:=E1.at' j d n;exact⟨v,by rw[Sy t];exact q1,q2⟩
   ·match k:f (m.set c U) q with|none=>rw[k]at h;exact h.elim|some (.rt d)=>rw[k]at h;exactλv H' e' z=>h v H' (P.trans e') z|some (.nx r y)=>rw[k]at h;exactλa' H' g' e' w d' E' z=>h a' _ ((P.trans e').trans (il w)) (qt w d' E' z)
 ·rw[if_neg A]at h;exact h.elim⟩
def qu(j:Nat)(e:List Nat)(a:k8):List N->Ev->List N->Option Fo|[],b,c=>Z (.nx (fgt e b) c)|d::h,b,c=>match a ((fgt e b).set j (Z d)) c with|some (.nx f g)=>qu j e a h f g|o=>o
def Gj(j:Nat)(f:List Nat)(b:á)(a:k8):k8:=λc e=>yc (b c) λd=>if Þ d=L then qu j f a d c e else U
def iQ:∀{a:List N}{n:Nat}{d:N},Þ a=L->a[n]?=Z d->ġ d=L
 |[],_,_,_,h=>by simp at h|e::a,0,d,i,h=>by
  have b:ġ e=L/\Þ a=L:=by simpa[Þ]using i
  cases(show Z e=Z d from h);exact b.1|e::a,n+1,d,i,h=>by
  have b:ġ e=L/\Þ a=L:=by simpa[Þ]using i
  exact iQ b.2 (show a[n]?=Z d from h)
def BX(i:ġ n=L)(r:Ô s (Ý g e (.lst θ)) n Γ):Ô s g n Γ:=Ô.tups (λb c q=>by
 by_cases a:b=e;·rw[a,ao]at q;cases q
 ·rw[al a]at q;exact q) n Γ i r
def K2{fb:k8}(t':a.ex=[])(j:Nat)(P:List Nat)(p':c≠j)(hp:Wf (y_ a.prog a.w) a.A a.env a.xe)(hc:a.calm=L)(hi:FI a f y μ)(hg:PG a f (w8 j))(hb:ŧ a c Ä fb)(hs:∀x,Sj y a.env x=pure x:=by intro _;lk):Ŗ a c (.For f y Ä [] p) (Gj j P μ fb):=⟨λf' s σ Hf e I⟨H,b,xs,ρ,ds,e1,ha,q',E,r,o⟩=>by refine uc hp hc (Ge t' hi.h) hg hb.h hs f' s σ Hf e I ⟨H,b,xs,e1,ha,ρ,E,?_⟩;unfold Gj at o;match hf:μ ρ with
 |none=>rw[hf]at o;exact o.elim|some (.exc _)=>rw[hf]at o;exact o.elim|some (.ok i)=>
 rw[hf]at o;have o0:Ę a c b H (if Þ i=L then qu j P fb i ρ ds else U) e:=o;by_cases c':Þ i=L
 · rw[if_pos c']at o0;intro J H1 e1 wk u';have o1:=Ę.mono e1 o0;refine⟨λn m z k'=>m=i.length-n/\n<=i.length/\∃k h t u,k'=Ý k b (.lst h)/\k b=U/\Í H1 k/\z[c]?=Z (Z (.ref b))/\Ù a.K k z t/\S a.K k u h/\Ę a c b k (qu j P fb (i.drop n) t u) e,⟨i.length,by simp,Sb _,H1,xs,ρ,ds,rfl,u',.refl H1,q',E.mono e1,S.mono e1 _ _ r,by simpa using o1⟩,?_⟩;rintro n m z k'⟨rfl,hn,k,h,t,u,rfl,e',e2,a',E',r',v⟩;have g':Í H1 (Ý k b (.lst h)):=e2.trans (il e');by_cases b':n<i.length;·refine .inr ⟨wk.go n _ g' b',λw i'=>∃H2 h' A B,i'=Ý H2 b (.lst h')/\H2 b=U/\Í H1 H2/\w[c]?=Z (Z (.ref b))/\Ù a.K H2 w A/\S a.K H2 B h'/\Ę a c b H2 (qu j P fb (i.drop (n+1)) A B) e,λw i' q=>⟨i.length-(n+1),by omega,rfl,b',q⟩,λx H2 g=>?_⟩;obtain⟨rfl,d,hd,rd⟩:=wk.yld n _ x H2 g' b' g;have m':=BX (iQ c' hd) rd;rw[jE hd]at v;show tO a c fb _ _ _;refine⟨k,b,h,(fgt P t).set j (Z d),u,rfl,e',by rw[Sy (Vg p')];exact a',(Ù.fgt P E').set m',r',?_⟩;unfold qu at v;match d':fb ((fgt P t).set j (Z d)) u with|none=>rw[d']at v;exact v|some (.rt r)=>rw[d']at v;exact v|some (.nx A B)=>rw[d']at v;exactλw H3 l' e3 h3 s' E3 r3=>⟨H3,l',A,B,rfl,h3,e2.trans e3,s',E3,r3,Ę.mono e3 v⟩
   · have n':n=i.length:=by omega
     subst n';rw[WS]at v;exact .inl ⟨wk.stop _ g',v z k h (.refl k) e' a' (Ù.fgt P E') r'⟩
 ·rw[if_neg c']at o0;exact o0.elim⟩
def oJ:N->Bool|.bl _=>L|.int _=>L|_=>D
def Gk(K:d_)(d:N):Vk K (.type (tyD d)) (.type "int")=Z (oJ d):=by cases d<;>lk
def K3:TC (b_ "int")=Z (.type "int"):=by lk
def K4:Ñ|[.int i,.int j]=>Z (.ok (.int (if j>i then j else i)))|_=>U
def NK:Ñ|[.int i,.int j]=>Z (.ok (.int (if j<i then j else i)))|_=>U
def O0:Ñ|[.int i]=>if i.natAbs.log2<1920 then Z (.ok (.str (toString i)))else U|_=>U
def K5(s:a.calm=L)(n:Gl a "max")(m:a.mg "max"=U)(t:FA a (f::u) μ)(q:l_ (f::u) a.env=(D,eval f a.env)::l_ u a.env:=by lk)(c:(R8 B (l_ u a.env)).any (·.1)=D:=by lk):FE a (.Call (.Name "max" p) (f::u) [] B) (â K4 μ):=dr (gK (xl s) n m YQ t.h (by decide) (by decide) q c) λw H Q e E o=>⟨e,E,æ.bind o λA y d z h b=>by
 unfold K4 at b;split at b;·rename_i i j;obtain⟨v,g,rfl,r,k⟩:=BB h;cases(show v=.int i from r);cases(show g=.int j from k);exact⟨i,j,rfl,b _ d (.refl d) rfl⟩
 ·exact b.elim⟩
def K7(s:a.calm=L)(n:Gl a "min")(m:a.mg "min"=U)(t:FA a (f::u) μ)(q:l_ (f::u) a.env=(D,eval f a.env)::l_ u a.env:=by lk)(c:(R8 B (l_ u a.env)).any (·.1)=D:=by lk):FE a (.Call (.Name "min" p) (f::u) [] B) (â NK μ):=dr (gK (xm s) n m PyProof.Rows.boot_min t.h (by decide) (by decide) q c) λw H Q e E o=>⟨e,E,æ.bind o λA y d z h b=>by
 unfold NK at b;split at b;·rename_i i j;obtain⟨v,g,rfl,r,k⟩:=BB h;cases(show v=.int i from r);cases(show g=.int j from k);exact⟨i,j,rfl,b _ d (.refl d) rfl⟩
 ·exact b.elim⟩
def ī:N->N->Option (Rs N)|.int i,.int j=>Z (.ok (.bl (uk (i<=j))))|.str x,.str y=>Z (.ok (.bl (!uk (y.cps.toList<x.cps.toList))))|_,_=>U
def QO:R2:=λx y H Q=>Ŏ (λi j=>.bl (uk (i<=j))) x y H Q\/∃i j,x=.str i/\y=.str j/\Q (.bl (!uk (j.cps.toList<i.cps.toList))) H
def yd:õ a (So .LtE) (λx y H Q=>∃i j,x=.str i/\y=.str j/\Q (.bl (!uk (j.cps.toList<i.cps.toList))) H):=by intro f s d H x y v u Q I c b h;obtain⟨i,j,rfl,rfl,q⟩:=h;obtain⟨t,rfl⟩:=c;obtain⟨e,rfl⟩:=b;exact PySem.P.le_str ⟨.bl _,H,I,rfl,q⟩
def O1:õ a (So .LtE) QO:=op_le.or yd
def O2:ę a QO ī:=by
 intro e d x y H Q c b o;cases e<;>cases d<;>try exact(show False from o).elim
 ·rename_i i j;exact .inl ⟨i,j,c,b,o _ H (.refl H) rfl⟩
 ·rename_i i j;exact .inr ⟨i,j,c,b,o _ H (.refl H) rfl⟩
structure O3(K:d_)(S:List Nat)(cls:Nat->O)(CJ:O):Prop where at_:∀c∈S,nsIn K H_ (xnm c)=Z (Z (.ref (cls c)))/\excIn K (cls c) bmV "ValueError.__new__"=L/\XI K (cls c)/\mroIn K (cls c) (.ref CJ)=Z L/\mroIn K (cls c) (.ref (cls c))=Z L/\kitOne K (.ref (cls c)) (.type "ValueError")=Z L/\∀d∈S,kitOne K (.ref (cls c)) (.ref (cls d))=Z (c==d)exJ:excIn K CJ bmV "ValueError.__new__"=L
section
variable{K:d_}{S:List Nat}{cls:Nat->O}{CJ:O}(x:O3 K S cls CJ)
include x
end
end FD
variable{k:List FD.N}{Μ:L2.St}{ζ:FD.Ev}{n:FD.N}{Ρ:FD.Ñ}{A:FD.Ò}{Ο:FD.ë}{Τ:FD.Ø}{È:FD.Ò}{μ:FD.á}{ξ:FD.N}{Υ:Pos}
namespace ST
open PySem.SetTable
def W'(m i:Nat):Nat:=(i*5+1)%(m+1)
def it(m:Nat):Nat->Nat->Nat|0,i=>i|k+1,i=>it m k (W' m i)
def wR(m:Nat):Bool:=(rl (m+1)).all λi=>(rl (m+1)).all λj=>(rl (m+1)).any λk=>it m k i==j
def Rt:wR 7=L:=by decide+kernel
def O4:wR 31=L:=by decide+kernel
def uq(m:Nat):∀(a b i:Nat),it m (a+b) i=it m b (it m a i)|0,b,i=>by rw[U1];rfl|a+1,b,i=>by rw[ZZ];exact uq m a b (W' m i)
def orb(m:Nat):Nat->Nat->List Nat|0,_=>[]|n+1,i=>i::orb m n (W' m i)
def Ei(m:Nat):∀(n i j:Nat),j∈orb m n i->∃k,k<n/\it m k i=j
 |0,_,_,h=>by simp[orb]at h|n+1,i,j,h=>by
  rcases w_.mp h with rfl|h;·exact⟨0,by omega,rfl⟩
  ·obtain⟨k,b,a⟩:=Ei m n _ j h;exact⟨k+1,by omega,a⟩
def Gm:((rl 128).all λj=>(orb 127 128 0).contains j)=L:=by decide+kernel
def BY:it 127 128 0=0:=by decide+kernel
def K8:wR 127=L:=by
 have c:∀j,j<128->∃k,k<128/\it 127 k 0=j:=λj d=>by have:=S3.mp Gm j (SH.mpr d);exact Ei 127 128 0 j (by simpa using this)
 unfold wR;refine S3.mpr λi g=>S3.mpr λj d=>VY.mpr ?_;obtain⟨a,n,f⟩:=c i (SH.mp g);obtain⟨b,m,e⟩:=c j (SH.mp d);by_cases h:a<=b;·refine⟨b-a,SH.mpr (by omega),?_⟩;rw[<-f,<-uq,show a+(b-a)=b by omega,e];simp
 ·refine⟨128-a+b,SH.mpr (by omega),?_⟩;rw[<-f,<-uq,show a+(128-a+b)=128+b by omega,uq,BY,e];simp
def K9(h:wR c=L){i j:Nat}(g:i<=c)(f:j<=c):∃k,k<=c/\it c k i=j:=by unfold wR at h;have d:=S3.mp h i (SH.mpr (by omega));have b:=S3.mp d j (SH.mpr (by omega));obtain⟨k,a,e⟩:=VY.mp b;exact⟨k,by have:=SH.mp a;omega,by simpa using e⟩
def lp(m:Nat):Nat->Nat×Nat->Nat×Nat|0,x=>x|r+1,x=>lp m r (leap m x.1 x.2)
def ye(m:Nat):∀(a b:Nat)(x:Nat×Nat),lp m (a+b) x=lp m b (lp m a x)|0,b,x=>by rw[U1];rfl|a+1,b,x=>by rw[ZZ];show lp m (a+b) (leap m x.1 x.2)=lp m b (lp m a (leap m x.1 x.2));exact ye m a b _
def Go(m:Nat):∀(r:Nat)(x:Nat×Nat),x.1<=m->(lp m r x).1<=m|0,x,h=>h|r+1,x,h=>Go m r _ (by show(x.1*5+1+x.2/32)%(m+1)<=m;exact U4 (Wc _ (WB m)))
def La(m:Nat):∀(r:Nat)(x:Nat×Nat),(lp m r x).2=x.2/32^r|0,x=>by simp[lp]|r+1,x=>by show(lp m r (leap m x.1 x.2)).2=_;rw[La m r];show x.2/32/32^r=_;rw[Nat.div_div_eq_div_mul,Nat.pow_succ,Nat.mul_comm]
def yf(m:Nat):∀(r:Nat)(i:Nat),(lp m r (i,0)).1=it m r i
 |0,i=>rfl|r+1,i=>by
  show(lp m r (leap m i 0)).1=it m r (W' m i);have e:leap m i 0=(W' m i,0):=by unfold leap W';simp
  rw[e];exact yf m r _
def yg(a:wR c=L){i b j:Nat}(f:i<=c)(m:b<2^64)(d:j<=c):∃r,r<=13+c/\(lp c r (i,b)).1=j:=by
 have g:(lp c 13 (i,b)).2=0:=by rw[La];exact Nat.div_eq_of_lt (by
 show b<32^13;have:(32:Nat)^13=2^65:=by decide
 omega)
 obtain⟨k,n,e⟩:=K9 a (Go c 13 (i,b) f) d;refine⟨13+k,by omega,?_⟩;rw[ye];have h:lp c 13 (i,b)=((lp c 13 (i,b)).1,0):=by rw[<-g]
 rw[h,yf];exact e
def advN(t:SetTable):Nat->Probe->Probe|0,p=>p|n+1,p=>advN t n (t.advance p)
def jH(t:SetTable):∀(a b:Nat)(p:Probe),advN t (a+b) p=advN t b (advN t a p)|0,b,p=>by rw[U1];rfl|a+1,b,p=>by rw[ZZ];exact jH t a b _
structure Vp(t:SetTable)(p:Probe):Prop where
 i:p.i<=t.mask
 pt:p.perturb<2^64more:p.more<=9dm:p.dummy=U
def qv(m i:Nat):aaM m i-i<=9:=by unfold aaM;split<;>omega
def qw(t:SetTable)(p:Probe):Probe:={p with j:=(leap t.mask p.i p.perturb).1,more:=aaM t.mask (leap t.mask p.i p.perturb).1-(leap t.mask p.i p.perturb).1,i:=(leap t.mask p.i p.perturb).1,perturb:=(leap t.mask p.i p.perturb).2}
def ur(t:SetTable)(p:Probe)(h:p.more=0):t.advance p=qw t p:=by unfold aac qw;rw[if_neg (by omega)]
def yh(t:SetTable)(p:Probe)(h:0<p.more):t.advance p={p with j:=p.j+1,more:=p.more-1}:=by unfold aac;rw[if_pos h]
def sJ(t:SetTable):∀(k:Nat)(p:Probe),p.more=k->advN t (k+1) p=qw t p|0,p,h=>ur t p h|k+1,p,h=>by show advN t (k+1) (t.advance p)=_;rw[yh t p (by omega),sJ t k _ (by show p.more-1=k;omega)];rfl
def yi(m i a:Nat)(h:a<2^64):(leap m i a).2<2^64:=Nat.lt_of_le_of_lt (Nat.div_le_self _ _) h
variable{ο:SetTable}
def Vp.leap{p:Probe}(v:Vp ο p):Vp ο (qw ο p):=⟨by show(p.i*5+1+p.perturb/32)%(ο.mask+1)<=ο.mask;exact U4 (Wc _ (WB ο.mask)),(show(Zv ο.mask p.i p.perturb).2<2^64 from yi _ _ _ v.pt),(show aaM ο.mask (Zv ο.mask p.i p.perturb).1-(Zv ο.mask p.i p.perturb).1<=9 from qv _ _),v.dm⟩
def Vp.adv{p:Probe}(v:Vp ο p):Vp ο (ο.advance p):=by
 by_cases h:0<p.more;·rw[yh ο p h];exact⟨v.i,v.pt,by show p.more-1<=9;have:=v.more;omega,v.dm⟩
 ·rw[ur ο p (by omega)];exact v.leap
def Vp.advN{t:SetTable}:∀(n:Nat){p:Probe},Vp t p->Vp t (advN t n p)|0,p,v=>v|n+1,p,v=>Vp.advN n v.adv
def uu(t:SetTable):∀(r:Nat)(p:Probe),Vp t p->∃n,n<=10*r/\(advN t n p).i=(lp t.mask r (p.i,p.perturb)).1/\(r≠0->(advN t n p).j=(advN t n p).i)
 |0,p,v=>⟨0,by omega,rfl,λh=>absurd rfl h⟩|r+1,p,v=>by
  obtain⟨n,e,d,c⟩:=uu t r (qw t p) v.leap;refine⟨p.more+1+n,by have:=v.more;omega,?_,λ_=>?_⟩;·rw[jH,sJ t p.more p rfl,d];rfl
  · rw[jH,sJ t p.more p rfl];by_cases a:r=0
    · subst a;have b:n=0:=by omega
      subst b;rfl
    ·exact c a
structure Tb(t:SetTable)(n:Nat):Prop where
 size:t.place.size=n
 dm:t.dummies=#[]cyc:wR t.mask=L
 room:n<=t.mask
def yj(j:Nat):has #[] j=D:=by unfold has;simp
def nu(T:Tb ο c)(j:Nat):ο.slot j=.empty\/∃i,ο.slot j=.live i/\ο.place[i]?=Z j:=by
 unfold SetTable.slot;dsimp only;split;·rename_i h;exact .inr ⟨_,rfl,by simpa using h⟩
 ·rw[T.dm,yj];exact .inl rfl
def yk:∀(m:Nat)(l:List Nat),l.length<=m->∃j,j<=m/\j∉l
 |0,l,h=>⟨0,r_ _,by have:l=[]:=TN.mp (by omega);simp[this]⟩|m+1,l,h=>by
  by_cases a:(m+1)∈l;·obtain⟨j,d,b⟩:=yk m (l.erase (m+1)) (by rw[List.length_erase_of_mem a];omega);refine⟨j,by omega,λc=>b ?_⟩;exact(List.mem_erase_of_ne (by omega)).mpr c
  ·exact⟨m+1,r_ _,a⟩
def BZ(T:Tb ο c):∃j,j<=ο.mask/\ο.slot j=.empty:=by
 obtain⟨j,b,a⟩:=yk ο.mask ο.place.toList (by simp[T.size,T.room]);refine⟨j,b,?_⟩;rcases nu T j with h|⟨i,h,e⟩;·exact h
 ·exact absurd (U9.mpr (Array.mem_of_getElem? e)) a
def O5(T:Tb ο c){p:Probe}(v:Vp ο p):∃N,N<10*ZQ ο.mask/\ο.slot (advN ο N p).j=.empty:=by obtain⟨j,a,b⟩:=BZ T;obtain⟨r,g,e⟩:=yg T.cyc (Go ο.mask 1 (p.i,p.perturb) v.i) (by show(leap ο.mask p.i p.perturb).2<2^64;exact yi _ _ _ v.pt) a (b:=(lp ο.mask 1 (p.i,p.perturb)).2);obtain⟨N,h,f,d⟩:=uu ο (1+r) p v;refine⟨N,by unfold ZQ;omega,?_⟩;rw[d (by omega),f,ye];rw[show lp ο.mask 1 (p.i,p.perturb)=((lp ο.mask 1 (p.i,p.perturb)).1,(lp ο.mask 1 (p.i,p.perturb)).2)from rfl,e];exact b
def first{P:Nat->Prop}[DecidablePred P]:∀(b:Nat),(∃n,n<b/\P n)->∃n,n<b/\P n/\∀k,k<n->¬P k
 |0,⟨n,h,_⟩=>absurd h (V8 _)|b+1,⟨n,h,a⟩=>by
  by_cases q:∃n,n<b/\P n
  ·obtain⟨n,g,f,e⟩:=first b q;exact⟨n,by omega,f,e⟩
  · have c:n=b:=by have:¬n<b:=λz=>q ⟨n,z,a⟩;omega
    subst c;exact⟨n,by omega,a,λk d z=>q ⟨k,d,z⟩⟩
def Lb(T:Tb ο c){p:Probe}(v:Vp ο p):∃N,N<10*ZQ ο.mask/\ο.slot (advN ο N p).j=.empty/\∀k,k<N->ο.slot (advN ο k p).j≠.empty:=first (P:=λc=>ο.slot (advN ο c p).j=.empty) _ (O5 T v)
def Ej{t:SetTable}{n:Nat}(T:Tb t n)(a:Nat->Int)(h:Int):∀(N b:Nat)(p:Probe),Vp t p->N<b->t.slot (advN t N p).j=.empty->(∀k,k<N->t.slot (advN t k p).j≠.empty)->X6 t a h b p=Z (.empty (advN t N p).j U)\/∃m i,m<N/\t.slot (advN t m p).j=.live i/\t.place[i]?=Z (advN t m p).j/\a i=h/\X6 t a h b p=Z (.candidate (advN t m p).j i (advN t (m+1) p))
 |N,0,p,v,d,_,_=>absurd d (V8 _)|0,b+1,p,v,d,e,_=>by refine .inl ?_;unfold X6;rw[show t.slot p.j=.empty from e];show Z (Met.empty p.j p.dummy)=_;rw[v.dm];rfl|N+1,b+1,p,v,d,e,g=>by
  rcases nu T p.j with z|⟨i,f,y⟩;·exact absurd z (g 0 (by omega))
  · by_cases c:a i=h;·refine .inr ⟨0,i,by omega,f,y,c,?_⟩;unfold X6;rw[f];dsimp only;rw[if_pos (by simpa using c)];rfl
    · have j:X6 t a h (b+1) p=X6 t a h b (t.advance p):=by
       conv=>lhs;unfold X6
       rw[f];dsimp only;rw[if_neg (by simpa using c)]
      rcases Ej T a h N b (t.advance p) v.adv (by omega) e (λk B=>g (k+1) (by omega))with q|⟨m,w,A,u,s,r,o⟩;·exact .inl (by rw[j,q];rfl)
      ·exact .inr ⟨m+1,w,by omega,u,s,r,by rw[j,o];rfl⟩
def yl(h:Int):Vp ο (ο.probeStart h):=⟨by show bits h%(ο.mask+1)<=ο.mask;exact U4 (Wc _ (WB ο.mask)),by show bits h<2^64;unfold bits;have b:=UR h (show(2^64:Int)≠0 by decide);have a:=Ug h (show(0:Int)<2^64 by decide);omega,qv _ _,rfl⟩
def qz{m:Nat}{a:Array (Option Nat)}:∀(b i c:Nat),i<=m->(∃r,r<b/\(a.getD (lp m r (i,c)).1 (Z 0)).isNone=L)->∃j,WV m a b i c=Z j/\(a.getD j (Z 0)).isNone=L
 |0,i,c,_,⟨r,h,_⟩=>absurd h (V8 _)|b+1,i,c,g,⟨r,h,e⟩=>by
  unfold WV;split;·rename_i k d;exact⟨i+k,rfl,by simpa using List.find?_some d⟩
  ·rename_i d;cases r with|zero=>have f:0∈rl (aaM m i+1-i):=SH.mpr (by unfold aaM;split<;>omega);have:=List.find?_eq_none.mp d 0 f;exact absurd (show(a.getD (i+0) (Z 0)).isNone=L from e) this|succ r=>exact qz b _ _ (by show(i*5+1+c/32)%(m+1)<=m;exact U4 (Wc _ (WB m))) ⟨r,by omega,e⟩
def Ek:∀(l:List (Option Nat))(j k:Nat),l[j]?=Z U->((l.set j (Z k)).filterMap id).Perm (k::l.filterMap id)
 |[],j,k,h=>by simp at h|x::l,0,k,h=>by
  have:x=U:=by simpa using h
  subst this;simp|x::l,j+1,k,h=>by have a:=Ek l j k (by simpa using h);cases x with|none=>simpa using a|some y=>show List.Perm (y::(l.set j (Z k)).filterMap id) (k::y::l.filterMap id);exact(a.cons y).trans (Zb ..)
def ym:∀(l:List (Option Nat)),(l.filterMap id).length<l.length->∃j,j<l.length/\l[j]?=Z U|[],h=>by simp at h|none::l,h=>⟨0,by simp,rfl⟩|some y::l,h=>by obtain⟨j,b,a⟩:=ym l (by simpa using h);exact⟨j+1,by simpa using b,by simpa using a⟩
def Gp(m:Nat)(b:Option (Array (Option Nat)×Nat))(h:Int):Option (Array (Option Nat)×Nat):=do let(a,k)<-b let j<-WV m a (ZQ m) (bits h%(m+1)) (bits h)pure (a.setIfInBounds j (Z k),k+1)
def Gq(h:Int):bits h<2^64:=by unfold bits;have b:=UR h (show(2^64:Int)≠0 by decide);have a:=Ug h (show(0:Int)<2^64 by decide);omega
def getD_none{a:Array (Option Nat)}(h:(a.getD c (Z 0)).isNone=L):c<a.size/\a.toList[c]?=Z U:=by rw[VO]at h;cases q:a[c]? with|none=>rw[q]at h;simp at h|some x=>
 rw[q]at h;have b:x=U:=by simpa using h
 subst b;refine⟨(Tk.mp q).1,by rw[WL];exact q⟩
def yn{m:Nat}(c:wR m=L):∀(b:List Int)(a:Array (Option Nat))(k:Nat),a.size=m+1->(a.toList.filterMap id).Perm (rl k)->k+b.length<=m->∃d,b.foldl (Gp m) (Z (a,k))=Z (d,k+b.length)/\d.size=m+1/\(d.toList.filterMap id).Perm (rl (k+b.length))
 |[],a,k,f,g,n=>⟨a,rfl,f,g⟩|h::b,a,k,f,g,n=>by
  have y:k+(b.length+1)<=m:=by simpa using n
  obtain⟨p,w,o⟩:=ym a.toList (by rw[g.length_eq,U7];simp only[Sx,f];omega);have i:p<=m:=by simp only[Sx,f]at w;omega
  obtain⟨r,A,v⟩:=yg c (i:=bits h%(m+1)) (b:=bits h) (U4 (Wc _ (WB m))) (Gq h) i;obtain⟨j,f1,I⟩:=qz (m:=m) (a:=a) (ZQ m) (bits h%(m+1)) (bits h) (U4 (Wc _ (WB m))) ⟨r,by unfold ZQ;omega,by rw[v,VO];rw[WL]at o;rw[o];rfl⟩;obtain⟨z,q⟩:=getD_none I;have e:Gp m (Z (a,k)) h=Z (a.setIfInBounds j (Z k),k+1):=by show(WV m a (ZQ m) (bits h%(m+1)) (bits h)).bind (λj=>Z (a.setIfInBounds j (Z k),k+1))=_;rw[f1];rfl
  rw[aau,e];obtain⟨d,u,t,s⟩:=yn c b (a.setIfInBounds j (Z k)) (k+1) (by rw[Array.size_setIfInBounds];exact f) (by rw[Array.toList_setIfInBounds];refine(Ek _ _ _ q).trans ((g.cons k).trans ?_);rw[W_];exact(VR k (rl k)).symm) (by omega);refine⟨d,?_,t,?_⟩;·rw[u];simp only[SD];congr 2;omega
  ·simp only[SD];rw[show k+(b.length+1)=k+1+b.length by omega];exact s
def sK(a:wR c=L)(d:Array Int)(i:d.size<=c):∃f,aaN c d=Z f/\f.size=c+1/\(f.toList.filterMap id).Perm (rl d.size):=by obtain⟨f,o,n,m⟩:=yn a d.toList (YK (c+1) U) 0 (by simp) (by simp[List.filterMap_replicate]) (by simpa using i);refine⟨f,?_,n,by simpa using m⟩;unfold aaN;rw[<-Array.foldl_toList];have e:(List.foldl (λg h=>do let(b,k)<-g let j<-WV c b (ZQ c) (bits h%(c+1)) (bits h)pure (b.setIfInBounds j (Z k),k+1)) (Z (YK (c+1) U,0)) d.toList:Option (Array (Option Nat)×Nat))=d.toList.foldl (Gp c) (Z (YK (c+1) U,0)):=rfl;rw[e,o];rfl
def uv:∀(l:List (Option Nat))(a:Nat),((rl l.length).filterMap λj=>(l.getD j U).map (λx=>(a+j,x))).map (·.2)=l.filterMap id
 |[],a=>rfl|x::l,a=>by
  rw[SD,WD,V2,XF];have b:=uv l (a+1);have e:(rl l.length).filterMap ((λj=>((x::l).getD j U).map (λx=>(a+j,x)))∘Nat.succ)=(rl l.length).filterMap λj=>(l.getD j U).map (λx=>(a+1+j,x)):=by congr 1;funext j;show((x::l).getD (j+1) U).map _=_;simp only[List.getD_cons_succ];rw[show a+(j+1)=a+1+j by omega]
  rw[e];cases x with|none=>simpa using b|some y=>simp only[List.getD_cons_zero,Ub,K_];rw[b];rfl
variable{ψ:Nat}
def Gr(b:wR c=L)(g:Array Int)(i:g.size<=c):∃a d,laid c m ψ t π g=Z (a,d)/\a.mask=c/\a.moves=ψ/\a.led=t/\a.plain=π/\Tb a g.size/\d.toList.Perm (rl g.size):=by
 obtain⟨h,o,n,k⟩:=sK b g i;have e:=uv h.toList 0;have f:((rl (c+1)).filterMap λj=>(h.getD j U).map (j,·))=((rl h.toList.length).filterMap λj=>(h.toList.getD j U).map (λx=>(0+j,x))):=by rw[Sx,n];congr 1;funext j;rw[U1,VO,VS,WL]
 refine⟨_,_,by unfold laid;rw[o];rfl,rfl,rfl,rfl,rfl,⟨?_,rfl,b,i⟩,?_⟩;·simp only[G_,E_];rw[f];have:=congrArg W1 e;rw[E_]at this;rw[this,k.length_eq,U7]
 ·rw[V1,f,e];exact k
def jI(a:Array z)(p:Nat)(x:z)(h:p<=a.size):(insertAt a p x).size=a.size+1:=by unfold insertAt;simp only[XT,Array.size_push,Array.size_extract];omega
def uw(b:Array Nat)(j:Nat):below b j<=b.size:=by
 unfold below;have:∀(a lo c:Nat),lo<=c->c<=b.size->ZR b j a lo c<=b.size:=by intro a;induction a with|zero=>intro lo c f e;unfold ZR;omega|succ a d=>
  intro lo c f e;unfold ZR;split
  · rename_i g;dsimp only;split;·exact d _ _ (by omega) e
    ·exact d _ _ (by omega) (by omega)
  ·omega
 exact this _ _ _ (Sb _) (r_ _)
def Lc(T:Tb ο c)(h:c+1<=ο.mask)(j:Nat):Tb (ο.put j).1 (c+1)/\(ο.put j).2<=c/\(ο.put j).1.mask=ο.mask/\(ο.put j).1.led=ο.led/\(ο.put j).1.moves=ο.moves:=by
 unfold SetTable.put;refine⟨⟨?_,?_,T.cyc,h⟩,?_,rfl,rfl,rfl⟩;·show(insertAt ο.place (below ο.place j) j).size=c+1;rw[jI _ _ _ (uw _ _),T.size]
 ·show(if has ο.dummies j then eraseAt ο.dummies (below ο.dummies j)else ο.dummies)=#[];rw[T.dm,yj];rfl
 ·show below ο.place j<=c;rw[<-T.size];exact uw _ _
abbrev TK(b:on)(w:z_)(h:M_)(k:List Str)(a:O):Prop:=IsTupleKey (strKind b w) h k a
abbrev Ĝ(a:on)(w:z_)(k:List Str):Int:=tupleKeyHash (strKind a w) k
def qA(h:ItemsAre (strKind q o) v E):∀a∈E,∃x t,a=.str x t:=by induction h with|nil=>intro a b;simp at b|@cons g e f E d _ c=>
 intro a b;rcases w_.mp b with rfl|b;·obtain⟨t,rfl⟩:=Zj d;exact⟨_,_,rfl⟩
 ·exact c a b
def yo{Q:Bool->g_->Prop}(j:TK q o d.heap v e)(h:Q D d):t_ (y_ q o) w (ofAClassStatement 8 (.ref e)) Q ν d:=by
 have hT:=j.typeIs;obtain⟨b,items,n,k,_,p,m⟩:=j;unfold ofAClassStatement;refine c_ (UU hT ?_);show t_ _ _ ((if("tuple"=="tuple")=L then pure L else isSubtype (.type "tuple") (.type "tuple"))>>=_) _ _ d;rw[if_pos (by decide)];refine c_ (j_ ?_);simp only[V5,A_,if_false];refine c_ (Tw k p ?_);refine c_ ?_;show t_ _ _ (ſ items _ _) _ _ d;rw[<-UL];refine WO _ (λrest r f=>r.1=U/\f=d/\∀a∈rest,∃x t,a=Ti x t) _ ?_ ?_ _ _ ⟨rfl,rfl,qA m⟩;·rintro a rest r f⟨g,rfl,c⟩;obtain⟨x,t,rfl⟩:=c a o_;refine c_ (j_ ?_);simp only[A_,if_false];exact j_ ⟨rfl,rfl,λu i=>c u (m_ _ i)⟩
 ·rintro⟨y,s⟩f⟨g,rfl,_⟩;simp only at g;subst g;exact j_ h
def Ld(m:TK q o d.heap v e){l:List R}(p:∀b∈l,∃g a,b=.ref a/\TK q o d.heap g a){Q:Bool->g_->Prop}(h:Q D d):t_ (y_ q o) w (searchCouldBeSeen (.ref e) l) Q ν d:=by
 unfold searchCouldBeSeen;refine c_ ?_;refine WO _ (λrest r i=>r.1=U/\i=d/\∀b∈rest,∃g a,b=B_ a/\TK q o d.heap g a) _ ?_ ?_ _ _ ⟨rfl,rfl,p⟩
 · rintro b rest r i⟨j,rfl,f⟩;obtain⟨g,a,rfl,n⟩:=f b o_;have c:∀b∈rest,∃g a,b=B_ a/\TK q o i.heap g a:=λu k=>f u (m_ _ k);dsimp only;split;·exact j_ ⟨rfl,rfl,c⟩
   ·refine c_ (YL m ?_);simp only[V5,A_,if_false];refine c_ (YL n ?_);simp only[V5,A_,if_false];refine c_ (yo m ?_);simp only[A_,if_false];refine c_ (yo n ?_);simp only[A_,if_false];exact j_ ⟨rfl,rfl,c⟩
 ·rintro⟨t,s⟩i⟨j,rfl,_⟩;simp only at j;subst j;exact j_ h
def Ũ(b:on)(w:z_)(h:M_)(c:List (List Str))(d:List (Int×R)):Prop:=∀e∈d,∃k a,k∈c/\e.2=.ref a/\TK b w h k a
def oK(T:Tb ο c):ο.fits c=L:=by unfold aaW aaX;rw[T.size,T.dm];simp[T.room]
def yp{g:Obj}{u:Array (Int×R)}{ks:List (List Str)}{Q:SetFound->g_->Prop}(hu:w.units<cLine)(ho:d.heap.get? e=Z g)(hd:g.data=.set u c ο)(T:Tb ο u.size)(hm:ο.mask%2=1)(hE:Ũ q o d.heap ks u.toList)(hx:TK q o d.heap v r)(hk:v∉ks):∀(N n:Nat)(st:Option Probe),(∀p,st=Z p->Vp ο p)->N<n->ο.slot (advN ο N (st.getD (ο.probeStart i))).j=.empty->(∀m,m<N->ο.slot (advN ο m (st.getD (ο.probeStart i))).j≠.empty)->N<10*ZQ ο.mask->(∀j,Q (.free j D) d)->t_ (y_ q o) w (XX e (.ref r) i t n st) Q ν d:=by intro N;induction N using Nat.strongRecOn with|_ N ih=>intro n st hv hf he hn hN hQ;cases n with|zero=>exact absurd hf (V8 _)|succ n=>
 have B:=oK T;have f:Vp ο (st.getD (ο.probeStart i)):=by cases st with|none=>exact yl i|some p=>exact hv p rfl
 unfold XX;refine c_ (SQ ho hd B ?_);dsimp only;have d':ο.gaveWay=D:=by unfold SetTable.gaveWay;rw[hm];rfl
 rw[d'];simp only[A_,if_false];unfold SetTable.probe;rcases Ej T _ i N _ (st.getD (ο.probeStart i)) f hN he hn with k|⟨m,b,l',q1,q2,q3,q5⟩;·rw[k];dsimp only;exact j_ (hQ _)
 · rw[q5];dsimp only;have hi:b<u.size:=by have:=(Tk.mp q2).1;rw[T.size]at this;exact this
   obtain⟨k',a,c',ea,ta⟩:=hE u[b] (U9.mpr (Array.getElem_mem hi));have hg:u[b]?=Z (u[b].1,.ref a):=by rw[Array.getElem?_eq_getElem hi,<-ea]
   have rest:t_ (y_ q o) w (do
    let Z (_,y):=u[b]?|YV "internal:set-entry"
    let s<-VJ [y] (eqBool y (.ref r))let(g',_,t')<-setState e if(t&&s)=L then return SetFound.there U
    let Z same:=t'.sameMemory ο.moves ο.mask|YV "set.changed-during-lookup:is-the-new-block-at-the-old-address"
    let E<-match(if same then t'.slot (advN ο m (st.getD (ο.probeStart i))).j else .empty)with
     |.live i'=>match g'[i']? with|some (_,y')=>do pure (if<-isSame y' y then Z i' else U)|none=>pure U
     |_=>pure U
    match E with|none=>rule "set.search.anew";XX e (.ref r) i t n U|some i'=>if s then return .there (Z i')else XX e (.ref r) i t n (Z (advN ο (m+1) (st.getD (ο.probeStart i))))) Q ν d:=by
    rw[hg];dsimp only;refine c_ (SL (wpAny_eqBool_tuple hu ta hx ?_));have b':uk (k'=v)=D:=decide_eq_false λz=>hk (z▸c');rw[b'];refine c_ (SQ ho hd B ?_);dsimp only;rw[Bool.and_false];simp only[A_,if_false];have a':ο.sameMemory ο.moves ο.mask=Z L:=by unfold SetTable.sameMemory;simp
    rw[a'];dsimp only;rw[if_pos rfl,q1];dsimp only;rw[hg];dsimp only;have H:isSame (B_ a) (B_ a)=pure L:=by unfold isSame;dsimp only;rw[if_pos (by simp)]
    rw[H];refine c_ (c_ (j_ (j_ ?_)));rw[if_pos rfl];refine ih (N-(m+1)) (by omega) n (Z (advN ο (m+1) (st.getD (ο.probeStart i)))) (λp hp=>by cases hp;exact Vp.advN (m+1) f) (by omega) ?_ ?_ (by omega) hQ;·show ο.slot (advN ο (N-(m+1)) (advN ο (m+1) (st.getD (ο.probeStart i)))).j=.empty;rw[<-jH,show m+1+(N-(m+1))=N by omega];exact he
    ·intro x h';show ο.slot (advN ο x (advN ο (m+1) (st.getD (ο.probeStart i)))).j≠.empty;rw[<-jH];exact hn _ (by omega)
   by_cases A:ο.led=L;·rw[A];simp only[V5,A_,if_false];exact rest
   · have P:ο.led=D:=by simpa using A
     rw[P];simp only[WG,if_true];refine c_ (Ld hx (λf hv=>?_) ?_)
     · obtain⟨h,f',rfl⟩:=R7.mp hv;have e':h∈u.toList:=by have:=U9.mp f';rw[Array.mem_filter]at this;exact U9.mpr this.1
       obtain⟨k2,a2,_,e2,t2⟩:=hE h e';exact⟨k2,a2,e2,t2⟩
     ·simp only[A_,if_false];exact rest
abbrev ú(w:z_):Bool:=w.params.followText "set-order"
def Mk(m n:Nat):Prop:=(m=7/\n<=4)\/(m=31/\n<=18)\/(m=127/\n<=20)
def Đ(a:on)(w:z_)(h:M_)(S:O)(c:List (List Str))(d:List R)(n:Nat):Prop:=∃o b e t,h.get? S=Z o/\o.ExactSet/\o.data=.set b e t/\b.size=n/\Tb t n/\Mk t.mask n/\Ũ a w h c b.toList/\(b.toList.map (·.2)).Perm d/\t.led=(!ú w)/\((∀k∈c,k≠[])->n≠0->t.plain=D)
def sL{Q:Bool->g_->Prop}(m:TK q o d.heap v e)(h:∀b,(v≠[]->b=D)->Q b d):t_ (y_ q o) w (hashByValue 8 (.ref e)) Q ν d:=by
 have hT:=m.typeIs;obtain⟨f,items,n,p,_,s,k⟩:=m;have y:items.toList=[]->v=[]:=λc=>by rw[c]at k;cases k;rfl
 unfold hashByValue;refine c_ (wpAny_specialOf hT F.slot_tuple_hash.lookup ?_);dsimp only;refine c_ (Tw p s ?_);refine c_ ?_;show t_ _ _ (ſ items _ _) _ _ d;rw[<-UL];refine WO _ (λrest r i=>r.1=U/\i=d/\(∀a∈rest,∃x t,a=Ti x t)/\(rest=[]->v=[])) _ ?_ ?_ _ _ ⟨rfl,rfl,qA k,y⟩;·rintro a rest r i⟨j,rfl,g,_⟩;obtain⟨x,t,rfl⟩:=g a o_;refine c_ (j_ ?_);simp only[WG,if_true];refine j_ ?_;exact j_ (h _ λ_=>rfl)
 ·rintro⟨B,A⟩i⟨j,rfl,_,u⟩;simp only at j;subst j;exact j_ (h _ λz=>absurd (u rfl) z)
def TK.keeps{g:M_}{a:Obj}{p s t}(x:TK q o P v e)(i:P.get? r=Z a)(k:a.data=.set p s t)(h:Uu r P g):TK q o g v e:=by
 obtain⟨f,items,n,c,m,b,j⟩:=x;have d:e≠r:=by rintro rfl;obtain rfl:f=a:=Sd (c.symm.trans i);rw[k]at b;exact nomatch b
 exact⟨f,items,n,(h.2 e d).trans c,m,b,j⟩
def Ũ.keeps{f:M_}{d:List (List Str)}{l:List (Int×R)}{b:Obj}{r s t}(x:Ũ q o P d l)(h:P.get? e=Z b)(j:b.data=.set r s t)(g:Uu e P f):Ũ q o f d l:=λc i=>by obtain⟨k,a,p,n,m⟩:=x c i;exact⟨k,a,p,n,m.keeps h j g⟩
def qB{o:Obj}{g a:Array (Int×R)}{b:SetTable}(f:P.get? e=Z o)(d:o.data=.set g c ο):(P.update e (Va a b)).get? e=Z {o with data:=.set a (c+1) b}:=by have:=Tv (Va a b) f (by rw[X2 a b d];rfl);rw[X2 a b d]at this;exact this
def Ũ.insert{h:List (List Str)}{g:Array (Int×R)}(n:Ũ q o P h g.toList)(m:TK q o P v e):Ũ q o P (v::h) (Sa g c (i,.ref e)).toList:=λd k=>by
 have f:=(Yt g c (i,B_ e)).mem_iff.mp k;rw[WH]at f;rcases Sr.mp f with b|b;·obtain⟨j,a,s,r,p⟩:=n d b;exact⟨j,a,m_ _ s,r,p⟩
 ·rw[Sf]at b;subst b;exact⟨v,e,o_,rfl,m⟩
def yq(T:Tb ο c):ο.fill=c:=by unfold aaX;rw[T.size,T.dm];simp
def nv(h:c<=20):c<=sizeLine:=by rw[WX];omega
def B0(a:Array z):(rl a.size).filterMap (λi=>a[i]?)=a.toList:=by
 apply Z5;intro i;have:(rl a.size).filterMap (λi=>a[i]?)=(rl a.size).pmap (λi h=>a[i]) (λi h=>SH.mp h):=by
  rw[List.pmap_eq_map_attach,<-List.filterMap_eq_map];conv=>lhs;rw[<-List.attach_map_subtype_val (rl a.size)]
  rw[XF];congr 1;funext⟨i,b⟩;simp[SH.mp b]
 rw[this];simp[List.getElem?_pmap,Us];by_cases b:i<a.size;·simp[b]
 ·simp[b]
def Gs{b:Array Int}{a:Array Nat}(e:laid c m ψ t π b=Z (ο,a)):ο.led=t/\ο.plain=π:=by unfold laid at e;cases d:aaN c b with|none=>rw[d]at e;cases e|some o=>rw[d]at e;cases e;exact⟨rfl,rfl⟩
def Le{ks:List (List Str)}{Q:Bool->g_->Prop}(hu:w.units<cLine)(hS:Đ q o d.heap e ks E c)(hx:TK q o d.heap v r)(hk:v∉ks)(hn:c+1<=20)(h:∀h',Uu e d.heap h'->Đ q o h' e (v::ks) (.ref r::E) (c+1)->Q L {d with heap:=h'}):t_ (y_ q o) w (Yo e (.ref r) (Ĝ q o v)) Q ν d:=by
 obtain⟨f,n,ep,t,ho,hex,hd,u,T,hm,hE,m',b',q'⟩:=hS;have k':=oK T;have A:t.fits n.size=L:=by rw[u];exact k'
 have i':t.mask%2=1:=by rcases hm with⟨a,_⟩|⟨a,_⟩|⟨a,_⟩<;>rw[a]
 have f':c+1<=t.mask:=by rcases hm with⟨a,b⟩|⟨a,b⟩|⟨a,b⟩<;>omega
 unfold Yo YW;refine SL (c_ (SQ ho hd A ?_));dsimp only;have o':byScan (B_ r) n=D:=by unfold byScan;rfl
 rw[o'];simp only[A_,if_false];unfold setSearch;obtain⟨N,h1,h2,h3⟩:=Lb T (yl (ο:=t) (Ĝ q o v));have r':t.mask<=127:=by rcases hm with⟨a,_⟩|⟨a,_⟩|⟨a,_⟩<;>omega
 refine c_ (yp (ks:=ks) hu ho hd (by rw[u];exact T) i' hE hx hk N 100000 U (λp hp=>by cases hp) (by unfold ZQ at h1;omega) h2 h3 h1 λj=>?_);dsimp only;refine c_ (SQ ho hd A ?_);dsimp only;obtain⟨P1,P2,P3,P4,P5⟩:=Lc T f' j;have a':((Sa n (t.put j).2 (Ĝ q o v,B_ r)).toList.map (·.2)).Perm (.ref r::E):=by refine((Yt n (t.put j).2 (Ĝ q o v,B_ r)).map (·.2)).trans ?_;rw[WH,UQ];exact(m'.append_right _).trans (VR _ _)
 have go:∀H:Bool,((∀x∈v::ks,x≠[])->(if H then(t.put j).1 else{(t.put j).1 with plain:=D}).plain=D)->t_ (y_ q o) w (do
  aaA e (Sa n (t.put j).2 (Ĝ q o v,.ref r)) (if H then(t.put j).1 else{(t.put j).1 with plain:=D})if(!D&&(if H then(t.put j).1 else{(t.put j).1 with plain:=D}).tooFull)=L then setRelay e (TY (n.size+1))
  return L) Q ν d:=by
  intro H e';have T2:∃g,(if H then(t.put j).1 else{(t.put j).1 with plain:=D})=g/\Tb g (c+1)/\g.mask=t.mask/\g.led=t.led:=by cases H with|true=>exact⟨_,rfl,P1,P3,rfl⟩|false=>exact⟨_,rfl,⟨P1.size,P1.dm,P1.cyc,P1.room⟩,P3,rfl⟩
  obtain⟨g,e2,T2,M2,L2⟩:=T2;rw[e2]at e'⊢;have k:(Sa n (t.put j).2 (Ĝ q o v,B_ r)).size=c+1:=by rw[jI _ _ _ (by rw[u];exact P2),u]
  refine c_ (Wo ho hd ?_ (by rw[k];exact nv hn));have c':=Ur d.heap e (Va (Sa n (t.put j).2 (Ĝ q o v,B_ r)) g);have hg:=qB (a:=Sa n (t.put j).2 (Ĝ q o v,B_ r)) (b:=g) ho hd;have g':Ũ q o (d.heap.update e (Va (Sa n (t.put j).2 (Ĝ q o v,B_ r)) g)) (v::ks) (Sa n (t.put j).2 (Ĝ q o v,B_ r)).toList:=(hE.insert hx).keeps ho hd c';by_cases hf:g.tooFull=L
  · rw[hf];simp only[WG,Bool.and_self,if_true];have B:g.fill*5>=g.mask*3:=by unfold aab at hf;simpa using hf
    rw[yq T2,M2]at B;have h5:c=4\/c=18:=by rcases hm with⟨a,b⟩|⟨a,b⟩|⟨a,b⟩<;>rw[a]at B<;>omega
    obtain⟨M,hM,cM,lM,kM⟩:∃M,sizeAbove (TY (c+1))-1=M/\wR M=L/\c+1<=M/\Mk M (c+1):=by
     rcases h5 with rfl|rfl;·exact⟨31,by decide,O4,by decide,.inr (.inl ⟨rfl,by decide⟩)⟩
     ·exact⟨127,by decide,K8,by decide,.inr (.inr ⟨rfl,by decide⟩)⟩
    unfold setRelay;refine c_ (c_ (SQ hg rfl (by rw[k];exact oK T2) ?_));dsimp only;rw[u];rw[if_neg (by rw[WX];rcases h5 with a|a<;>rw[a]<;>decide)];have l':g.relaid ((Sa n (t.put j).2 (Ĝ q o v,B_ r)).map (·.1)) (TY (c+1))=laid M g.finger (g.movedTo M) g.led g.plain ((Sa n (t.put j).2 (Ĝ q o v,B_ r)).map (·.1)):=by unfold SetTable.relaid;rw[hM]
    obtain⟨t3,m,r1,r2,r3,r4,r5,r6,r7⟩:=Gr (m:=g.finger) (ψ:=g.movedTo M) (t:=g.led) (π:=g.plain) cM ((Sa n (t.put j).2 (Ĝ q o v,B_ r)).map (·.1)) (by rw[Vs,k];omega);have r8:t3.led=g.led/\t3.plain=g.plain:=Gs r1;rw[l',r1];rw[Vs,k]at r6 r7;have s:(m.filterMap (λi=>(Sa n (t.put j).2 (Ĝ q o v,B_ r))[i]?)).toList.Perm (Sa n (t.put j).2 (Ĝ q o v,B_ r)).toList:=by rw[Array.toList_filterMap];refine(r7.filterMap _).trans ?_;rw[<-k,B0]
    have y:(m.filterMap (λi=>(Sa n (t.put j).2 (Ĝ q o v,B_ r))[i]?)).size=c+1:=by rw[<-Sx,s.length_eq,Sx,k]
    show t_ (y_ q o) w ((if((m.filterMap (λi=>(Sa n (t.put j).2 (Ĝ q o v,B_ r))[i]?)).size !=(Sa n (t.put j).2 (Ĝ q o v,B_ r)).size)=L then(YV "internal:set-table-lost-an-element":Sem _)else pure (m.filterMap (λi=>(Sa n (t.put j).2 (Ĝ q o v,B_ r))[i]?),t3))>>=λx=>aaA e x.1 x.2) _ _ _;rw[if_neg (by rw[y,k];simp)];refine c_ (j_ ?_);refine Wo hg rfl ?_ (by rw[y];exact nv hn);have P:=Ur (d.heap.update e (Va (Sa n (t.put j).2 (Ĝ q o v,B_ r)) g)) e (Va (m.filterMap (λi=>(Sa n (t.put j).2 (Ĝ q o v,B_ r))[i]?)) t3);refine j_ (h _ (c'.trans P) ⟨_,_,_,t3,qB hg rfl,hex,rfl,y,r6,by rw[r2];exact kM,?_,(s.map (·.2)).trans a',r8.1.trans (L2.trans b'),λz _=>r8.2.trans (e' z)⟩);have p':=g'.keeps hg rfl P;exactλa he=>p' a (s.mem_iff.mp he)
  · have d':g.tooFull=D:=by simpa using hf
    rw[d'];simp only[WG,Bool.and_false,A_,if_false];have B:¬(g.fill*5>=g.mask*3):=by unfold aab at d';simpa using d'
    rw[yq T2,M2]at B;refine j_ (h _ c' ⟨_,_,_,g,hg,hex,rfl,k,T2,?_,g',a',L2.trans b',λz _=>e' z⟩);rw[M2];rcases hm with⟨a,b⟩|⟨a,b⟩|⟨a,b⟩;·exact .inl ⟨a,by omega⟩
    ·exact .inr (.inl ⟨a,by omega⟩)
    ·exact .inr (.inr ⟨a,hn⟩)
 cases n':(t.put j).1.plain with|true=>simp only[if_true];refine c_ (sL hx λH hb=>?_);refine go H λz=>?_;rw[hb (z v o_)];rfl|false=>simp only[A_,if_false];refine c_ (j_ ?_);exact go L λ_=>n'
def TK.moved{d:M_}(x:TK q o P v e)(g:∀a,P.get? e=Z a->d.get? e=Z a):TK q o d v e:=by obtain⟨f,items,n,b,i,c,h⟩:=x;exact⟨f,items,n,g _ b,i,c,h⟩
def Đ.moved{g:M_}{f:List (List Str)}(x:Đ q o P e f E c)(u:∀b,P.get? e=Z b->g.get? e=Z b)(p:∀k∈f,∀a,TK q o P k a->TK q o g k a):Đ q o g e f E c:=by obtain⟨b,z,A,t,n,hex,s,h,T,i,v,m⟩:=x;exact⟨b,z,A,t,u _ n,hex,s,h,T,i,λd r=>let⟨k,a,j,y,w⟩:=v d r;⟨k,a,j,y,p k j a w⟩,m⟩
def O6{g:XY->g_->Prop}{B:List O}{G:Array Y5->Array Y5->Prop}{P:Nat->R->Prop}{St:Nat->g_->Prop}(W:WalksS q o w.in1 e Ε B G c P St)(S:O)(e':S∉Ε)(hu:w.in1.units<cLine)(q':B=[e])(hI:∀i s,St i s->∃d vs,s.heap.get? e=Z d/\d.data=.fields vs)(n:Nat->O)(m:Nat->List Str)(g':∀i v,P i v->v=.ref (n i))(hn:c<=20)(a':∀i j,i<c->j<c->m i=m j->i=j):∀(k i:Nat)(s:g_),c-i=k->i<=c->St i s->(∀j,j<c->TK q o s.heap (m j) (n j))->Đ q o s.heap S (((rl i).map m).reverse) (((rl i).map λj=>B_ (n j)).reverse) i->(∀t,Moved (S::B) G s t->Đ q o t.heap S (((rl c).map m).reverse) (((rl c).map λj=>B_ (n j)).reverse) c->g (.ok (.ret .none)) t)->Vf (y_ q o) w (.builtin "set.update.loop" ⟨[.ref S,.ref e],[]⟩) g s:=by
 have d':S∉B:=λh=>e' (W.sub _ h);have A:∀b∈B,b∈S::B:=λb hb=>m_ _ hb;have z:∀{i:Nat}{s:g_}{k:List Str}{a:O},St i s->TK q o s.heap k a->a∉B:=λ{i s k a}p x r=>by rw[q',Sf]at r;subst r;obtain⟨o',items,c,b',hc,c',hi⟩:=x;obtain⟨d,vs,u,hd⟩:=hI _ _ p;rw[u]at b';cases b';rw[hd]at c';cases c'
 intro k;induction k with|zero=>
 intro i s hk hi p hT hS hR;have t':i=c:=by omega
 subst t';refine Td Vq ?_;rw[TJ TM _];show t_ _ w.in1 (VH (.ref e)>>=_) _ _ s;refine c_ (W.done s _ _ p λt r=>?_);show t_ _ w.in1 (ret F_) _ _ t;exact j_ (hR t (r.mono A) (hS.moved (λd u=>r.heap S _ d' u) λk' _ a x=>x.moved λd u=>r.heap a _ (z p x) u))|succ k ih=>
 intro i s hk hi p hT hS hR;have y:i<c:=by omega
 refine Td Vq ?_;rw[TJ TM _];show t_ _ w.in1 (VH (.ref e)>>=_) _ _ s;refine c_ (W.item i s _ _ y p λv t hP i' r=>?_);have hv:=g' i v hP;subst hv;have H:∀j,j<c->TK q o t.heap (m j) (n j):=λj hj=>(hT j hj).moved λd u=>r.heap _ _ (z p (hT j hj)) u;have f':Đ q o t.heap S (((rl i).map m).reverse) (((rl i).map λj=>B_ (n j)).reverse) i:=hS.moved (λd u=>r.heap S _ d' u) λk' _ a x=>x.moved λd u=>r.heap a _ (z p x) u;show t_ _ w.in1 (VJ [B_ (n i)] (setAdd S (.ref (n i)))>>=_) _ _ t;refine c_ (SL ?_);unfold setAdd;refine SL ?_;refine c_ (wpAny_pyHash_tuple hu (H i y) ?_);have l':m i∉((rl i).map m).reverse:=λr=>by rw[List.mem_reverse]at r;obtain⟨j,hj,f⟩:=R7.mp r;have x':=SH.mp hj;have:=a' j i (by omega) y f;omega
 refine Le (d:={t with toks:=t.toks+((m i).length+1)}) hu f' (H i y) l' (by omega) λh' E w'=>?_;obtain⟨oS,y',z',tS,r',_,u',_⟩:=f';have v':Đ q o h' S (((rl (i+1)).map m).reverse) (((rl (i+1)).map λj=>B_ (n j)).reverse) (i+1):=by rw[W_,UQ,Zn,UQ,Zn];exact w'
 refine j_ ⟨WU TM _,ih (i+1) _ (by omega) y (W.frame _ t _ _ i' (by simp) λb hb d f=>?_) (λj hj=>(H j hj).keeps r' u' E) v' λp' m' n'=>?_⟩;·rw[E.2 b (λh:b=S=>e' (by rw[<-h];exact hb))];exact f
 ·refine hR p' (Moved.trans W.gtrans ((r.mono A).then_heap (by simp) λb d hb f=>?_) m') n';rw[E.2 b (λh:b=S=>hb (by rw[h];exact o_))];exact f
abbrev ic(a:Bool):Obj:={cls:=.type "set",dict:=U,data:=.set #[] 0 (.fresh 0 0 a)}
def Gu(a:P.get? e=Z (ic (!ú o))):Đ q o P e [] [] 0:=⟨_,#[],0,_,a,⟨rfl,rfl,rfl⟩,rfl,rfl,⟨rfl,rfl,Rt,Sb _⟩,.inl ⟨rfl,by omega⟩,(λa b=>by simp at b),.refl _,rfl,λ_ z=>absurd rfl z⟩
def sM(a:R){c:R->g_->Prop}(h:c (.ref d.heap.objs.size) {d with heap:=d.heap.push (ic (!ú o))}):Vf (y_ q o) w (.call (.builtin "set.__new__") ⟨[.type "set",a],[]⟩) (wants c ν) d:=by refine W6 ?_;show t_ _ w.in1 (do checkBuiltinCall "set.__new__" ⟨[.type "set",a],[]⟩;N' (.builtin "set.__new__" ⟨[.type "set",a],[]⟩)) _ _ d;refine c_ (UV (F.newCall_set_1 a) (j_ ⟨WU F.plain_set_new _,Td F.entry_set_new ?_⟩));rw[TJ F.plain_set_new _];unfold Tq.«set.__new__»aaQ;have e:=sub_set_self;obtain⟨i,g,b,f,os⟩:=d;dsimp only;wp_walk;refine Vi (j_ ?_);dsimp only;simp only[newObj];exact c_ (wpAny_alloc (j_ (j_ h)))
def Lf{h:Nat->List Str}{m:Nat->O}{g:XY->g_->Prop}(hh:w.handled=U)(hu:w.units+8<cLine)(hl:d.heap.IsList e υ)(hk:∀i,i<υ.size->υ[i]?=Z (.ref (m i))/\TK q o d.heap (h i) (m i))(hn:υ.size<=20)(r:∀i j,i<υ.size->j<υ.size->h i=h j->i=j)(hR:∀(s:M_)(tk:Nat),Đ q o s d.heap.objs.size (((rl υ.size).map h).reverse) (((rl υ.size).map λj=>B_ (m j)).reverse) υ.size->(∀b c,b<d.heap.objs.size->d.heap.get? b=Z c->s.get? b=Z c)->g (.ok (.ret .none)) {d with heap:=s,toks:=tk}):Vf (y_ q o) w (.call (.builtin "set.__init__") ⟨[.ref d.heap.objs.size,.ref e],[]⟩) g {d with heap:=d.heap.push (ic (!ú o))}:=by
 have hS:(d.heap.push (ic (!ú o))).get? d.heap.objs.size=Z (ic (!ú o)):=n_ _ rfl;have hT:U_ {d with heap:=d.heap.push (ic (!ú o))} (.ref d.heap.objs.size) "set":=⟨_,hS,rfl⟩;refine WY Sm.init.plain Yc (X5 hT ?_);obtain⟨ol,t,A,nl,z⟩:=hl;obtain⟨m',p,l',n⟩:=ol;simp only at A z;subst A;subst z;have B:(d.heap.push (ic (!ú o))).get? e=Z {cls:=.type "list",dict:=p,data:=.seq υ nl,slots:=n}:=i_ _ t;have s1:=F.sub_list_set;have s2:=Y6;have s3:(p_ "list"==p_ "dict")=D:=by decide
 have y:(d.heap.push (ic (!ú o))).IsList e υ:=⟨_,B,rfl,nl,rfl⟩;unfold Tq.«set.__init__»noKeywords VC;generalize k':Zz=PI;wp_walk;subst k';refine VI y (c_ (Wp ?_));have u:e<d.heap.objs.size:=v_ t;have E:e≠(d.heap.push (ic (!ú o))).objs.size:=by rw[L_];exact D_ (SA u)
 have f':d.heap.objs.size∉[(d.heap.push (ic (!ú o))).objs.size,e]:=by rw[L_];simp only[w_,R6,or_false,not_or];exact⟨D_ (Tf _),Uy u⟩
 have up:∀{k:List Str}{a:O},TK q o d.heap k a->TK q o ((d.heap.push (ic (!ú o))).push {cls:=.type "list_iterator",data:=.fields #[.ref e,.int 0 0]}) k a:=λx=>x.moved λc f=>i_ _ (i_ _ f);refine O6 ((ZA (by simp[hh]) _ e E υ).toS) d.heap.objs.size f' (by show w.units+1+1<cLine;omega) rfl (λi s' st=>by obtain⟨⟨c,ho,_,hd⟩,_⟩:=st;exact⟨c,_,ho,hd⟩) m h (λi v P=>?_) hn r (υ.size-0) 0 _ (by omega) (Sb _) ⟨⟨_,n_ _ rfl,rfl,rfl⟩,(y.push _)⟩ (λj hj=>up (hk j hj).2) ?_ ?_;·have hi:i<υ.size:=(Tk.mp P).1;have:=(hk i hi).1;rw[this]at P;exact(Sd P).symm
 ·exact Gu (i_ _ hS)
 · intro s' H i';obtain⟨s,g',d',a',b'⟩:=s';have eg:g'=d.gens:=H.gens;have ed:d'=d.drawn:=H.drawn;have eo:b'=d.os:=H.os;subst eg;subst ed;subst eo;show t_ _ _ _ _ _ _;refine j_ ?_;show t_ _ _ (ret F_) _ _ _;refine j_ (hR s a' i' λb c hb f=>?_);have e':b≠d.heap.objs.size:=D_ hb;have c':b≠(d.heap.push (ic (!ú o))).objs.size:=by rw[L_];exact D_ (SA hb)
   exact H.heap b c (by simp only[w_,R6,or_false,not_or];exact⟨e',c'⟩) (i_ _ (i_ _ f))
def call_set_T{k:Nat->List Str}{n:Nat->O}(hh:w.handled=U)(hu:w.units+16<cLine)(hl:d.heap.IsList e υ)(hk:∀i,i<υ.size->υ[i]?=Z (.ref (n i))/\TK q o d.heap (k i) (n i))(hn:υ.size<=20)(t:∀i j,i<υ.size->j<υ.size->k i=k j->i=j)(h:∀(m:M_)(v:Nat),Đ q o m d.heap.objs.size (((rl υ.size).map k).reverse) (((rl υ.size).map λj=>B_ (n j)).reverse) υ.size->(∀b a,b<d.heap.objs.size->d.heap.get? b=Z a->m.get? b=Z a)->Â (.ref d.heap.objs.size) {d with heap:=m,toks:=v}):t_ (y_ q o) w (call (.type "set") [.ref e]) Â ν d:=by
 obtain⟨c,tl,a'⟩:=Sm.mro;have H:=Sm.made;have P:=Sm.sub;refine WP (W6 ?_);show t_ _ _ (callAny (.type "set") _) _ _ _;refine j_ ⟨Wb _ (by decide+kernel),Td XM ?_⟩;rw[XB (WJ "set" [.ref e] []) rfl];have h1:=Sm.notType;have h2:=Sm.canCreate;have c':=X8 (.ref e);repeat(any_goals(first|assumption|wp_step))
 refine TX (sM (.ref e) (ν:=ν) (c:=λy s=>y=.ref d.heap.objs.size/\s={d with heap:=d.heap.push (ic (!ú o))}) ⟨rfl,rfl⟩) λr s A=>?_;cases r with|error f=>exact A|ok fl=>cases fl with
 |ret y=>
  obtain⟨rfl,rfl⟩:=A;have hT:U_ {d with heap:=d.heap.push (ic (!ú o))} (.ref d.heap.objs.size) "set":=⟨_,n_ _ rfl,rfl⟩;have b':=Sm.init.lookup;have d':=Sm.init.bind (.ref d.heap.objs.size);repeat(any_goals(first|assumption|wp_step))
  refine TX (Lf (g:=wants (λr p=>r=.none/\∃m v,p={d with heap:=m,toks:=v}/\Đ q o m d.heap.objs.size (((rl υ.size).map k).reverse) (((rl υ.size).map λj=>B_ (n j)).reverse) υ.size/\(∀b a,b<d.heap.objs.size->d.heap.get? b=Z a->m.get? b=Z a)) ν) (by simp[hh]) (by show w.units+1+8<cLine;omega) hl hk hn t λm v q1 q2=>⟨rfl,m,v,rfl,q1,q2⟩) λz p g=>?_;cases z with|error f=>exact g|ok u=>cases u with
  |ret r=>
  obtain⟨rfl,m,v,rfl,E,B⟩:=g;repeat(any_goals(first|assumption|wp_step))
  exact h _ _ E B|_=>exact g.elim
 |_=>exact A.elim
def len_T{g:List (List Str)}(k:Đ q o d.heap e g E c)(p:c<=20)(h:∀t f,Â (.int c t) {d with toks:=f}):t_ (y_ q o) w (call (.builtin "len") [.ref e]) Â ν d:=by obtain⟨a,m,u,t,i,hex,j,b,T,r,s,n⟩:=k;subst b;exact call_len_set i hex j (oK T) (Int.lt_of_le_of_lt (show((m.size:Nat):Int)<=20 by omega) (by decide)) (h _ _)
end ST
variable{ο:SetTable}{ψ:Nat}
namespace FD
open L2
def cD:List N->Option (List Str)|[]=>Z []|.str x::r=>(cD r).map (x::·)|_=>U
def keysOf:List N->Option (List (List Str))
 |[]=>Z []|.tup b::r=>match cD b,keysOf r with|some k,Z a=>Z (k::a)|_,_=>U
 |_=>U
def lL:Ñ
 |[.lst b]=>match keysOf b with|some a=>if a.Nodup/\a.length<=20 then Z (.ok (.int a.length))else U|none=>U
 |_=>U
def ny{X:C}{H:Hp}{d:on}{w:z_}:∀{c:List N}{k:List Str}{b:List V}{a:List R},cD c=Z k->S X.K H c b->Î b a->aaO (SM d w) k a
 |[],k,b,a,h,r,v=>by cases h;cases(show b=[]from r);cases v;exact .nil|.str x::c,k,b,a,h,r,v=>by obtain⟨y,e,rfl,j,i⟩:∃v e,b=v::e/\Ô X.K H (.str x) v/\S X.K H c e:=r;cases(show y=.str x from j);obtain⟨n,m,rfl⟩:=Ux.mp (show(cD c).map (x::·)=Z k from h);cases v with|cons g f=>obtain⟨t,rfl⟩:=g;exact .cons (by show VF x (.str x t)=L;simp[VF]) (ny m i f)
 |.non::c,k,b,a,h,r,v=>by cases h|.bl _::c,k,b,a,h,r,v=>by cases h|.int _::c,k,b,a,h,r,v=>by cases h|.tup _::c,k,b,a,h,r,v=>by cases h|.lst _::c,k,b,a,h,r,v=>by cases h|.scr _::c,k,b,a,h,r,v=>by cases h|.exn _::c,k,b,a,h,r,v=>by cases h|.obj _ _::c,k,b,a,h,r,v=>by cases h
def O7(I:Ë a H Μ g d){j:List N}{k:List Str}{v:V}{u:R}(h:cD j=Z k)(r:Ô a.K g (.tup j) v)(q:Ú v u):∃b,u=.ref b/\ST.TK a.prog a.w d.heap k b:=by obtain⟨b,t,rfl,s,p⟩:=r.tupE;cases(show u=B_ b from q);obtain⟨i,m,⟨o,e,c,n,f⟩,w⟩:=I.tuple (ö.of s);exact⟨b,rfl,o,i.toArray,_,e,c,f,by simpa using ny h p m⟩
def yr{X:C}{A:List (O×Obj)}{j:L2.St}{H:Hp}{s:g_}(I:Ë X A j H s):∀{e:List N}{d:List (List Str)}{c:List V}{b:List R},keysOf e=Z d->S X.K H e c->Î c b->d.length=b.length/\∀i,i<b.length->∃a,b[i]?=Z (.ref a)/\ST.TK X.prog X.w s.heap (d.getD i []) a
 |[],d,c,b,h,r,v=>by cases h;cases(show c=[]from r);cases v;exact⟨rfl,λi g=>absurd g (V8 _)⟩|.tup B::e,d,c,b,h,r,v=>by
  obtain⟨y,f,rfl,q,p⟩:∃v f,c=v::f/\Ô X.K H (.tup B) v/\S X.K H e f:=r;unfold keysOf at h;split at h;·rename_i k b' z w;cases h;cases v with|cons n m=>obtain⟨a,rfl,o⟩:=O7 I z q n;obtain⟨u,t⟩:=yr I w p m;refine⟨by simp[u],λi g=>?_⟩;cases i with|zero=>exact⟨a,rfl,o⟩|succ i=>obtain⟨a',P,E⟩:=t i (by simpa using g);exact⟨a',by simpa using P,by simpa using E⟩
  ·cases h|.non::e,d,c,b,h,r,v=>by cases h|.bl _::e,d,c,b,h,r,v=>by cases h|.int _::e,d,c,b,h,r,v=>by cases h|.str _::e,d,c,b,h,r,v=>by cases h|.lst _::e,d,c,b,h,r,v=>by cases h|.scr _::e,d,c,b,h,r,v=>by cases h|.exn _::e,d,c,b,h,r,v=>by cases h|.obj _ _::e,d,c,b,h,r,v=>by cases h
def wa{a:List z}(h:a.Nodup){i j:Nat}(c:i<a.length)(b:j<a.length)(e:a.getD i É=a.getD j É):i=j:=by rw[VS,VS,s_ c,s_ b]at e;exact(aai h).mp (by simpa using e)
def yt{d:Pos}(hu:a.A.units+64<cLine)(hc:a.calm=L)(hg:Gl a "len")(hm:a.mg "len"=U)(g':Gl a "set")(c':a.mg "set"=U)(ha:FA a [f] μ)(he:l_ [.Call (.Name "set" B) [f] [] d] a.env=(D,eval (.Call (.Name "set" B) [f] [] d) a.env)::l_ [] a.env:=by lk)(b':(R8 Υ (l_ [] a.env)).any (·.1)=D:=by lk)(i':l_ [f] a.env=(D,eval f a.env)::l_ [] a.env:=by lk)(y:(R8 d (l_ [] a.env)).any (·.1)=D:=by lk):FE a (.Call (.Name "len" p) [.Call (.Name "set" B) [f] [] d] [] Υ) (â lL μ):=⟨λf' s σ H Q I⟨ρ,E,o⟩=>by
 refine S_ (gg I hg hm aaG ?_ (by decide) (by decide));refine Vn ?_ he b';rw[he];show t_ _ _ (spliced ((D,eval (.Call (.Name "set" B) [f] [] d) a.env)::R8 Υ (l_ [] a.env))) _ _ s;refine Xx ?_;refine S_ (gg I g' c' (Ζ:=.type "set") (by decide+kernel) ?_ (by decide) (by decide));refine S6 (è (ha.h d f' s σ H _ I ⟨ρ,E,æ.bind o λw vs m e1 P g=>(show∃w,S a.K m w vs/\ï a m (lL w) Q from⟨w,P,g⟩)⟩) λus s1⟨vs,m,A,r1,w,P,g⟩=>?_) i' y;unfold lL at g;split at g
 · rename_i es;obtain⟨v,rfl,r⟩:=cZ P;obtain⟨l,xs,rfl,hl,rx⟩:=r.lstE;obtain⟨u,rfl,ru⟩:=eD r1;cases(show u=B_ l from ru);split at g
   · rename_i ks d';split at g
     · rename_i k;obtain⟨z,h,n,rv,hz,eh⟩:=A.lstM hl;obtain⟨q1,q2⟩:=yr A d' rx rv;have e:h.toArray.size=ks.length:=by simp[q1]
       refine ST.call_set_T (υ:=h.toArray) (k:=λi=>ks.getD i []) (n:=λi=>match h[i]? with|some (.ref c)=>c|_=>0) (A.ok.hd hc) (by omega) ⟨_,eh,rfl,n,rfl⟩ (λi hi=>?_) (by rw[e];exact k.2) (λi j hi hj k'=>?_) λh' tk hS e'=>?_;·obtain⟨c,e1,e2⟩:=q2 i (by simpa using hi);simp only[List.getElem?_toArray,e1];exact⟨trivial,e2⟩
       ·exact wa k.1 (by rw[<-e];exact hi) (by rw[<-e];exact hj) k'
       ·refine Wy ?_;refine ST.len_T hS (by rw[e];exact k.2) λt a'=>⟨.int (ks.length:Nat),m,?_,⟨t,by rw[e]⟩,g _ m (.refl m) rfl⟩;exact A.kept (t':=a') λb u q=>e' b u (v_ q) q
     ·exact g.elim
   ·exact g.elim
 ·exact g.elim⟩
def nA(h:d.heap.IsTupleIter e r c)(p:d.heap.IsTuple r υ)(n:υ[c]?=Z Ζ)(a:∀g,g.IsTupleIter e r (c+1)->Uu e d.heap g->Â Ζ {d with heap:=g}):t_ (y_ q o) w (S9 (.ref e)) Â ν d:=by obtain⟨t,f,k,b⟩:=id h;obtain⟨s,j,_,m,i⟩:=p;unfold S9;refine c_ (Sz (name:=b_ "__next__") h.typeIs UH (SY UH h.typeIs Xi ?_ (W9 _)));show t_ _ _ (M' (.ref e) 0>>=_) _ _ d;refine c_ (Ts f b (x:=.ref r) rfl ?_);show t_ _ _ (if(B_ r==F_)=L then _ else _) _ _ d;rw[if_neg (show¬((B_ r==F_)=L)from C_)];show t_ _ _ (M' (.ref e) 1>>=_) _ _ d;refine c_ (Ts f b (x:=.int c 0) rfl ?_);show t_ _ _ (seqItems? (.ref r)>>=_) _ _ d;refine c_ (Tw j i ?_);simp only[VN,n];refine c_ (wpAny_setField f b (by simp) (j_ ⟨Ζ,rfl,j_ (a _ ⟨_,Tv _ f (Obj.isFreed_of_fields (ZD b _)),(Obj.cls_mapFields ..).trans k,by rw[ZD b];simp[TH]⟩ (Ur ..))⟩))
def yu(k:w.handled=U)(j:d.heap.IsTupleIter e r c)(t:d.heap.IsTuple r υ)(s:υ[c]?=U)(f:∀i b,aap e d.heap i->(∃a,i.get? b=Z a/\a.cls=.type "StopIteration")->ν (.ref b) {d with heap:=i}):t_ (y_ q o) w (S9 (.ref e)) Â ν d:=by
 obtain⟨v,h,y,g⟩:=id j;obtain⟨u,p,_,m,n⟩:=t;unfold S9;refine c_ (Sz (name:=b_ "__next__") j.typeIs UH (SY UH j.typeIs Xi ?_ (W9 _)));show t_ _ _ (M' (.ref e) 0>>=_) _ _ d;refine c_ (Ts h g (x:=.ref r) rfl ?_);show t_ _ _ (if(B_ r==F_)=L then _ else _) _ _ d;rw[if_neg (show¬((B_ r==F_)=L)from C_)];show t_ _ _ (M' (.ref e) 1>>=_) _ _ d;refine c_ (Ts h g (x:=.int c 0) rfl ?_);show t_ _ _ (seqItems? (.ref r)>>=_) _ _ d;refine c_ (Tw p n ?_);simp only[VN,s];refine c_ (UG (c_ (wpAny_setField h g (by simp) ?_)));show t_ _ _ (newExc (.type "StopIteration") []>>=_) _ _ _;refine c_ ?_;simp only[newExc,aaC];refine c_ (Sv ?_ (by size_fits));refine c_ (m:=VP _ _) (UV (a:=F_) (by first|rfl|(simp only[VP];rfl)) ?_);refine Sv ?_ (by size_fits);simp only[raiseNew];refine c_ (Zr ?_);first|rw[show w.in1.handled=U from k]|rw[k]
 exact c_ (j_ (aaj (f _ _ (((Ur ..).extBut.push _).push _) ⟨_,n_ _ rfl,rfl⟩)))
def yw{n m H E:O}{ys:Array R}{y a b:R}{Q:Option R->g_->Prop}(h:aaK e r χ n m H E)(z:Y4 d.heap e r χ .none)(g':Ww d.heap r (.ref n) (.ref m))(f':Ww d.heap χ a b)(j1:d.heap.IsTupleIter n H c)(j2:d.heap.IsTupleIter m E c)(m1:d.heap.IsTuple H υ)(m2:d.heap.IsTuple E ys)(hx:υ[c]?=Z Ζ)(hy:ys[c]?=Z y)(j:∀p,Y4 p e r χ (TH d.heap.objs.size)->Ww p χ Ζ y->p.IsTupleIter n H (c+1)->p.IsTupleIter m E (c+1)->Ww p d.heap.objs.size Ζ y->p.objs.size=d.heap.objs.size+1->(∀f i,f≠e->f≠χ->f≠n->f≠m->d.heap.get? f=Z i->p.get? f=Z i)->Q (Z (.ref d.heap.objs.size)) {d with heap:=p}):t_ (y_ q o) w (VH (.ref e)) Q ν d:=by
 have ty:d.TypeIs (.ref e) "zip":=⟨_,z,rfl⟩;unfold VH;refine c_ (UB (Sz (name:=b_ "__next__") ty W8 (SY W8 ty F.entry_zip_next ?_ (F.args_zip_next_1 _))));show t_ _ _ (M' (.ref e) 2>>=_) _ _ d;refine c_ (Ts z rfl (x:=.bool D) rfl ?_);show t_ _ _ (M' (.ref e) 3>>=_) _ _ d;refine c_ (Ts z rfl (x:=.ref r) rfl ?_);refine c_ (Tw g' rfl ?_);show t_ _ _ (TB (.ref e)>>=_) _ _ d;refine c_ ?_;unfold TB;refine c_ (Ts z rfl (x:=.none) rfl (j_ ?_));simp only[if_true];refine c_ (UG ?_);refine c_ (Ts z rfl (x:=.ref χ) rfl ?_);refine c_ (S5 z (by simp) λhA zA s=>?_);have d':Y4 hA e r χ .ellipsis:=zA;refine c_ ?_;simp only[Yg,YI,Xb,WE];refine c_ (c_ (Zq ?_));show t_ _ _ (S9 (.ref n)>>=_) _ _ _;refine c_ (nA (j1.extBut s.extBut h.i1z) (m1.extBut s.extBut h.l1z) hx λhB jB v=>j_ ?_);have tB:Ww hB χ a b:=v.extBut _ _ h.TOi1 (s.extBut _ _ h.TOz f');refine c_ (Tw tB rfl ?_);refine c_ (YT tB λhC tC u=>?_);have e':Ww hC χ Ζ b:=tC;refine c_ (aak (j_ ?_));refine c_ (c_ (Zq ?_));show t_ _ _ (S9 (.ref m)>>=_) _ _ _;refine c_ (nA (((j2.extBut s.extBut h.i2z).extBut v.extBut h.i12.symm).extBut u.extBut h.TOi2.symm) (((m2.extBut s.extBut h.l2z).extBut v.extBut h.l2i1).extBut u.extBut h.l2TO) hy λhD jD B=>j_ ?_);have tD:Ww hD χ Ζ b:=B.extBut _ _ h.TOi2 e';refine c_ (Tw tD rfl ?_);refine c_ (YT tD λk tF A=>?_);have b':Ww k χ Ζ y:=tF;refine c_ (aak (j_ (j_ ?_)));refine c_ (Tw b' rfl ?_);refine c_ (YU ?_);have n5:k.objs.size=d.heap.objs.size:=by rw[A.1,B.1,u.1,v.1,s.1]
 have z5:Y4 k e r χ .ellipsis:=A.extBut _ _ h.TOz.symm (B.extBut _ _ h.i2z.symm (u.extBut _ _ h.TOz.symm (v.extBut _ _ h.i1z.symm d')));have k5:∀f i,f≠e->f≠χ->f≠n->f≠m->d.heap.get? f=Z i->k.get? f=Z i:=λf i t c2 c3 c4 g=>A.extBut _ _ c2 (B.extBut _ _ c4 (u.extBut _ _ c2 (v.extBut _ _ c3 (s.extBut _ _ t g))));have p1:k.IsTupleIter n H (c+1):=((jB.extBut u.extBut h.TOi1.symm).extBut B.extBut h.i12).extBut A.extBut h.TOi1.symm;have p2:k.IsTupleIter m E (c+1):=jD.extBut A.extBut h.TOi2.symm;have nz:e<k.objs.size:=v_ z5;show t_ _ _ (V0 (.ref e) (.ref k.objs.size)>>=_) _ _ _;refine c_ ?_;unfold V0;have z6:Y4 (k.push {cls:=.type "tuple",data:=.seq #[Ζ,y]}) e r χ .ellipsis:=i_ _ z5;refine c_ (S5 z6 (by simp) λhG zG sG=>?_);have c':Y4 hG e r χ (TH k.objs.size):=zG;refine S5 c' (by simp) λP zH sH=>?_;have a':Y4 P e r χ (TH k.objs.size):=zH;have up:∀f i,f≠e->k.get? f=Z i->P.get? f=Z i:=λf i t g=>sH.extBut _ _ t (sG.extBut _ _ t (i_ _ g));have pr:Ww P k.objs.size Ζ y:=sH.extBut _ _ (Uy nz) (sG.extBut _ _ (Uy nz) (n_ _ rfl));have n8:P.objs.size=k.objs.size+1:=by rw[sH.1,sG.1,L_]
 rw[n5]at a' pr n8;refine j_ ⟨_,rfl,j_ ?_⟩;show Q (Z (.ref k.objs.size)) _;rw[n5];exact j P a' (up _ _ h.TOz b') (p1.at λi g=>up _ i h.i1z g) (p2.at λi g=>up _ i h.i2z g) pr n8 λf i t c2 c3 c4 g=>up f i t (k5 f i t c2 c3 c4 g)
def B1{m s p l2:O}{b:R}{Q:Option R->g_->Prop}(hh:w.handled=U)(h:aaK e r χ m s p l2)(k:Y4 d.heap e r χ .none)(v:Ww d.heap r (.ref m) (.ref s))(a':Ww d.heap χ Ζ b)(j1:d.heap.IsTupleIter m p c)(m1:d.heap.IsTuple p υ)(hx:υ[c]?=U)(i:∀E,(∀a f,a≠e->a≠χ->a≠m->a≠s->d.heap.get? a=Z f->E.get? a=Z f)->Q U {d with heap:=E}):t_ (y_ q o) w (VH (.ref e)) Q ν d:=by
 have z:d.TypeIs (.ref e) "zip":=⟨_,k,rfl⟩;unfold VH;refine c_ (UB (Sz (name:=b_ "__next__") z W8 (SY W8 z F.entry_zip_next ?_ (F.args_zip_next_1 _))));show t_ _ _ (M' (.ref e) 2>>=_) _ _ d;refine c_ (Ts k rfl (x:=.bool D) rfl ?_);show t_ _ _ (M' (.ref e) 3>>=_) _ _ d;refine c_ (Ts k rfl (x:=.ref r) rfl ?_);refine c_ (Tw v rfl ?_);show t_ _ _ (TB (.ref e)>>=_) _ _ d;refine c_ ?_;unfold TB;refine c_ (Ts k rfl (x:=.none) rfl (j_ ?_));simp only[if_true];refine c_ (UG ?_);refine c_ (Ts k rfl (x:=.ref χ) rfl ?_);refine c_ (S5 k (by simp) λhA zA n=>?_);have u:Y4 hA e r χ .ellipsis:=zA;refine c_ ?_;simp only[Yg,YI,Xb,WE];refine c_ (c_ (Zq ?_));show t_ _ _ (S9 (.ref m)>>=_) _ _ _;refine c_ (yu hh (j1.extBut n.extBut h.i1z) (m1.extBut n.extBut h.l1z) hx λhB j B he=>?_);obtain⟨oe,t,H⟩:=he;have y:Y4 hB e r χ .ellipsis:=B _ _ h.i1z.symm u;have ne:j≠e:=λg=>by subst g;rw[y]at t;cases t;simp at H
 refine S5 y (by simp) λhC _ A=>?_;refine c_ (WN (T:="StopIteration") (b:=L) ⟨oe,A.extBut _ _ ne t,H⟩ YZ (j_ (i hC λa f P _ c3 _ g=>A.extBut _ _ P (B _ _ c3 (n.extBut _ _ P g)))))
abbrev zq1(h:M_)(a:O):M_:=h.push {cls:=.type "tuple_iterator",data:=.fields #[.ref a,.int 0 0]}
abbrev zq2(h:M_)(b a:O):M_:=(zq1 h b).push {cls:=.type "tuple_iterator",data:=.fields #[.ref a,.int 0 0]}
abbrev zq3(h:M_)(a b:O):M_:=(zq2 h a b).push {cls:=.type "tuple",data:=.seq #[.ref h.objs.size,.ref (zq1 h a).objs.size]}
abbrev zq4(h:M_)(b a:O):M_:=(zq3 h b a).push {cls:=.type "tuple",data:=.seq #[.none,.none]}
abbrev KE(h:M_)(b a:O):M_:=(zq4 h b a).push {cls:=.type "zip",data:=.fields #[.none,.bool D,.bool D,.ref (zq2 h b a).objs.size,.ref (zq3 h b a).objs.size]}
def B4(b c:O)(f e:Array R):Meets (Tq.«zip.__new__» ⟨[.type "zip",.ref b,.ref c],[]⟩) (λ_ a s=>s.heap.IsTuple b f/\s.heap.IsTuple c e/\a (.ok (.ret (.ref (zq4 s.heap b c).objs.size))) {s with heap:=KE s.heap b c}):=.of_wp λk w A a s h=>by obtain⟨j,g,d,i,os⟩:=s;obtain⟨q,p,h⟩:=h;have m:=sub_zip;have o:Heap.IsTuple (Shared.heap ⟨j,g,d,i,os⟩) b f:=q;have n:Heap.IsTuple (Shared.heap ⟨j.push {cls:=.type "tuple_iterator",data:=.fields #[.ref b,.int 0 0]},g,d,i,os⟩) c e:=Heap.IsTuple.push p _;wp_walk using V9 o,V9 n;exact⟨_,rfl,h⟩
def yx{p:Array R}(z:d.heap.IsTuple e υ)(y:d.heap.IsTuple r p)(b:∀f,Y4 f (d.heap.objs.size+4) (d.heap.objs.size+2) (d.heap.objs.size+3) .none->Ww f (d.heap.objs.size+2) (.ref d.heap.objs.size) (.ref (d.heap.objs.size+1))->Ww f (d.heap.objs.size+3) .none .none->f.IsTupleIter d.heap.objs.size e 0->f.IsTupleIter (d.heap.objs.size+1) r 0->f.objs.size=d.heap.objs.size+5->(∀c a,d.heap.get? c=Z a->f.get? c=Z a)->Â (.ref (d.heap.objs.size+4)) {d with heap:=f}):t_ (y_ q o) w (call (.type "zip") [.ref e,.ref r]) Â ν d:=by
 refine callType_new F.called_zip (by decide) (F.typeCall_zip_2 _ _) (F.newCall_zip_2 _ _) (λn=>F.args_object_init_3 n _ _) F.entry_zip_new (B4 e r υ p) ⟨z,y,?_⟩;have k:(zq1 d.heap e).objs.size=d.heap.objs.size+1:=L_ ..;have j:(zq2 d.heap e r).objs.size=d.heap.objs.size+2:=by rw[L_,k]
 have i:(zq3 d.heap e r).objs.size=d.heap.objs.size+3:=by rw[L_,j]
 have h:(zq4 d.heap e r).objs.size=d.heap.objs.size+4:=by rw[L_,i]
 have v:(KE d.heap e r).objs.size=d.heap.objs.size+5:=by rw[L_,h]
 have P:=@i_;have m:(KE d.heap e r).get? (zq4 d.heap e r).objs.size=Z _:=n_ _ rfl;have s:(KE d.heap e r).get? (zq3 d.heap e r).objs.size=Z _:=i_ _ (n_ _ rfl);have t:(KE d.heap e r).get? (zq2 d.heap e r).objs.size=Z _:=i_ _ (i_ _ (n_ _ rfl));have u:(KE d.heap e r).get? (zq1 d.heap e).objs.size=Z _:=i_ _ (i_ _ (i_ _ (n_ _ rfl)));have A:(KE d.heap e r).get? d.heap.objs.size=Z _:=i_ _ (i_ _ (i_ _ (i_ _ (n_ _ rfl))));show _/\_;rw[j,i,h]at m;rw[k,j]at t;rw[i]at s;rw[k]at u;rw[h];exact⟨⟨_,m,rfl⟩,b _ m t s ⟨_,A,rfl,rfl⟩ ⟨_,u,rfl,rfl⟩ v λc a g=>i_ _ (i_ _ (i_ _ (i_ _ (i_ _ g))))⟩
def Itz(a b:O):It:=⟨λi H=>∃c d x y,H a=Z (.tup c)/\H b=Z (.tup d)/\c[i]?=Z x/\d[i]?=Z y,λi H v e=>∃p x y,v=.ref p/\H p=U/\e=Ý H p (.tup [x,y])/\(∀c,H a=Z (.tup c)->c[i]?=Z x)/\(∀d,H b=Z (.tup d)->d[i]?=Z y),λi H=>∃c d,H a=Z (.tup c)/\H b=Z (.tup d)/\c.length<=i⟩
structure ZSt(z TI TO i1 i2 a b:O)(i:Nat)(h:M_):Prop where
 z:Y4 h z TI TO .none
 ti:Ww h TI (.ref i1) (.ref i2)to:∃p q,Ww h TO p q
 j1:h.IsTupleIter i1 a i
 j2:h.IsTupleIter i2 b i
structure ZNe(z TI TO i1 i2:O):Prop where
 n1:TI≠z
 n2:TO≠z
 n3:i1≠z
 n4:i2≠z
 n5:TI≠TO
 n6:TI≠i1
 n7:TI≠i2
 n8:TO≠i1
 n9:TO≠i2
 n10:i1≠i2
def O8{b a c:O}(h:c∈[e,r,χ,b,a]):c=e\/c=r\/c=χ\/c=b\/c=a:=by simpa using h
def B5(a b z TI TO i1 i2:O)(N:ZNe z TI TO i1 i2):xa q o s (.Tuple u c p) (Itz a b) [z,TI,TO,i1,i2] z (λi h=>ZSt z TI TO i1 i2 a b i h)where
 mem:=by simp
 obj:=λi h st f hc=>by
  obtain⟨A,j,g3⟩:=st.to;rcases O8 hc with rfl|rfl|rfl|rfl|rfl;·exact⟨_,st.z,λv g=>by cases g⟩
  ·exact⟨_,st.ti,λv g=>by cases g⟩
  ·exact⟨_,g3,λv g=>by cases g⟩
  ·obtain⟨k,e,_,d⟩:=st.j1;exact⟨k,e,λv g=>by rw[d]at g;cases g⟩
  ·obtain⟨k,e,_,d⟩:=st.j2;exact⟨k,e,λv g=>by rw[d]at g;cases g⟩
 keep:=λi h h' st kk=>by obtain⟨A,j,g3⟩:=st.to;exact⟨kk z (by simp) _ st.z,kk TI (by simp) _ st.ti,⟨A,j,kk TO (by simp) _ g3⟩,st.j1.at λk e=>kk i1 (by simp) k e,st.j2.at λk e=>kk i2 (by simp) k e⟩
 item:=by
  intro X hP hw hK hc i f' t σ H E w hf st hg;subst hP hw hK;obtain⟨xs,ys,x,y,ha,hb,hx,hy⟩:=hg;obtain⟨i',rv,A,_⟩:=w.tuple (ö.of ha);obtain⟨r',sv,p',_⟩:=w.tuple (ö.of hb);obtain⟨B,hu,ru⟩:=rv.get hx;obtain⟨v,hv,q'⟩:=sv.get hy;obtain⟨q1,q2,g'⟩:=st.to;have F:∀f∈[z,TI,TO,i1,i2],m7 X f' H f:=hf;have fr:∀f∈[z,TI,TO,i1,i2],H f=U:=λf m=>(hf f m).1;have an:∀f∈[z,TI,TO,i1,i2],a≠f:=λf m g=>by rw[g,fr f m]at ha;cases ha
  have bn:∀f∈[z,TI,TO,i1,i2],b≠f:=λf m g=>by rw[g,fr f m]at hb;cases hb
  have P:aaK z TI TO i1 i2 a b:=⟨N.n1,N.n2,N.n3,N.n4,N.n5,N.n6,N.n7,N.n8,N.n9,N.n10,an z (by simp),an TO (by simp),an i1 (by simp),an i2 (by simp),bn z (by simp),bn TO (by simp),bn i1 (by simp),bn i2 (by simp)⟩;refine yw P st.z st.ti g' st.j1 st.j2 (show t.heap.IsTuple a i'.toArray from A) (show t.heap.IsTuple b r'.toArray from p') (Ζ:=B) (y:=v) (by simpa using hu) (by simpa using hv) λh' a1 a2 a3 a4 a5 a6 kk=>?_;refine⟨_,rfl,wpAny_letOwnedTupleGo_zip a1 λh2 z2 d'=>?_⟩;have hp:H t.heap.objs.size=U:=w.hok.fresh (r_ _);have l':z<t.heap.objs.size:=v_ st.z;have k2:∀f k,f∉[z,TO,i1,i2]->t.heap.get? f=Z k->h2.get? f=Z k:=λf k b' j=>d'.extBut f k (λg=>b' (by simp[g])) (kk f k (λg=>b' (by simp[g])) (λg=>b' (by simp[g])) (λg=>b' (by simp[g])) (λg=>b' (by simp[g])) j);have o':h2.get? t.heap.objs.size=Z {cls:=.type "tuple",data:=.seq #[B,v]}:=d'.extBut _ _ (Uy l') a5;have sub:∀f,f∈[z,TO,i1,i2]->f∈[z,TI,TO,i1,i2]:=λf m=>by
   have m':f=z\/f=TO\/f=i1\/f=i2:=by simpa using m
   rcases m' with rfl|rfl|rfl|rfl<;>simp
  have I1:Ë X f' σ (Ý H t.heap.objs.size (.tup [x,y])) {t with heap:=h2}:=by
   have nt:∀f k,H f=Z k->f∉[z,TO,i1,i2]:=λf k j m=>by rw[fr f (sub f m)]at j;cases j
   refine w.step (g':=t.gens) (d':=t.drawn) (t':=t.toks) (ch:=[z,TO,i1,i2]) (λf m=>?_) (λf k _ _ a' j _=>k2 f k a' j) (λf k _ _ a' j _=>⟨k.slots,k2 f k a' j⟩) (λf k a' j n=>?_) (λf k a' j=>⟨k,k2 f k a' j⟩) (λf zs j=>by rw[al (av j hp)];exact j) (λf k zs j=>by rw[al (av j hp)];exact j) (λf ps j=>⟨#[],by rw[al (av j hp),j];simp⟩) (λm hm=>?_) (λf o2 j=>?_) w.bare;·obtain⟨f0,f1,I,f3,f4,f5⟩:=hf f (sub f m);exact⟨f3,f1,f4,f5⟩
   ·rw[al (D_ (v_ j))];exact n
   ·obtain⟨k,k',ep,ho,r⟩:=hm;exact⟨k,k',ep,k2 _ k (λm=>(hf _ (sub _ m)).2.1 rfl) ho,r⟩
   · by_cases n':f=t.heap.objs.size;·subst n';rw[ao]at j;cases j;exact⟨by show 2<=sizeLine;decide,[B,v],.cons ru (.cons q' .nil),⟨_,o',rfl,_,rfl⟩⟩
     · rw[al n']at j;refine(w.hok f o2 j).stay (λe v' c' qq=>k2 e v' ?_ qq) (λe qq=>by rw[al (av qq hp)];exact qq) λe zs qq=>by rw[al (av qq hp)];exact qq
       rcases c' with rfl|c';·exact nt _ _ j
       ·exact nt _ _ c'
  refine⟨.ref t.heap.objs.size,_,I1,rfl,⟨_,x,y,rfl,hp,rfl,λzs e'=>?_,λzs e'=>?_⟩,⟨z2,?_,⟨_,_,d'.extBut _ _ N.n2 a2⟩,a3.at λk j=>d'.extBut _ _ N.n3 j,a4.at λk j=>d'.extBut _ _ N.n4 j⟩,λf m=>?_⟩;·rw[ha]at e';cases e';exact hx
  ·rw[hb]at e';cases e';exact hy
  ·exact d'.extBut _ _ N.n1 (kk _ _ N.n1 N.n5 N.n6 N.n7 st.ti)
  · have lt:f<t.heap.objs.size:=by
     rcases O8 m with rfl|rfl|rfl|rfl|rfl;·exact l'
     ·exact v_ st.ti
     ·exact v_ g'
     ·obtain⟨_,e,_⟩:=st.j1;exact v_ e
     ·obtain⟨_,e,_⟩:=st.j2;exact v_ e
    rw[al (D_ lt)];exact fr f m
 done:=by
  intro X hP hw hK hc i f' t σ H E w hf st hg;subst hP hw hK;obtain⟨xs,ys,ha,hb,hl⟩:=hg;obtain⟨i',rv,A,_⟩:=w.tuple (ö.of ha);obtain⟨q1,q2,g'⟩:=st.to;have fr:∀f∈[z,TI,TO,i1,i2],H f=U:=λf m=>(hf f m).1;have an:∀f∈[z,TI,TO,i1,i2],a≠f:=λf m g=>by rw[g,fr f m]at ha;cases ha
  have bn:∀f∈[z,TI,TO,i1,i2],b≠f:=λf m g=>by rw[g,fr f m]at hb;cases hb
  have P:aaK z TI TO i1 i2 a b:=⟨N.n1,N.n2,N.n3,N.n4,N.n5,N.n6,N.n7,N.n8,N.n9,N.n10,an z (by simp),an TO (by simp),an i1 (by simp),an i2 (by simp),bn z (by simp),bn TO (by simp),bn i1 (by simp),bn i2 (by simp)⟩;have s':=rv.length;refine B1 (w.ok.hd hc) P st.z st.ti g' st.j1 (show t.heap.IsTuple a i'.toArray from A) (by simp;omega) λh' kk=>⟨rfl,?_⟩;have k2:∀f k,f∉[z,TO,i1,i2]->t.heap.get? f=Z k->h'.get? f=Z k:=λf k b' j=>kk f k (λg=>b' (by simp[g])) (λg=>b' (by simp[g])) (λg=>b' (by simp[g])) (λg=>b' (by simp[g])) j;have sub:∀f,f∈[z,TO,i1,i2]->f∈[z,TI,TO,i1,i2]:=λf m=>by
   have m':f=z\/f=TO\/f=i1\/f=i2:=by simpa using m
   rcases m' with rfl|rfl|rfl|rfl<;>simp
  have nt:∀f k,H f=Z k->f∉[z,TO,i1,i2]:=λf k j m=>by rw[fr f (sub f m)]at j;cases j
  refine w.step (g':=t.gens) (d':=t.drawn) (t':=t.toks) (ch:=[z,TO,i1,i2]) (λf m=>?_) (λf k _ _ a' j _=>k2 f k a' j) (λf k _ _ a' j _=>⟨k.slots,k2 f k a' j⟩) (λf k a' j n=>n) (λf k a' j=>⟨k,k2 f k a' j⟩) (λf zs j=>j) (λf k zs j=>j) (λf ps j=>⟨#[],by rw[j];simp⟩) (λm hm=>?_) (λf o2 j=>?_) w.bare;·obtain⟨f0,f1,I,f3,f4,f5⟩:=hf f (sub f m);exact⟨f3,f1,f4,f5⟩
  ·obtain⟨k,k',ep,ho,r⟩:=hm;exact⟨k,k',ep,k2 _ k (λm=>(hf _ (sub _ m)).2.1 rfl) ho,r⟩
  · refine(w.hok f o2 j).stay (λe v' c' qq=>k2 e v' ?_ qq) (λe qq=>qq) λe zs qq=>qq;rcases c' with rfl|c';·exact nt _ _ j
    ·exact nt _ _ c'
 self:=λ_ _ _ _ _ st h=>wpAny_pyIter_zip st.z h
def IR:List N->List N->List N|x::b,y::a=>.tup [x,y]::IR b a|_,_=>[]
def jj:∀(a b:List N),a.length=b.length->(IR a b).length=a.length|[],[],_=>rfl|x::a,y::b,h=>by show(IR a b).length+1=a.length+1;rw[jj a b (by simpa using h)]|[],_::_,h=>by simp at h|_::_,[],h=>by simp at h
def ux:∀(c b:List N)(i:Nat)(x y:N),c[i]?=Z x->b[i]?=Z y->(IR c b)[i]?=Z (.tup [x,y])|x::c,y::b,0,e,d,h,a=>by simp at h a;subst h a;rfl|x::c,y::b,i+1,e,d,h,a=>ux c b i e d (by simpa using h) (by simpa using a)|[],_,_,_,_,h,_=>by simp at h|_::_,[],_,_,_,_,a=>by simp at a
def Lg{c:List V}{f:List N}(o:g e=Z (.tup θ))(n:g r=Z (.tup c))(b:S s g k θ)(z:S s g f c)(m:k.length=f.length):Ŵ s (Itz e r) (IR k f) g where
 go:=λi A a h=>by
  rw[jj k f m]at h;have t:i<θ.length:=by rw[b.length];exact h
  have q:i<c.length:=by rw[z.length,<-m];exact h
  exact⟨θ,c,θ[i],c[i],a _ _ o,a _ _ n,by simp[t],by simp[q]⟩
 stop:=λA a=>⟨θ,c,a _ _ o,a _ _ n,by rw[b.length,jj k f m];exact r_ _⟩;yld:=λi A v P a h y=>by obtain⟨p,x,y,rfl,j,rfl,E,B⟩:=y;obtain⟨d,t,q⟩:=S.get (S.mono a _ _ b) (E θ (a _ _ o));obtain⟨H,w,u⟩:=S.get (S.mono a _ _ z) (B c (a _ _ n));exact⟨aG j _,_,ux k f i d H t w,⟨p,_,rfl,ao,⟨x,[y],rfl,Ô.mono (aG j _) _ _ q,y,[],rfl,Ô.mono (aG j _) _ _ u,rfl⟩⟩⟩
def IS:List N->Option (Rs (List N))|[.tup b,.tup a]=>if b.length=a.length then Z (.ok (IR b a))else U|_=>U
def Gx(hg:Gl a "zip")(hm:a.mg "zip"=U)(ha:FA a [f,y] μ)(hs:l_ [f,y] a.env=[(D,eval f a.env),(D,eval y a.env)]:=by lk)(z:l_ [y] a.env=[(D,eval y a.env)]:=by lk):Ŕ a (.Tuple u c p) (.Call (.Name "zip" B) [f,y] [] Υ) (λt=>Õ (μ t) IS):=by
 constructor;intro f' s σ H R I h;obtain⟨t,E,o⟩:=h;have key:æ a H (μ t) λvs H'=>∃w,S a.K H' w vs/\ģ a H' (IS w) R:=by match hf:μ t,o with|some (.exc g),o=>exact o|some (.ok w),o=>exactλvs H' e rs=>⟨w,rs,ģ.mono e o⟩
 refine Call_ (gg I hg hm (show TC "zip"=Z (.type "zip")by decide+kernel) (S6 (è (ha.h Υ f' s σ H _ I ⟨t,E,key⟩) λus j⟨vs,H1,k,r1,w,rs,q⟩=>?_) (by rw[hs,z]) (by rw[z];rfl)));unfold IS at q;split at q
 · rename_i xs ys;split at q
   · rename_i hl;obtain⟨v,v',rfl,rv,a'⟩:=BB rs;obtain⟨d,ws,rfl,h1,h2⟩:=rv.tupE;obtain⟨b,k',rfl,A,i'⟩:=a'.tupE;obtain⟨i,u',rfl,ru,b'⟩:=Î.two r1;cases ru;cases b';obtain⟨e',rt,pl,hz⟩:=k.tuple (ö.of h1);obtain⟨d',l',c',m'⟩:=k.tuple (ö.of A);refine yx (show j.heap.IsTuple d e'.toArray from pl) (show j.heap.IsTuple b d'.toArray from c') λh' g1 g2 g3 g4 g5 g6 kk=>?_;refine wpAny_pyIter_zip g1 ?_;have I2:Ë a f' σ H1 {j with heap:=h'}:=k.kept (t':=j.toks) kk;have r:∀m n:Nat,m≠n->j.heap.objs.size+m≠j.heap.objs.size+n:=λm n g' e=>g' (Zm e);have P:∀m:Nat,0≠m->j.heap.objs.size≠j.heap.objs.size+m:=λm hm e=>hm (Zm (n:=j.heap.objs.size) e);refine⟨j.heap.objs.size+4,[j.heap.objs.size+4,j.heap.objs.size+2,j.heap.objs.size+3,j.heap.objs.size,j.heap.objs.size+1],_,Itz d b,H1,rfl,I2,B5 d b _ _ _ _ _ ⟨r 2 4 (by decide),r 3 4 (by decide),P 4 (by decide),r 1 4 (by decide),r 2 3 (by decide),(P 2 (by decide)).symm,r 2 1 (by decide),(P 3 (by decide)).symm,r 3 1 (by decide),P 1 (by decide)⟩,⟨g1,g2,⟨_,_,g3⟩,g4,g5⟩,λg hc=>?_,q _ H1 (.refl H1) (Lg h1 A h2 i' hl)⟩;rcases O8 hc with rfl|rfl|rfl|rfl|rfl;·exact k.fpOk (Uf _ _) (k.hok.fresh (Uf _ _))
     ·exact k.fpOk (Uf _ _) (k.hok.fresh (Uf _ _))
     ·exact k.fpOk (Uf _ _) (k.hok.fresh (Uf _ _))
     ·exact k.fpOk (r_ _) (k.hok.fresh (r_ _))
     ·exact k.fpOk (Uf _ _) (k.hok.fresh (Uf _ _))
   ·exact q.elim
 ·exact q.elim
def jb(b:N->Ev->Option Ev)(e:List Nat)(a:Ø):List N->Ev->Option Fl|[],c=>Z (.nx (fgt e c))|d::h,c=>match b d (fgt e c)with|none=>U|some f=>match a f with|some (.nx g)=>jb b e a h g|o=>o
def wb(b:N->Ev->Option Ev)(e:List Nat)(c:á)(a:Ø):Ø:=λd=>cf (c d) λf=>jb b e a f d
def tgG(X:C)(b:N->Ev->Option Ev):TG:=λv g H Q=>∃d f c,Ô X.K H d v/\Ù X.K H g f/\b d f=Z c/\∀a e,Í H e->Ù X.K e a c->Q a e
def FG.pg{b:N->Ev->Option Ev}(h:FG a f b):PG a f (tgG a b):=λm s j H v u Q I r⟨d,k,g,rd,E,e,q⟩=>è (h.h m s j H v u d k g I r rd E e) λ_ t⟨c,i,o,n,p⟩=>⟨c,i,o,q c i n p⟩
def Gy{b:N->Ev->Option Ev}(u:List Nat)(hp:Wf (y_ a.prog a.w) a.A a.env a.xe)(hc:a.calm=L)(hi:Ŕ a f y μ)(hg:FG a f b)(hb:Ħ a Ä Τ)(hs:∀x,Sj y a.env x=pure x:=by intro _;lk):FS a (.For f y Ä [] p) (wb b u μ Τ):=by refine qe (uc hp hc hi.h hg.pg hb.h hs) λe σ H ρ E o=>⟨ρ,E,?_⟩;unfold wb at o;match hf:μ ρ,o with
 |none,o=>exact o|some (.exc c),o=>exact o|some (.ok k),o=>
 intro J H1 e1 wk;have o1:ò a H1 (jb b u Τ k ρ) e:=ò.mono e1 o;refine⟨λn m v q=>m=k.length-n/\n<=k.length/\Í H1 q/\∃j,Ù a.K q v j/\ò a q (jb b u Τ (k.drop n) j) e,⟨k.length,by simp,Sb _,.refl H1,ρ,E.mono e1,by simpa using o1⟩,?_⟩;rintro n m v q⟨rfl,hn,e2,j,E',t⟩;by_cases z:n<k.length;·refine .inr ⟨wk.go n q e2 z,λP B=>Í H1 B/\∃h,Ù a.K B P h/\ò a B (jb b u Τ (k.drop (n+1)) h) e,λP B⟨e3,h,E2,i⟩=>⟨k.length-(n+1),by omega,rfl,z,e3,h,E2,i⟩,λx B g=>?_⟩;obtain⟨e4,d,hd,rd⟩:=wk.yld n q x B e2 z g;rw[jE hd]at t;unfold jb at t;match A:b d (fgt u j)with
   |none=>rw[A]at t;exact t.elim|some w=>rw[A]at t;refine⟨d,fgt u j,w,rd,(Ù.fgt u E').mono e4,A,λc' H3 e5 E3=>?_⟩;show tS a Τ _ _ _;refine⟨w,E3,?_⟩;have i:=ò.mono (e4.trans e5) t;dsimp only at i;match s:Τ w with|none=>rw[s]at i;exact i|some (.exc c)=>rw[s]at i;exact i|some (.rt r)=>rw[s]at i;exact i|some (.nx h)=>rw[s]at i;exactλb' H4 e6 E4=>⟨((e2.trans e4).trans e5).trans e6,h,E4,ò.mono e6 i⟩
 · have a':n=k.length:=by omega
   subst a';rw[WS]at t;exact .inl ⟨wk.stop q e2,t v q (.refl q) (Ù.fgt u E')⟩
def IT:Ñ|[.str x]=>Z (.ok (.str x))|a=>O0 a
def yy:kO a (.type "str") (λb H Q=>(∃i,b=[.int i]/\i.natAbs.log2<1920/\Q (.str (toString i)) H)\/∃x,b=[.str x]/\Q (.str x) H):=by
 intro f s d H b e Q I r h;rcases h with⟨i,rfl,c,q⟩|⟨x,rfl,q⟩;·obtain⟨u,rfl,t,rfl⟩:=eD r;exact PySem.P.str_of_int c ⟨.str _,H,I.tok _,⟨_,rfl⟩,q⟩
 ·obtain⟨u,rfl,t,rfl⟩:=eD r;exact PySem.P.str_of_str ⟨.str _,H,I,⟨_,rfl⟩,q⟩
def Gz(k:Gl a "str")(j:a.mg "str"=U)(n:FA a (f::u) μ)(m:l_ (f::u) a.env=(D,eval f a.env)::l_ u a.env:=by lk)(d:(R8 B (l_ u a.env)).any (·.1)=D:=by lk):FE a (.Call (.Name "str" p) (f::u) [] B) (â IT μ):=dr (lE yy k j (by decide+kernel) n.h (by decide) (by decide) m d) λq H Q g E o=>⟨g,E,æ.bind o λw s c t e b=>by
 unfold IT at b;split at b;·rename_i x;obtain⟨v,rfl,r⟩:=cZ e;cases(show v=.str x from r);exact .inr ⟨x,rfl,b _ c (.refl c) rfl⟩
 · unfold O0 at b;split at b
   · rename_i i _;split at b;·rename_i h;obtain⟨v,rfl,r⟩:=cZ e;cases(show v=.int i from r);exact .inl ⟨i,rfl,h,b _ c (.refl c) rfl⟩
     ·exact b.elim
   ·exact b.elim⟩
def uy(c e:Ò):k8:=λa b=>yc (e a) λd=>yc (c a) λk=>match k with|.int k=>if 0<=k/\k<b.length then Z (.nx a (b.set k.toNat d))else U|_=>U
def S.set{K:d_}{H:Hp}{d:N}{v:V}(i:Ô K H d v):∀{e:List N}{b:List V}(j:Nat),S K H e b->S K H (e.set j d) (b.set j v)|[],b,j,r=>by cases(show b=[]from r);exact r|g::e,b,0,r=>by obtain⟨h,c,rfl,k,f⟩:∃v a,b=v::a/\Ô K H g v/\S K H e a:=r;exact⟨v,c,rfl,i,f⟩|g::e,b,j+1,r=>by obtain⟨h,c,rfl,k,f⟩:∃v a,b=v::a/\Ô K H g v/\S K H e a:=r;exact⟨h,c.set j v,rfl,k,S.set i j f⟩
def B6(q:a.ex=[]){x:Str}{g:Pos}(hx:PE a (.Name x g) (DJ c))(hi:FE a y È)(he:FE a f A)(hs:Zs [.Subscript (.Name x g) y B] f p.line a.env=pure D:=by lk)(hw:Zt [.Subscript (.Name x g) y B] f a.env=pure U:=by lk)(h1:(Si [.Subscript (.Name x g) y B] a.env).map (·.2)=[Vj (.Subscript (.Name x g) y B) a.env]:=by lk)(ha:∀v,Vj (.Subscript (.Name x g) y B) a.env v=(do let t<-VJ [v] (eval (.Name x g) a.env);let P<-VJ [v,t] (eval y a.env);Ym B;VJ [v,t,P] (setItem t P v);release [v,t,P] []):=by intro _;lk):Ŗ a c (.Assign [.Subscript (.Name x g) y B] f p) (uy È A):=⟨λf' s σ Hf e I⟨H,b,m,j,ds,e1,c',n,E,r,o⟩=>by refine DR (sI q he.h) (Jx hx (sI q hi.h) Bv ha) hs hw h1 f' s σ Hf e I ⟨H,b,m,e1,c',j,E,?_⟩;unfold uy at o;match i:A j with
 |none=>rw[i]at o;exact o.elim|some (.exc _)=>rw[i]at o;exact o.elim|some (.ok d)=>rw[i]at o;match h:È j with
 |none=>dsimp only[yc]at o;rw[h]at o;exact o.elim|some (.exc _)=>dsimp only[yc]at o;rw[h]at o;exact o.elim|some (.ok k)=>
 dsimp only[yc]at o;rw[h]at o;dsimp only at o;intro v H' z rd b';refine⟨.ref b,n,H',b,m,rfl,b',j,E.mono z,?_⟩;show ï a H' (È j) _;rw[h];intro w H2 u rk a';cases k<;>try exact(show False from o).elim
 rename_i k;dsimp only at o;split at o
 · rename_i hk;cases(show w=.int k from rk);have hl:=r.length;have hj:Ź m.length k=Z k.toNat:=by unfold Ź;rw[if_pos hk.1,if_pos (by omega)]
   refine⟨b,m,k,k.toNat,rfl,rfl,ao,hj,?_⟩;rw[wX];exact o σ H2 (m.set k.toNat v) (z.trans u) a' n (E.mono (z.trans u)) (S.set (Ô.mono u _ _ rd) k.toNat (S.mono (z.trans u) _ _ r))
 ·exact o.elim⟩
def NL:Ñ|[.str x]=>if x.length<=640 then(match aaD x with|some n=>Z (.ok (.int n))|none=>U)else U|_=>U
def yz:kO a (.type "int") (λb H Q=>∃x i,b=[.str x]/\x.length<=640/\aaD x=Z i/\Q (.int i) H):=by intro g s e H b f Q I r h;obtain⟨x,i,rfl,d,c,q⟩:=h;obtain⟨u,rfl,t,rfl⟩:=eD r;exact PySem.W.KIN.call_text c d ⟨.int _,H,I.tok _,⟨_,rfl⟩,q⟩
def B7(k:Gl a "int")(i:a.mg "int"=U)(q:FA a (f::u) μ)(m:l_ (f::u) a.env=(D,eval f a.env)::l_ u a.env:=by lk)(c:(R8 B (l_ u a.env)).any (·.1)=D:=by lk):FE a (.Call (.Name "int" p) (f::u) [] B) (â NL μ):=dr (lE yz k i (by decide+kernel) q.h (by decide) (by decide) m c) λs H Q e E o=>⟨e,E,æ.bind o λy t d w g b=>by
 unfold NL at b;split at b
 · rename_i x;split at b
   · rename_i j;split at b;·rename_i n h;obtain⟨v,rfl,r⟩:=cZ g;cases(show v=.str x from r);exact⟨x,n,rfl,j,h,b _ d (.refl d) rfl⟩
     ·exact b.elim
   ·exact b.elim
 ·exact b.elim⟩
end FD
namespace ST
open PySem.SetTable
def tm(m:Nat):SetTable:={mask:=m,place:=#[],dummies:=#[],finger:=0,led:=L,moves:=0,plain:=L}
def pos(m:Nat)(h:Int)(n:Nat):Nat:=(advN (tm m) n ((tm m).probeStart h)).j
def addK[DecidableEq z](a:List z)(k:z):List z:=if k∈a then a else k::a
def ddk[DecidableEq z](a:List z):List z:=a.foldl addK []
def B8[DecidableEq z](a:List z)(k:z):(addK a k).length<=a.length+1:=by unfold addK;split<;>simp
def jJ{c:Type}[DecidableEq c]:∀(b a:List c),(b.foldl addK a).length<=a.length+b.length|[],a=>r_ _|k::b,a=>by have e:=jJ b (addK a k);have d:=B8 a k;rw[aau,SD];omega
def ddk_le[DecidableEq z](a:List z):(ddk a).length<=a.length:=by have:=jJ a [];unfold ddk;simpa using this
end ST
namespace FD
open L2
def range_getD(a:List z)(d:z)(n:Nat)(h:n=a.length):(rl n).map (λi=>a.getD i d)=a:=by
 subst h;apply Z5;intro i;by_cases b:i<a.length;·simp[b]
 ·simp[b]
def tC(X:C)(i:Nat)(j:Ò):TS:=λa e H=>∃f,Ù X.K H e f/\match j f with|none=>False|some (.exc c)=>XW X c H|some (.ok d)=>∃g,d=.lst g/\∀b p h,Í H b->b p=U->S X.K b g h->a.nx (e.set i (Z (.ref p))) (Ý b p (.lst h))
def yA{m:List (Str×Nat)}{b:N->Ev->Option Ev}{f:Option ë}(i:Ev)(d:N)(h:bP c m μ b f A i=Z (.ok d)):∃e,d=.lst e:=by
 rcases OM h with⟨a,k,g⟩|⟨p,e,k,g,o,n,j⟩;·cases g
 ·cases j;exact⟨e,rfl⟩
def mP{a:Type}(b:a->a->Bool)(x:a):List a->List a|[]=>[x]|y::l=>if b x y then x::y::l else y::mP b x l
def isortB{a:Type}(b:a->a->Bool):List a->List a|[]=>[]|x::l=>mP b x (isortB b l)
def io{a:Type}(b:a->a->Bool)(x:a):∀l:List a,(mP b x l).Perm (x::l)
 |[]=>.refl _|y::l=>by
  unfold mP;split;·exact .refl _
  ·exact((io b x l).cons y).trans (Zb ..)
def isortB_perm{a:Type}(b:a->a->Bool):∀l:List a,(isortB b l).Perm l|[]=>.refl _|x::l=>(io b x _).trans ((isortB_perm b l).cons x)
structure NM{α:Type}(le:α->α->Bool):Prop where
 t:∀a b,le a b=D->le b a=L
 tr:∀a b c,le a b=L->le b c=L->le a c=L
 an:∀a b,le a b=L->le b a=L->a=b
def lN{e:Type}{d:e->e->Bool}(o:NM d)(x:e):∀l:List e,l.Pairwise (λa b=>d a b=L)->(mP d x l).Pairwise (λa b=>d a b=L)
 |[],_=>by simp[mP]|y::l,h=>by
  unfold mP;rw[RY]at h;split
  · rename_i f;rw[RY,RY];refine⟨λz c=>?_,h⟩;rcases w_.mp c with rfl|c;·exact f
    ·exact o.tr _ _ _ f (h.1 z c)
  · rename_i f;rw[RY];refine⟨λz c=>?_,lN o x l h.2⟩;rcases w_.mp ((io d x l).mem_iff.mp c)with rfl|c;·exact o.t _ _ (by simpa using f)
    ·exact h.1 z c
def isortB_sorted{c:Type}{d:c->c->Bool}(o:NM d):∀l:List c,(isortB d l).Pairwise (λa b=>d a b=L)|[]=>XS|x::l=>lN o x _ (isortB_sorted o l)
def sorted_uniq{d:Type}{f:d->d->Bool}(o:NM f):∀{l m:List d},l.Perm m->l.Pairwise (λa b=>f a b=L)->m.Pairwise (λa b=>f a b=L)->l=m
 |[],m,c,_,_=>(List.Perm.nil_eq c)|x::l,[],c,_,_=>by simpa using c.length_eq|x::l,y::m,c,j,i=>by
  rw[RY]at j i;have e:x=y:=by
   have h:x∈y::m:=c.mem_iff.mp o_;have g:y∈x::l:=c.mem_iff.mpr o_;rcases w_.mp h with e|h;·exact e
   · rcases w_.mp g with e|g;·exact e.symm
     ·exact o.an _ _ (j.1 y g) (i.1 x h)
  subst e;rw[sorted_uniq o (c.cons_inv) j.2 i.2]
def leS(a b:Str):Bool:=!uk (b.cps.toList<a.cps.toList)
def ordS:NM leS where
 t:=λa b h=>by simp only[leS,Bool.not_eq_false',decide_eq_true_eq]at h;simp only[leS,Tu,decide_eq_false_iff_not];exactλd=>Za _ (Zw h d)
 tr:=λa b c h d=>by simp only[leS,Tu,decide_eq_false_iff_not,Y_]at*;exact List.le_trans h d
 an:=λa b h d=>by simp only[leS,Tu,decide_eq_false_iff_not,Y_]at*;have e:a.cps.toList=b.cps.toList:=aah h d;obtain⟨⟨a⟩⟩:=a;obtain⟨⟨b⟩⟩:=b;simp at e;rw[e]
def je:List N->Option (List Int)|[]=>Z []|.int i::r=>(je r).map (i::·)|_=>U
def oM{H:Hp}{K:d_}:∀{a:List N}{d:List Int}{c:List V}{b:List R},je a=Z d->S K H a c->Î c b->Yy b d
 |[],d,c,b,h,r,v=>by cases h;cases(show c=[]from r);cases v;exact .nil|.int i::a,d,c,b,h,r,v=>by obtain⟨y,e,rfl,k,j⟩:∃v e,c=v::e/\Ô K H (.int i) v/\S K H a e:=r;cases(show y=.int i from k);obtain⟨n,m,rfl⟩:=Ux.mp (show(je a).map (i::·)=Z d from h);cases v with|cons g f=>obtain⟨t,rfl⟩:=g;exact .cons i t (oM m j f)
 |.non::a,_,_,_,h,_,_=>by cases h|.bl _::a,_,_,_,h,_,_=>by cases h|.str _::a,_,_,_,h,_,_=>by cases h|.tup _::a,_,_,_,h,_,_=>by cases h|.lst _::a,_,_,_,h,_,_=>by cases h|.scr _::a,_,_,_,h,_,_=>by cases h|.exn _::a,_,_,_,h,_,_=>by cases h|.obj _ _::a,_,_,_,h,_,_=>by cases h
def oN{H:Hp}{K:d_}:∀{a:List N}{d:List Str}{c:List V}{b:List R},cD a=Z d->S K H a c->Î c b->aay b d
 |[],d,c,b,h,r,v=>by cases h;cases(show c=[]from r);cases v;exact .nil|.str i::a,d,c,b,h,r,v=>by obtain⟨y,e,rfl,k,j⟩:∃v e,c=v::e/\Ô K H (.str i) v/\S K H a e:=r;cases(show y=.str i from k);obtain⟨n,m,rfl⟩:=Ux.mp (show(cD a).map (i::·)=Z d from h);cases v with|cons g f=>obtain⟨t,rfl⟩:=g;exact .cons i t (oN m j f)
 |.non::a,_,_,_,h,_,_=>by cases h|.bl _::a,_,_,_,h,_,_=>by cases h|.int _::a,_,_,_,h,_,_=>by cases h|.tup _::a,_,_,_,h,_,_=>by cases h|.lst _::a,_,_,_,h,_,_=>by cases h|.scr _::a,_,_,_,h,_,_=>by cases h|.exn _::a,_,_,_,h,_,_=>by cases h|.obj _ _::a,_,_,_,h,_,_=>by cases h
def jz:∀{a:List R}{b:List Int},Yy a b->Î (b.map V.int) a|_,_,.nil=>.nil|_,_,.cons n t h=>.cons ⟨t,rfl⟩ (jz h)
def nB:∀{a:List R}{b:List Str},aay a b->Î (b.map V.str) a|_,_,.nil=>.nil|_,_,.cons n t h=>.cons ⟨t,rfl⟩ (nB h)
def nE{K:d_}(H:Hp):∀a:List Str,S K H (a.map N.str) (a.map V.str)|[]=>rfl|n::a=>⟨_,_,rfl,rfl,nE H a⟩
def qC:∀(p:Str)(l:List Str),risingS p l=L->(p::l).Pairwise (λa b=>leS a b=L)
 |p,[],_=>by simp|p,x::r,h=>by
  have f:(!ltCps x.cps.toList p.cps.toList)=L/\risingS x r=L:=by simpa[risingS]using h
  have c:=qC x r f.2;have e:leS p x=L:=by unfold leS;rw[<-ltCps_eq];exact f.1
  rw[RY];refine⟨λz d=>?_,c⟩;rw[RY]at c;rcases w_.mp d with rfl|d;·exact e
  ·exact ordS.tr _ _ _ e (c.1 z d)
def sortedS_pw(l:List Str)(h:sortedS l=L):l.Pairwise (λa b=>leS a b=L):=by cases l with|nil=>exact .nil|cons x r=>exact qC x r h
def line64(h:c<64):c<=sizeLine:=by
 have:sizeLine=16777216:=by decide
 omega
def ĳ:Int->List Int->Int|m,[]=>m|m,n::l=>ĳ (if n>m then n else m) l
def yC:∀(l:List Int)(m:Int),m<=ĳ m l/\(∀a∈l,a<=ĳ m l)/\(ĳ m l=m\/ĳ m l∈l)
 |[],m=>⟨W3 _,by simp,.inl rfl⟩|n::l,m=>by
  obtain⟨d,g,b⟩:=yC l (if n>m then n else m);have e:ĳ m (n::l)=ĳ (if n>m then n else m) l:=rfl;rw[e];generalize h:ĳ (if n>m then n else m) l=M at*;by_cases f:n>m
  · rw[if_pos f]at d b;refine⟨by omega,λa c=>?_,?_⟩
    · rcases w_.mp c with rfl|c;·exact d
      ·exact g a c
    · rcases b with b|b;·exact .inr (by rw[b];exact o_)
      ·exact .inr (m_ _ b)
  · rw[if_neg f]at d b;refine⟨d,λa c=>?_,?_⟩
    · rcases w_.mp c with rfl|c;·omega
      ·exact g a c
    · rcases b with b|b;·exact .inl b
      ·exact .inr (m_ _ b)
def GA{l:List Int}{M:Int}(c:M∈i::l)(d:∀a∈i::l,a<=M):M=ĳ i l:=by
 obtain⟨f,e,b⟩:=yC l i;have g:ĳ i l<=M:=by
  rcases b with b|b;·rw[b];exact d i o_
  ·exact d _ (m_ _ b)
 have le:M<=ĳ i l:=by
  rcases w_.mp c with rfl|c;·exact f
  ·exact e M c
 omega
def NN:Ñ
 |[.lst b]=>match je b with|some (n::a)=>Z (.ok (.int (ĳ n a)))|_=>U
 |_=>U
def yD:kO a (.builtin "max") (λp H Q=>∃c k m n g,p=[.ref c]/\H c=Z (.lst k)/\S a.K H m k/\je m=Z (n::g)/\a.calm=L/\Q (.int (ĳ n g)) H):=by
 intro f' s σ H p us Q I r h;obtain⟨c,k,m,n,g,rfl,h1,h2,hi,hc,q⟩:=h;obtain⟨u,rfl,P⟩:=eD r;cases P;obtain⟨z,a',ep,E,hl,e⟩:=I.lstM h1;have y:=oM hi h2 E;obtain⟨d,A⟩:=y.allInts.items;have f:n::g=d.toList.map (·.1):=by rw[<-y.numsOf,<-nums_intItems,<-A]
 have o:0<d.size:=by have:=congrArg W1 f;simp at this;omega
 have hL:s.heap.IsList c (intItems d):=by rw[<-A];exact⟨_,e,rfl,ep,rfl⟩
 refine max_intList (I.ok.hd hc) hL o λv h' B hv hk=>?_;obtain⟨t,rfl⟩:=intItems_at hv;obtain⟨g1,g2⟩:=argBest_gt (numAt d) (d.size-1);have hM:numAt d (argBest (λi j=>uk (numAt d i>numAt d j)) (d.size-1))=ĳ n g:=by
  refine GA ?_ λb w=>?_;·rw[f,numAt_eq];exact getD_mem (by rw[E_,Sx];omega)
  ·rw[f]at w;obtain⟨j,hj,rfl⟩:=mem_getD w;rw[E_,Sx]at hj;rw[<-numAt_eq];exact g2 j (by omega)
 refine⟨.int (ĳ n g),H,I.kept (t':=B) hk,⟨t,by rw[hM]⟩,q⟩
def GB(t:a.calm=L)(q:Gl a "max")(m:a.mg "max"=U)(y:FA a (f::u) μ)(s:l_ (f::u) a.env=(D,eval f a.env)::l_ u a.env:=by lk)(d:(R8 B (l_ u a.env)).any (·.1)=D:=by lk):FE a (.Call (.Name "max" p) (f::u) [] B) (â NN μ):=dr (gK yD q m YQ y.h (by decide) (by decide) s d) λP H Q g E o=>⟨g,E,æ.bind o λds vs e e1 j c=>by
 unfold NN at c;split at c
 · rename_i h;obtain⟨v,rfl,r⟩:=cZ j;obtain⟨b,i,rfl,A,z⟩:=r.lstE;split at c;·rename_i n k w;exact⟨b,i,h,n,k,rfl,A,z,w,t,c _ e (.refl e) rfl⟩
   ·exact c.elim
 ·exact c.elim⟩
def Lh:Ñ|[.lst a]=>(match i5 a with|some bs=>Z (.ok (.bl (bs.any id)))|none=>U)|_=>U
def yF:kO a (.builtin "any") (λw H Q=>∃c m bs p,w=[.ref c]/\H c=Z (.lst m)/\S a.K H p m/\i5 p=Z bs/\a.calm=L/\Q (.bl (bs.any id)) H):=by
 intro f' s σ H w us Q I r h;obtain⟨c,m,bs,p,rfl,h1,h2,h3,hc,q⟩:=h;obtain⟨u,rfl,P⟩:=eD r;cases P;obtain⟨z,a',n,E,hl,e⟩:=I.lstM h1;have eb:=oA h2 E h3;subst eb;have y:s.heap.IsList c (bs.map R9).toArray:=⟨_,e,rfl,_,rfl⟩;have t:c<s.heap.objs.size:=v_ e;refine call_any_walk (VI y ?_);refine⟨s.heap.objs.size,[s.heap.objs.size,c],[s.heap.objs.size],(bs.map R9).toArray.size,_,_,λi=>(bs[i]?).getD L,rfl,ZA (A:=a.A.in1) (I.ok.hd hc) _ c (D_ t) (bs.map R9).toArray,⟨⟨_,n_ _ rfl,rfl,rfl⟩,y.push _⟩,λi v B Q' E' hP hQ=>?_,λh' A hk=>?_⟩
 · have d:(bs.map R9)[i]?=Z v:=by simpa using hP
   rw[O_]at d;cases g:bs[i]? with|none=>rw[g]at d;cases d|some b=>rw[g]at d;cases d;have j:Q' ((bs[i]?).getD L) B:=hQ;rw[g]at j;exact TW j
 · have e2:((rl (bs.map R9).toArray.size).any λi=>(bs[i]?).getD L)=bs.any id:=by
    rw[G_,E_];rw[SS];simp only[VY,SH,id];constructor;·rintro⟨i,f,k⟩;simp only[s_ f,aae]at k;exact⟨_,Vr f,k⟩
    ·rintro⟨b,g,k⟩;obtain⟨i,f,rfl⟩:=U6.mp g;exact⟨i,f,by simpa[f]using k⟩
   rw[e2];exact⟨.bl (bs.any id),H,I.kept (t':=A) λb o q=>hk b o (by simp;exact D_ (v_ q)) (i_ _ q),rfl,q⟩
def Li(q:a.calm=L)(m:Gl a "any")(k:a.mg "any"=U)(t:FA a (f::u) μ)(n:l_ (f::u) a.env=(D,eval f a.env)::l_ u a.env:=by lk)(d:(R8 B (l_ u a.env)).any (·.1)=D:=by lk):FE a (.Call (.Name "any" p) (f::u) [] B) (â Lh μ):=dr (gK yF m k (by decide+kernel) t.h (by decide) (by decide) n d) λz H Q g E o=>⟨g,E,æ.bind o λds A e P j c=>by
 unfold Lh at c;split at c
 · rename_i h;split at c;·rename_i bs s;obtain⟨v,rfl,r⟩:=cZ j;obtain⟨b,i,rfl,y,w⟩:=r.lstE;exact⟨b,i,bs,h,rfl,y,w,s,q,c _ e (.refl e) rfl⟩
   ·exact c.elim
 ·exact c.elim⟩
def El{a:Option ë}{b:Ò}{c:Ev}:∀e:List N,xK a b c e=jy (gN 0) a b c e|[]=>rfl|d::e=>by unfold xK jy;rw[El e];rfl
def GC(e:List (Str×Nat))(a:á)(b:Option ë)(d:Ò):bY e a b d=bP 1 e a (gN 0) b d:=by funext c;show Õ (a c) _=Õ (a c) _;congr 1;funext f;rw[El];rfl
def GD(h:PS a τ (tC a c A))(r:∀f d,A f=Z (.ok d)->∃i,d=.lst i):FS a τ (bW c A):=⟨λt s m H b I⟨f,E,o⟩=>by refine h t s m H b I ⟨f,E,?_⟩;unfold bW at o;match g:A f with|none=>rw[g]at o;exact o.elim|some (.exc e)=>rw[g]at o;exact o|some (.ok d)=>rw[g]at o;obtain⟨i,rfl⟩:=r f d g;exact⟨i,rfl,λu p n k j q=>o _ _ (k.trans (aG j _)) ((E.mono (k.trans (aG j _))).set ⟨p,n,rfl,ao,S.mono (aG j _) _ _ q⟩)⟩⟩
end FD
namespace ST
open PySem.SetTable
def SetS(b:on)(w:z_)(h:M_)(S:O)(c:List Str):Prop:=∃o a d t,h.get? S=Z o/\o.ExactSet/\o.data=.set a d t/\t.fits a.size=L/\c.length<=60/\t.led=(!ú w)/\(a.size≠0->t.plain=D)/\ElemsOf (SM b w) a.toList/\(∀e∈a.toList,∃x t,e.2=.str x t)/\(a.toList.map λe=>Ż e.2).Perm c
def Lj(t:SetTable)(n:Nat):(t.orStandIn n).led=t.led/\((t.orStandIn n).plain=t.plain\/(t.orStandIn n).plain=D):=by
 unfold SetTable.orStandIn;split;·exact⟨rfl,.inl rfl⟩
 ·exact⟨rfl,.inr rfl⟩
def GE(t:SetTable)(a:Array (Int×R))(h:Int)(x:R):(layNew t a h x).2.1.led=t.led:=by
 unfold layNew;split;·exact(Lj _ _).1
 ·rfl
def B9{b:Array Int}{a:Array Nat}(e:laid c m ψ t π b=Z (ο,a)):ο.led=t/\ο.plain=π:=by unfold laid at e;cases d:aaN c b with|none=>rw[d]at e;cases e|some o=>rw[d]at e;cases e;exact⟨rfl,rfl⟩
def yG(t:SetTable)(b:Array (Int×R))(n:Nat)(c:t.plain=D):(X1 t b n).2.1.led=t.led/\(X1 t b n).2.1.plain=D:=by
 unfold X1;split
 · rename_i g a e;obtain⟨f,d⟩:=B9 e;dsimp only;split;·exact⟨f,d.trans c⟩
   ·exact⟨rfl,rfl⟩
 ·exact⟨rfl,rfl⟩
def yH{a:Obj}{v:Array (Int×R)}(p:P.get? e=Z a)(h:a.ExactSet)(k:a.data=.set v c ο){d:Array (Int×R)}{f:SetTable}{g:List Str}(u:f.fits d.size=L)(t:g.length<=60)(s:f.led=(!ú o))(n:f.plain=D)(i:ElemsOf (SM q o) d.toList)(m:∀b∈d.toList,∃x ο,b.2=.str x ο)(r:(d.toList.map λb=>Ż b.2).Perm g):SetS q o (P.update e (Va d f)) e g:=by have j:=Tv (Va d f) p (by rw[X2 d f k];rfl);rw[X2 d f k]at j;exact⟨_,d,c+1,f,j,h,rfl,u,t,s,λ_=>n,i,m,r⟩
def qE{l a:List (Int×R)}(p:a.Perm l)(c:∀e∈l,∃x t,e.2=Ti x t){b:List Str}(d:(l.map λe=>Ż e.2).Perm b):(∀e∈a,∃x t,e.2=Ti x t)/\(a.map λe=>Ż e.2).Perm b:=⟨λe f=>c e (p.mem_iff.mp f),(p.map _).trans d⟩
def Em{f:Array (Int×R)}(g:∀e∈f.toList,∃x t,e.2=.str x t)(h:(f.toList.map λe=>Ż e.2).Perm v):(∃e∈f.toList,(SM q o).is b e.2=L)↔b∈v:=by
 rw[<-h.mem_iff,R7];constructor
 · rintro⟨e,c,a⟩;obtain⟨x,t,d⟩:=g e c;refine⟨e,c,?_⟩;rw[d]at a⊢;have:(x==b)=L:=by simpa[SM,VF]using a
   show x=b;simpa using this
 ·rintro⟨e,c,a⟩;obtain⟨x,t,d⟩:=g e c;refine⟨e,c,?_⟩;rw[d]at a⊢;have:x=b:=a;rw[this];simp[SM,VF]
def Rv{y:Tok}{Q:Bool->g_->Prop}(hS:SetS q o d.heap e v)(hn:v.length<60)(h:∀f h',Uu e d.heap h'->SetS q o h' e (addK v b)->Q f {d with heap:=h'}):t_ (y_ q o) w (Yo e (.str b y) ((SM q o).hash b)) Q ν d:=by
 obtain⟨k,A,ep,t,ho,hex,hd,hf,p',hl,hp,d',hs,hm⟩:=id hS;have H:(SM q o).is b (.str b y)=L:=strKind_is q o b y;have a':(Ti b y).scannable=L:=rfl;have m':A.size=v.length:=by have:=hm.length_eq;simpa using this
 have hb:A.size<scanBound:=by rw[m'];unfold scanBound;omega
 unfold Yo YW;refine SL (c_ (SQ ho hd hf ?_));dsimp only;rw[byScan_of a' hb d',if_pos rfl];unfold setAddByScan;refine c_ (c_ (UG (c_ (wpAny_setScan_of H ho hd hf d' ?_))));have gv:∀(f:Bool){E:g_}{Q':Unit->g_->Prop},Q' () E->t_ (y_ q o) w (match f with|true=>rule "set.scan.the-table-gave-way"|false=>pure ()) Q' ν E:=λf _ _ z=>by
  cases f;·exact j_ z
  ·exact UG z
 cases hr:List.findIdx? (λc=>(SM q o).is b c.2) A.toList with|some j=>
  obtain⟨hj,pj,_⟩:=List.findIdx?_eq_some_iff_getElem.mp hr;have n':b∈v:=(Em (q:=q) (o:=o) hs hm).mp ⟨A.toList[j],Vr hj,pj⟩;dsimp only;refine j_ (j_ ?_);have c:d={d with heap:=d.heap}:=by cases d;rfl
  rw[c];refine h _ d.heap (Heap.SameBut.refl e d.heap) ?_;unfold addK;rw[if_pos n'];exact hS|none=>
  have l':b∉v:=λz=>by obtain⟨c,P,g⟩:=(Em (q:=q) (o:=o) hs hm).mpr z;have:=List.findIdx?_eq_none_iff.mp hr c P;rw[g]at this;cases this
  dsimp only;have n:=layNew_perm t A ((SM q o).hash b) (.str b y);have p:=layNew_fits t A ((SM q o).hash b) (.str b y);have s:=GE t A ((SM q o).hash b) (.str b y);generalize layNew t A ((SM q o).hash b) (.str b y)=i at n p s⊢;obtain⟨m,t1,wd,q'⟩:=i;dsimp only at n p s⊢;rw[WH]at n;have k':ElemsOf (SM q o) m.toList:=(d'.push H a').perm n;have eK:addK v b=b::v:=by unfold addK;rw[if_neg l']
  obtain⟨s1,m1⟩:=qE n (b:=b::v) (λc P=>by
   rcases Sr.mp P with P|P;·exact hs c P
   ·rw[Sf.mp P];exact⟨b,y,rfl⟩) (by rw[UQ];exact(hm.append_right _).trans (VR b v));have z1:m.size=v.length+1:=by have:=m1.length_eq;simpa using this
  have i':m.size<scanBound:=by rw[z1];unfold scanBound;omega
  refine c_ (gv _ ?_);have B:∀r:SetTable,r.fits m.size=L->r.led=(!ú o)->r.plain=D->t_ (y_ q o) w (do
   aaA e m r if(!wd&&r.tooFull)=L then do(match(X1 r m (TY m.size)).2.2 with|true=>rule "set.scan.the-table-gave-way"|false=>pure ())aaA e (X1 r m (TY m.size)).1 (X1 r m (TY m.size)).2.1pure (Z L)else pure (Z L)) (λa s'=>t_ (y_ q o) w (match a with|some e'=>pure e'|none=>YW e (.str b y) ((SM q o).hash b) 99999) Q ν s') ν d:=by
   intro r I l2 p2;refine c_ (Wo ho hd ?_ (fits_of_scanBound i'));have S1:SetS q o (d.heap.update e (Va m r)) e (addK v b):=by rw[eK];exact yH ho hex hd I (by simp;omega) l2 p2 k' s1 m1
   have f':=Ur d.heap e (Va m r);split
   · have u:=relayAll_perm r m (TY m.size);have c':=relayAll_fits r m (TY m.size);obtain⟨q1,q2⟩:=yG r m (TY m.size) p2;generalize X1 r m (TY m.size)=L2 at u c' q1 q2⊢;obtain⟨o',t3,g2⟩:=L2;dsimp only at u c' q1 q2⊢;obtain⟨s2,m2⟩:=qE u s1 m1;have z2:o'.size=m.size:=by rw[<-Sx,u.length_eq,Sx]
     have b':=Tv (Va m r) ho (by rw[X2 m r hd];rfl);rw[X2 m r hd]at b';refine c_ (gv _ (c_ (Wo b' rfl ?_ (fits_of_scanBound (by rw[z2];exact i')))));refine j_ (j_ (h _ _ (f'.trans (Ur _ e _)) ?_));rw[eK];exact yH b' hex rfl c' (by simp;omega) (q1.trans l2) q2 (k'.perm u) s2 m2
   ·exact j_ (j_ (h _ _ f' S1))
  split;·rename_i g';refine c_ ?_;rw[hashByValue_scannable 8 a'];refine j_ ?_;exact B _ (SetTable.fits_plain_off p) (s.trans hl) rfl
  ·rename_i g';refine c_ (j_ ?_);exact B _ p (s.trans hl) (by simpa using g')
def SetS.moved{b:M_}(x:SetS q o P e v)(d:∀a,P.get? e=Z a->b.get? e=Z a):SetS q o b e v:=by obtain⟨a,f,g,t,c,r⟩:=x;exact⟨a,f,g,t,d _ c,r⟩
def Ll{f:XY->g_->Prop}{r:List O}{G:Array Y5->Array Y5->Prop}{P:Nat->R->Prop}{St:Nat->g_->Prop}(W:WalksS q o w.in1 e Ε r G c P St)(S:O)(E:S∉Ε)(g:Nat->Str)(a':∀i v,P i v->∃t,v=.str (g i) t)(hn:c<=59):∀(k i:Nat)(s:g_),c-i=k->i<=c->St i s->SetS q o s.heap S (ddk ((rl i).map g))->(∀j,Moved (S::r) G s j->SetS q o j.heap S (ddk ((rl c).map g))->f (.ok (.ret .none)) j)->Vf (y_ q o) w (.builtin "set.update.loop" ⟨[.ref S,.ref e],[]⟩) f s:=by have B:S∉r:=λh=>E (W.sub _ h);have m:∀b∈r,b∈S::r:=λb y=>m_ _ y;intro k;induction k with
 |zero=>
 intro i s hk hi n hS hR;have f':i=c:=by omega
 subst f';refine Td Vq ?_;rw[TJ TM _];show t_ _ w.in1 (VH (.ref e)>>=_) _ _ s;refine c_ (W.done s _ _ n λj u=>?_);show t_ _ w.in1 (ret F_) _ _ j;exact j_ (hR j (u.mono m) (hS.moved λa ho=>u.heap S _ B ho))|succ k ih=>
 intro i s hk hi n hS hR;have A:i<c:=by omega
 refine Td Vq ?_;rw[TJ TM _];show t_ _ w.in1 (VH (.ref e)>>=_) _ _ s;refine c_ (W.item i s _ _ A n λv j hP b' u=>?_);obtain⟨t,rfl⟩:=a' i v hP;have g':SetS q o j.heap S (ddk ((rl i).map g)):=hS.moved λa ho=>u.heap S _ B ho;show t_ _ w.in1 (VJ [Ti (g i) t] (setAdd S (.str (g i) t))>>=_) _ _ j;refine c_ (SL ?_);unfold setAdd;refine SL ?_;refine c_ ((SM q o).pyHash (strKind_is q o (g i) t) ?_);have p:ddk ((rl (i+1)).map g)=addK (ddk ((rl i).map g)) (g i):=by unfold ddk;rw[W_,UQ,List.foldl_append];rfl
 have i':(ddk ((rl i).map g)).length<=i:=by have:=ddk_le ((rl i).map g);simpa using this
 refine Rv (d:={j with toks:=j.toks+1}) g' (by omega) λbb h' z H=>?_;rw[<-p]at H;refine j_ ⟨WU TM _,ih (i+1) _ (by omega) A (W.frame _ j _ _ b' (by simp) λb y a d=>?_) H λe' c' d'=>?_⟩;·rw[z.2 b (λh:b=S=>E (by rw[<-h];exact y))];exact d
 ·refine hR e' (Moved.trans W.gtrans ((u.mono m).then_heap (by simp) λb a y d=>?_) c') d';rw[z.2 b (λh:b=S=>y (by rw[h];exact o_))];exact d
def uz(a:P.get? e=Z (ic (!ú o))):SetS q o P e []:=⟨_,#[],0,_,a,⟨rfl,rfl,rfl⟩,rfl,rfl,by simp,rfl,λz=>absurd rfl z,λa b=>by simp at b,λa b=>by simp at b,.refl _⟩
def GF{h:Nat->Str}{c:XY->g_->Prop}(hh:w.handled=U)(hl:d.heap.IsList e υ)(hk:∀(i:Nat)(v:R),υ[i]?=Z v->∃z,v=Ti (h i) z)(hn:υ.size<=59)(hR:∀(k:M_)(z:Nat),SetS q o k d.heap.objs.size (ddk ((rl υ.size).map h))->(∀b a,b<d.heap.objs.size->d.heap.get? b=Z a->k.get? b=Z a)->c (.ok (.ret .none)) {d with heap:=k,toks:=z}):Vf (y_ q o) w (.call (.builtin "set.__init__") ⟨[.ref d.heap.objs.size,.ref e],[]⟩) c {d with heap:=d.heap.push (ic (!ú o))}:=by
 have hS:(d.heap.push (ic (!ú o))).get? d.heap.objs.size=Z (ic (!ú o)):=n_ _ rfl;have hT:U_ {d with heap:=d.heap.push (ic (!ú o))} (.ref d.heap.objs.size) "set":=⟨_,hS,rfl⟩;refine WY Sm.init.plain Yc (X5 hT ?_);obtain⟨ol,m,s,nl,r⟩:=hl;obtain⟨e',j,c',g⟩:=ol;simp only at s r;subst s;subst r;have t:(d.heap.push (ic (!ú o))).get? e=Z {cls:=.type "list",dict:=j,data:=.seq υ nl,slots:=g}:=i_ _ m;have s1:=F.sub_list_set;have s2:=Y6;have s3:(p_ "list"==p_ "dict")=D:=by decide
 have p:(d.heap.push (ic (!ú o))).IsList e υ:=⟨_,t,rfl,nl,rfl⟩;unfold Tq.«set.__init__»noKeywords VC;generalize b':Zz=PI;wp_walk;subst b';refine VI p (c_ (Wp ?_));have n:e<d.heap.objs.size:=v_ m;have u:e≠(d.heap.push (ic (!ú o))).objs.size:=by rw[L_];exact D_ (SA n)
 have P:d.heap.objs.size∉[(d.heap.push (ic (!ú o))).objs.size,e]:=by rw[L_];simp only[w_,R6,or_false,not_or];exact⟨D_ (Tf _),Uy n⟩
 refine Ll ((ZA (by simp[hh]) _ e u υ).toS) d.heap.objs.size P h hk hn (υ.size-0) 0 _ (by omega) (Sb _) ⟨⟨_,n_ _ rfl,rfl,rfl⟩,(p.push _)⟩ ?_ ?_;·exact uz (i_ _ hS)
 · intro s' y a';obtain⟨k,g',d',A,B⟩:=s';have eg:g'=d.gens:=y.gens;have ed:d'=d.drawn:=y.drawn;have eo:B=d.os:=y.os;subst eg;subst ed;subst eo;show t_ _ _ _ _ _ _;refine j_ ?_;show t_ _ _ (ret F_) _ _ _;refine j_ (hR k A a' λb a hb f=>?_);have H:b≠d.heap.objs.size:=D_ hb;have E:b≠(d.heap.push (ic (!ú o))).objs.size:=by rw[L_];exact D_ (SA hb)
   exact y.heap b a (by simp only[w_,R6,or_false,not_or];exact⟨H,E⟩) (i_ _ (i_ _ f))
def call_set_L2{p:Nat->Str}(hh:w.handled=U)(hl:d.heap.IsList e υ)(hk:∀(i:Nat)(v:R),υ[i]?=Z v->∃k,v=Ti (p i) k)(hn:υ.size<=59)(h:∀(j:M_)(k:Nat),SetS q o j d.heap.objs.size (ddk ((rl υ.size).map p))->(∀b a,b<d.heap.objs.size->d.heap.get? b=Z a->j.get? b=Z a)->Â (.ref d.heap.objs.size) {d with heap:=j,toks:=k}):t_ (y_ q o) w (call (.type "set") [.ref e]) Â ν d:=by
 obtain⟨c,tl,H⟩:=Sm.mro;have B:=Sm.made;have E:=Sm.sub;refine WP (W6 ?_);show t_ _ _ (callAny (.type "set") _) _ _ _;refine j_ ⟨Wb _ (by decide+kernel),Td XM ?_⟩;rw[XB (WJ "set" [.ref e] []) rfl];have h1:=Sm.notType;have h2:=Sm.canCreate;have b':=X8 (.ref e);repeat(any_goals(first|assumption|wp_step))
 refine TX (sM (.ref e) (ν:=ν) (c:=λt n=>t=.ref d.heap.objs.size/\n={d with heap:=d.heap.push (ic (!ú o))}) ⟨rfl,rfl⟩) λr n y=>?_;cases r with|error f=>exact y|ok fl=>cases fl with
 |ret t=>
  obtain⟨rfl,rfl⟩:=y;have hT:U_ {d with heap:=d.heap.push (ic (!ú o))} (.ref d.heap.objs.size) "set":=⟨_,n_ _ rfl,rfl⟩;have a':=Sm.init.lookup;have c':=Sm.init.bind (.ref d.heap.objs.size);repeat(any_goals(first|assumption|wp_step))
  refine TX (GF (c:=wants (λr m=>r=.none/\∃j k,m={d with heap:=j,toks:=k}/\SetS q o j d.heap.objs.size (ddk ((rl υ.size).map p))/\(∀b a,b<d.heap.objs.size->d.heap.get? b=Z a->j.get? b=Z a)) ν) (by simp[hh]) hl hk hn λj k q1 P=>⟨rfl,j,k,rfl,q1,P⟩) λu m g=>?_;cases u with|error f=>exact g|ok s=>cases s with
  |ret r=>
  obtain⟨rfl,j,k,rfl,A,z⟩:=g;repeat(any_goals(first|assumption|wp_step))
  exact h _ _ A z|_=>exact g.elim
 |_=>exact y.elim
def GG{h:Nat->Str}{c:XY->g_->Prop}(hh:w.handled=U)(hl:d.heap.IsTuple e υ)(hk:∀(i:Nat)(v:R),υ[i]?=Z v->∃z,v=Ti (h i) z)(hn:υ.size<=59)(hR:∀(k:M_)(z:Nat),SetS q o k d.heap.objs.size (ddk ((rl υ.size).map h))->(∀b a,b<d.heap.objs.size->d.heap.get? b=Z a->k.get? b=Z a)->c (.ok (.ret .none)) {d with heap:=k,toks:=z}):Vf (y_ q o) w (.call (.builtin "set.__init__") ⟨[.ref d.heap.objs.size,.ref e],[]⟩) c {d with heap:=d.heap.push (ic (!ú o))}:=by
 have hS:(d.heap.push (ic (!ú o))).get? d.heap.objs.size=Z (ic (!ú o)):=n_ _ rfl;have hT:U_ {d with heap:=d.heap.push (ic (!ú o))} (.ref d.heap.objs.size) "set":=⟨_,hS,rfl⟩;refine WY Sm.init.plain Yc (X5 hT ?_);obtain⟨ol,m,s,nl,r⟩:=hl;obtain⟨e',j,c',g⟩:=ol;simp only at s r;subst s;subst r;have t:(d.heap.push (ic (!ú o))).get? e=Z {cls:=.type "tuple",dict:=j,data:=.seq υ nl,slots:=g}:=i_ _ m;have s1:=F.sub_tuple_set;have s2:=F.sub_tuple_frozenset;have s3:(p_ "tuple"==p_ "dict")=D:=by decide
 have p:(d.heap.push (ic (!ú o))).IsTuple e υ:=⟨_,t,rfl,nl,rfl⟩;unfold Tq.«set.__init__»noKeywords VC;generalize b':Zz=PI;wp_walk;subst b';refine V9 p (c_ (Wp ?_));have n:e<d.heap.objs.size:=v_ m;have u:e≠(d.heap.push (ic (!ú o))).objs.size:=by rw[L_];exact D_ (SA n)
 have P:d.heap.objs.size∉[(d.heap.push (ic (!ú o))).objs.size,e]:=by rw[L_];simp only[w_,R6,or_false,not_or];exact⟨D_ (Tf _),Uy n⟩
 refine Ll ((Walks.tuple (by simp[hh]) _ e u υ).toS) d.heap.objs.size P h hk hn (υ.size-0) 0 _ (by omega) (Sb _) ⟨⟨_,n_ _ rfl,rfl,rfl⟩,(p.push _)⟩ ?_ ?_;·exact uz (i_ _ hS)
 · intro s' y a';obtain⟨k,g',d',A,B⟩:=s';have eg:g'=d.gens:=y.gens;have ed:d'=d.drawn:=y.drawn;have eo:B=d.os:=y.os;subst eg;subst ed;subst eo;show t_ _ _ _ _ _ _;refine j_ ?_;show t_ _ _ (ret F_) _ _ _;refine j_ (hR k A a' λb a hb f=>?_);have H:b≠d.heap.objs.size:=D_ hb;have E:b≠(d.heap.push (ic (!ú o))).objs.size:=by rw[L_];exact D_ (SA hb)
   exact y.heap b a (by simp only[w_,R6,or_false,not_or];exact⟨H,E⟩) (i_ _ (i_ _ f))
def call_set_T2{p:Nat->Str}(hh:w.handled=U)(hl:d.heap.IsTuple e υ)(hk:∀(i:Nat)(v:R),υ[i]?=Z v->∃k,v=Ti (p i) k)(hn:υ.size<=59)(h:∀(j:M_)(k:Nat),SetS q o j d.heap.objs.size (ddk ((rl υ.size).map p))->(∀b a,b<d.heap.objs.size->d.heap.get? b=Z a->j.get? b=Z a)->Â (.ref d.heap.objs.size) {d with heap:=j,toks:=k}):t_ (y_ q o) w (call (.type "set") [.ref e]) Â ν d:=by
 obtain⟨c,tl,H⟩:=Sm.mro;have B:=Sm.made;have E:=Sm.sub;refine WP (W6 ?_);show t_ _ _ (callAny (.type "set") _) _ _ _;refine j_ ⟨Wb _ (by decide+kernel),Td XM ?_⟩;rw[XB (WJ "set" [.ref e] []) rfl];have h1:=Sm.notType;have h2:=Sm.canCreate;have b':=X8 (.ref e);repeat(any_goals(first|assumption|wp_step))
 refine TX (sM (.ref e) (ν:=ν) (c:=λt n=>t=.ref d.heap.objs.size/\n={d with heap:=d.heap.push (ic (!ú o))}) ⟨rfl,rfl⟩) λr n y=>?_;cases r with|error f=>exact y|ok fl=>cases fl with
 |ret t=>
  obtain⟨rfl,rfl⟩:=y;have hT:U_ {d with heap:=d.heap.push (ic (!ú o))} (.ref d.heap.objs.size) "set":=⟨_,n_ _ rfl,rfl⟩;have a':=Sm.init.lookup;have c':=Sm.init.bind (.ref d.heap.objs.size);repeat(any_goals(first|assumption|wp_step))
  refine TX (GG (c:=wants (λr m=>r=.none/\∃j k,m={d with heap:=j,toks:=k}/\SetS q o j d.heap.objs.size (ddk ((rl υ.size).map p))/\(∀b a,b<d.heap.objs.size->d.heap.get? b=Z a->j.get? b=Z a)) ν) (by simp[hh]) hl hk hn λj k q1 P=>⟨rfl,j,k,rfl,q1,P⟩) λu m g=>?_;cases u with|error f=>exact g|ok s=>cases s with
  |ret r=>
  obtain⟨rfl,j,k,rfl,A,z⟩:=g;repeat(any_goals(first|assumption|wp_step))
  exact h _ _ A z|_=>exact g.elim
 |_=>exact y.elim
def ý:Slot "set_iterator" "__next__" "set_iterator.__next__":=.of (n:="__next__") (owner:="set_iterator") (by rw[typeLookup_type,YM];lk) (by decide+kernel) (by decide+kernel) (by decide+kernel) (by first|exact .inl (by decide+kernel)|exact .inr (by decide+kernel)) (by rw[YY];lk)
def uA:entryFor table "set_iterator.__next__"=Z Tq.«set_iterator.__next__»:=entryFor_of_tree (by lk)
def uC(a:R):argsOk "set_iterator.__next__" ⟨[a],[]⟩:=by unfold argsOk;lk
def O9:entryFor table "set.__iter__"=Z Tq.«frozenset.__iter__»:=entryFor_alias (id':="frozenset.__iter__") (by lk) rfl (by decide+kernel) (by lk)
def j9{a:Type}:∀(l:List a)(i:Nat)(h:i<l.length),(l[i]::l.eraseIdx i).Perm l|x::l,0,_=>.refl _|x::l,i+1,h=>by have b:=j9 l i (by simpa using h);exact(Zb ..).trans (b.cons x)
def qF{c:Type}(a:Nat->Nat):∀(n k:Nat)(left:List c)(out:Array c),left.length=n->(ZI a n k left out).toList.Perm (out.toList++left)|0,k,left,out,h=>by have:left=[]:=TN.mp h;subst this;unfold ZI;simp|n+1,k,left,out,h=>by unfold ZI;have b:a k%left.length<left.length:=Wc _ (by omega);rw[s_ b];dsimp only;refine(qF a n (k+1) _ _ (by rw[XD b];omega)).trans ?_;rw[WH,WF];exact List.Perm.append_left _ (j9 _ _ b)
def yI{b:Source}{Q:Nat->g_->Prop}(e:c≠0)(h:∀i a,i<c->Q i {d with drawn:=a}):t_ (y_ q o) w (choose b c) Q ν d:=λ_ _ _=>⟨e,h _ _ (Wc _ (Nat.pos_of_ne_zero e))⟩
def yJ{c:on}{w:z_}{A:x_}{E:R->g_->Prop}{j:Type}:∀(n:Nat)(a:List j)(s:g_)(Q:List j->g_->Prop),a.length=n->(∀f d,f.Perm a->Q f {s with drawn:=d})->t_ (y_ c w) A (drawOrder n a) Q E s
 |0,a,s,Q,b,h=>by
  have:a=[]:=TN.mp b;subst this;unfold drawOrder;have e:s={s with drawn:=s.drawn}:=by cases s;rfl
  refine j_ ?_;rw[e];exact h [] s.drawn (.refl _)|n+1,[],s,Q,b,h=>by simp at b|n+1,x::a,s,Q,b,h=>by unfold drawOrder;refine c_ (yI (by simp) λi d g=>?_);rw[s_ g];dsimp only;refine c_ (yJ n ((x::a).eraseIdx i) _ _ (by rw[XD g];simp at b⊢;omega) λf m k=>?_);refine j_ (h _ m ?_);exact(k.cons _).trans (j9 _ _ g)
structure Rd(w:z_)(h:M_)(S:O)(es:Array (Int×R))(ep:Nat)(t:SetTable):Prop where
 o:∃o,h.get? S=Z o/\o.ExactSet/\o.data=.set es ep t
 f:t.fits es.size=L
 l:t.led=(!ú w)p:es.size≠0->t.plain=D
def Rd.moved{b:M_}{d:Array (Int×R)}(r:Rd o P e d c ο)(k:∀a,P.get? e=Z a->b.get? e=Z a):Rd o b e d c ο:=by obtain⟨⟨a,g,f⟩,j,i,h⟩:=r;exact⟨⟨a,k _ g,f⟩,j,i,h⟩
abbrev ŋ(a:R)(i:Nat)(S:O)(n b:Nat):Obj:={cls:=.type "set_iterator",dict:=U,data:=.fields #[a,TH i,.ref S,TH n,TH b],slots:=#[]}
def uD(f:R)(i:Nat)(S:O)(n a:Nat):ŋ f (i+1) S n a={cls:=.type "set_iterator",dict:=U,data:=.fields #[f,.int ((i:Int)+1) 0,.ref S,.int n 0,.int a 0],slots:=#[]}:=by simp[TH]
def Cb{i:Array (Int×R)}{Q:Option R->g_->Prop}(a:Rd o d.heap r i c ο)(g:d.heap.get? e=Z (ŋ (TH ψ) m r i.size c)){x:R}{k:Nat}(t:∀(b:Option (R×Nat)->g_->Prop)(A:R->g_->Prop),b (Z (x,k)) d->t_ (y_ q o) w.in1 (Yn r ψ m c) b A d)(s:∀h,h.get? e=Z (ŋ (TH k) (m+1) r i.size c)->Uu e d.heap h->Q (Z x) {d with heap:=h}):t_ (y_ q o) w (VH (.ref e)) Q ν d:=by have j:d.TypeIs (.ref e) "set_iterator":=⟨_,g,rfl⟩;obtain⟨f,n,hex,p⟩:=a.o;unfold VH;refine c_ (UB (Sz (name:=b_ "__next__") j ý (SY ý j uA ?_ (uC _))));unfold Tq.«set_iterator.__next__»;refine c_ (m:=aaB _ _ _) (UV (a:=(B_ e,[])) (by rfl) ?_);refine c_ (Xp g rfl ?_);dsimp only[TH,WI];refine c_ (Vd n p a.f ?_);rw[if_neg (by simp)];refine c_ (m:=pure _) (j_ ?_);dsimp only;refine c_ (t _ _ ?_);dsimp only;refine c_ (S5 g (by simp) λE v z=>?_);refine c_ (S5 v (by simp) λB u y=>?_);exact j_ ⟨x,rfl,j_ (s _ (by rw[uD];simpa[TH]using u) (z.trans y))⟩
def qG{j:Array (Int×R)}{Q:Option R->g_->Prop}(n:w.handled=U)(a:Rd o d.heap r j c ο)(g:d.heap.get? e=Z (ŋ (TH ψ) m r j.size c))(t:∀(b:Option (R×Nat)->g_->Prop)(v:R->g_->Prop),b U d->t_ (y_ q o) w.in1 (Yn r ψ m c) b v d)(s:∀i,aap e d.heap i->Q U {d with heap:=i}):t_ (y_ q o) w (VH (.ref e)) Q ν d:=by have h:d.TypeIs (.ref e) "set_iterator":=⟨_,g,rfl⟩;obtain⟨f,k,hex,p⟩:=a.o;unfold VH;refine c_ (UB (Sz (name:=b_ "__next__") h ý (SY ý h uA ?_ (uC _))));unfold Tq.«set_iterator.__next__»;refine c_ (m:=aaB _ _ _) (UV (a:=(B_ e,[])) (by rfl) ?_);refine c_ (Xp g rfl ?_);dsimp only[TH,WI];refine c_ (Vd k p a.f ?_);rw[if_neg (by simp)];refine c_ (m:=pure _) (j_ ?_);dsimp only;refine c_ (t _ _ ?_);dsimp only;refine c_ (S5 g (by simp) λy z u=>?_);refine c_ ?_;simp only[newExc,aaC];refine c_ (Sv ?_ (by size_fits));refine c_ (m:=VP _ _) (UV (a:=F_) (by first|rfl|(simp only[VP];rfl)) ?_);refine Sv ?_ (by size_fits);simp only[raiseNew];refine c_ (Zr ?_);rw[show w.in1.handled=U from n];refine c_ (j_ (aaj ?_));refine c_ (WN (T:="StopIteration") (b:=L) ⟨_,n_ _ rfl,rfl⟩ YZ ?_);exact j_ (s _ ((u.extBut.push _).push _))
def Cc{f:Array (Int×R)}{Q:Option R->g_->Prop}(a:Rd o d.heap r f c ο)(g:d.heap.get? e=Z (ŋ (.ref χ) m r f.size c))(v:d.heap.IsTuple χ υ){k:Nat}{z:Int}{x:R}(t:υ[m]?=Z (TH k))(u:f[k]?=Z (z,x))(y:∀h,h.get? e=Z (ŋ (.ref χ) (m+1) r f.size c)->Uu e d.heap h->Q (Z x) {d with heap:=h}):t_ (y_ q o) w (VH (.ref e)) Q ν d:=by have n:d.TypeIs (.ref e) "set_iterator":=⟨_,g,rfl⟩;obtain⟨b,p,hex,s⟩:=a.o;obtain⟨E,i,_,H,j⟩:=v;unfold VH;refine c_ (UB (Sz (name:=b_ "__next__") n ý (SY ý n uA ?_ (uC _))));unfold Tq.«set_iterator.__next__»;refine c_ (m:=aaB _ _ _) (UV (a:=(B_ e,[])) (by rfl) ?_);refine c_ (Xp g rfl ?_);dsimp only[TH,WI];refine c_ (Vd p s a.f ?_);rw[if_neg (by simp)];refine c_ (m:=pure _) (j_ ?_);dsimp only;refine c_ (Tw i j ?_);dsimp only;rw[VN,t];dsimp only[TH];refine c_ ?_;unfold setNextDrawn;refine c_ (SQ p s a.f ?_);dsimp only;rw[if_neg (by simp)];refine c_ (m:=pure _) (j_ ?_);rw[VN,u];dsimp only;refine j_ ?_;refine c_ (S5 g (by simp) λP A B=>?_);exact j_ ⟨x,rfl,j_ (y _ (by rw[uD];simpa[TH]using A) B)⟩
def qH{k:Array (Int×R)}{Q:Option R->g_->Prop}(s:w.handled=U)(a:Rd o d.heap r k c ο)(f:d.heap.get? e=Z (ŋ (.ref χ) m r k.size c))(u:d.heap.IsTuple χ υ)(n:υ[m]?=U)(v:∀j,aap e d.heap j->Q U {d with heap:=j}):t_ (y_ q o) w (VH (.ref e)) Q ν d:=by have i:d.TypeIs (.ref e) "set_iterator":=⟨_,f,rfl⟩;obtain⟨b,p,hex,t⟩:=a.o;obtain⟨B,g,_,E,h⟩:=u;unfold VH;refine c_ (UB (Sz (name:=b_ "__next__") i ý (SY ý i uA ?_ (uC _))));unfold Tq.«set_iterator.__next__»;refine c_ (m:=aaB _ _ _) (UV (a:=(B_ e,[])) (by rfl) ?_);refine c_ (Xp f rfl ?_);dsimp only[TH,WI];refine c_ (Vd p t a.f ?_);rw[if_neg (by simp)];refine c_ (m:=pure _) (j_ ?_);dsimp only;refine c_ (Tw g h ?_);dsimp only;rw[VN,n];dsimp only;refine c_ (S5 f (by simp) λP y A=>?_);refine c_ (S5 y (by simp) λH g2 z=>?_);refine c_ ?_;simp only[newExc,aaC];refine c_ (Sv ?_ (by size_fits));refine c_ (m:=VP _ _) (UV (a:=F_) (by first|rfl|(simp only[VP];rfl)) ?_);refine Sv ?_ (by size_fits);simp only[raiseNew];refine c_ (Zr ?_);rw[show w.in1.handled=U from s];refine c_ (j_ (aaj ?_));refine c_ (WN (T:="StopIteration") (b:=L) ⟨_,n_ _ rfl,rfl⟩ YZ ?_);exact j_ (v _ (((A.trans z).extBut.push _).push _))
def Eo{j:Array (Int×R)}{a:Option (R×Nat)->g_->Prop}(r:Rd o d.heap e j c ο)(i:ú o=L)(k:a (((Xm (o.params.setOrder e c) j)[m]?).map λb=>(b.2,ψ)) d):t_ (y_ q o) w (Yn e ψ m c) a ν d:=by obtain⟨f,g,hex,h⟩:=r.o;unfold Yn Zy setWalk Zy;refine c_ (SQ g h r.f ?_);dsimp only;refine c_ (c_ (Vi (j_ ?_)));dsimp only;rw[if_pos (show(y_ q o).w.params.followText "set-order"=L from i),if_neg (by simp)];refine c_ (c_ (SQ g h r.f ?_));dsimp only;refine c_ (c_ (Vi (j_ ?_)));dsimp only;rw[if_pos (show(y_ q o).w.params.followText "set-order"=L from i)];refine c_ (Vi (j_ ?_));exact j_ k
def Ep{f:Array (Int×R)}{a:Option (R×Nat)->g_->Prop}(r:Rd o d.heap e f c ο)(h:ú o=D)(t:f.size<=1)(s:a (match f[SetTable.below ο.place ψ]?,ο.place[SetTable.below ο.place ψ]? with|some (_,x),Z j=>Z (x,j+1)|_,_=>U) d):t_ (y_ q o) w (Yn e ψ m c) a ν d:=by
 obtain⟨b,i,hex,n⟩:=r.o;have k:ο.led=L:=by rw[r.l,h];rfl
 unfold Yn Zy;refine c_ (SQ i n r.f ?_);dsimp only;refine c_ (c_ (Vi (j_ ?_)));dsimp only;rw[if_neg (show¬((y_ q o).w.params.followText "set-order"=L)from by rw[show(y_ q o).w.params.followText "set-order"=D from h];simp)];split;·rename_i p;have g:(!ο.plain&&uk (f.size>1))=L:=p;simp at g;omega
 ·refine c_ (UV (a:=()) ?_ (j_ s));show(if(!ο.led&&!f.isEmpty)=L then _ else pure ())=pure ();rw[k];rfl
def Er:Slot "set_iterator" "__iter__" "set_iterator.__iter__":=.of (n:="__iter__") (owner:="set_iterator") (by rw[typeLookup_type,YM];lk) (by decide+kernel) (by decide+kernel) (by decide+kernel) (by first|exact .inl (by decide+kernel)|exact .inr (by decide+kernel)) (by rw[YY];lk)
def Lm:entryFor table "set_iterator.__iter__"=Z Tq.«dict_keyiterator.__iter__»:=entryFor_alias (id':="dict_keyiterator.__iter__") (by lk) (by first|rfl|decide+kernel|(unfold String.splitOn;simp+decide[String.splitOnAux])) (by decide+kernel) (by lk)
def Ln(a:R):argsOk "set_iterator.__iter__" ⟨[a],[]⟩:=by unfold argsOk;lk
def yK{b:Array z}(h:b.size=1):∃a,b=#[a]:=by obtain⟨l⟩:=b;match l,h with|[a],_=>exact⟨a,rfl⟩
def qI(a:d.TypeIs (.ref e) "set_iterator")(h:Â (.ref e) d):t_ (y_ q o) w (Zz (.ref e)) Â ν d:=by refine wpAny_pyIter_slot a Er (SY Er a Lm ?_ (Ln _));show t_ _ _ (ret (.ref e)) _ _ d;exact j_ ⟨_,rfl,"set_iterator",_,a,ý.lookup,h⟩
def qJ(P:w.handled=U)(I S:O)(y:S≠I)(p:Array (Int×R))(k:Nat)(t:SetTable)(d:List R)(m:Nat->Nat)(hl:d.length=p.size)(hN:∀(i:Nat)(v:R)(s:g_)(a:Option (R×Nat)->g_->Prop)(f:R->g_->Prop),Rd o s.heap S p k t->d[i]?=Z v->a (Z (v,m (i+1))) s->t_ (y_ q o) w.in1 (Yn S (m i) i k) a f s)(hE:∀(s:g_)(a:Option (R×Nat)->g_->Prop)(f:R->g_->Prop),Rd o s.heap S p k t->a U s->t_ (y_ q o) w.in1 (Yn S (m d.length) d.length k) a f s):Walks q o w I [I,S] [I] d.length (λi v=>d[i]?=Z v) (λi h=>h.get? I=Z (ŋ (TH (m i)) i S p.size k)/\Rd o h S p k t)where
 sub:=λb j=>by simp at j;simp[j]
 frame:=λ_ _ _ st B=>⟨B I (by simp) _ st.1,st.2.moved λc e=>B S (by simp) c e⟩;item:=λi s Q E H st n=>by
  have A:d[i]?=Z d[i]:=by simp[H]
  refine Cb st.2 st.1 (x:=d[i]) (k:=m (i+1)) (λa f r=>hN i _ s a f st.2 A r) λu g b=>?_;exact n _ u s.toks A ⟨g,st.2.moved λc e=>b.extBut S c y e⟩ λb' c j e=>b.extBut b' c (λh=>j (by simp[h])) e
 done:=λs Q E st n=>qG P st.2 st.1 (λa f r=>hE s a f st.2 r) λu z=>n u s.toks λb c j e=>z b c (λh=>j (by simp[h])) e;self:=λ_ _ _ _ st n=>qI ⟨_,st.1,rfl⟩ n
def yL(hh:w.handled=U)(I S T:O)(u:S≠I)(hT:T≠I)(r:Array (Int×R))(B:Nat)(t:SetTable)(c:List Nat)(d:List R)(H:d.length=c.length)(j:∀(i:Nat)(k:Nat)(v:R),c[i]?=Z k->d[i]?=Z v->∃n,r[k]?=Z (n,v)):Walks q o w I [I,S,T] [I] d.length (λi v=>d[i]?=Z v) (λi h=>h.get? I=Z (ŋ (.ref T) i S r.size B)/\Rd o h S r B t/\h.IsTuple T (c.map λ(i:Nat)=>TH i).toArray)where
 sub:=λb f=>by simp at f;simp[f]
 frame:=λ_ _ _ st j=>⟨j I (by simp) _ st.1,st.2.1.moved λa e=>j S (by simp) a e,st.2.2.at λa e=>j T (by simp) a e⟩;item:=λi s Q E P st m=>by
  have A:d[i]?=Z d[i]:=by simp[P]
  have y:c[i]?=Z (c[i]'(by omega)):=by simp[show i<c.length by omega]
  obtain⟨n,e0⟩:=j i _ _ y A;refine Cc st.2.1 st.1 st.2.2 (x:=d[i]) (k:=c[i]'(by omega)) (z:=n) (by simp[show i<c.length by omega]) e0 λp g b=>?_;exact m _ p s.toks A ⟨g,st.2.1.moved λa e=>b.extBut S a u e,st.2.2.extBut b.extBut hT⟩ λb' a f e=>b.extBut b' a (λh=>f (by simp[h])) e
 done:=λs Q E st m=>qH hh st.2.1 st.1 st.2.2 (by simp[H]) λp z=>m p s.toks λb a f e=>z b a (λh=>f (by simp[h])) e;self:=λ_ _ _ _ st m=>qI ⟨_,st.1,rfl⟩ m
structure Wk(prog:on)(w:z_)(S I:O)(h:M_)(h':M_)(es:Array (Int×R))(vs:List R)(fp:List O)(St:Nat->M_->Prop):Prop where
 W:∀A:x_,A.handled=U->Walks prog w A I fp [I] vs.length (λi v=>vs[i]?=Z v) St
 st:St 0 h'
 pm:vs.Perm (es.toList.map (·.2))up:∀b o,h.get? b=Z o->h'.get? b=Z o
 nw:h.objs.size<=I
 fp:∀b∈fp,(b=S\/h.objs.size<=b)/\b<h'.objs.size
def Cd{s:Array (Int×R)}(r:Rd o d.heap e s c ο)(i':s.size<=60)(hQ:∀(I:O)(B:M_)(g:Drawn)(E:List R)(fp:List O)(St:Nat->M_->Prop),Wk q o e I d.heap B s E fp St->Â (.ref I) {d with heap:=B,drawn:=g}):t_ (y_ q o) w (Zz (.ref e)) Â ν d:=by
 obtain⟨n,ho,hex,hd⟩:=id r.o;have hT:d.TypeIs (.ref e) "set":=⟨n,ho,hex.1⟩;have hS:e<d.heap.objs.size:=v_ ho;have b':ο.place.size=s.size:=by have:=r.f;unfold aaW at this;simp at this;exact this.1
 refine wpAny_pyIter_slot hT F.slot_set_iter (SY F.slot_set_iter hT O9 ?_ (F.args_set_iter_1 _));unfold Tq.«frozenset.__iter__»;refine c_ (m:=aa1 _ _) (UV (a:=e) (by rfl) ?_);refine c_ ?_;unfold aaY;refine c_ (Vd ho hd r.f (j_ ?_));refine c_ ?_;unfold setDrawn Zy;refine c_ (SQ ho hd r.f ?_);dsimp only;refine c_ (c_ (Vi (j_ (j_ ?_))));dsimp only;split
 · rename_i hc;have u:(!ú o&&(!ο.plain&&uk (s.size>1)))=L:=hc;simp at u;refine c_ (yJ _ _ _ _ (by simp) λks g hp=>?_);have z:ks.length<=sizeLine:=by
    have h1:=hp.length_eq;rw[U7]at h1;have:sizeLine=16777216:=by decide
    omega
   unfold aaC;refine c_ (Sv ?_ (by simpa[sizeOk]using z));have f':(d.heap.push {cls:=.type "tuple",data:=.seq (ks.map λ(i:Nat)=>TH i).toArray}).get? e=Z n:=i_ _ ho;refine c_ ?_;unfold setEpoch;refine c_ (SQ f' hd r.f (j_ ?_));refine c_ (Sv (j_ ⟨_,rfl,"set_iterator",_,⟨_,n_ _ rfl,rfl⟩,ý.lookup,?_⟩));have g':∀k∈ks,k<s.size:=λk hk=>by simpa using hp.mem_iff.mp hk
   refine hQ _ _ g (ks.map λk=>(s.toList.map (·.2)).getD k .none) [(d.heap.push {cls:=.type "tuple",data:=.seq (ks.map λ(i:Nat)=>TH i).toArray}).objs.size,e,d.heap.objs.size] _ ⟨λA' B=>yL B _ e d.heap.objs.size (by rw[L_];exact D_ (SA hS)) (by rw[L_];exact D_ (Tf _)) s c ο ks _ (by simp) (λi k v y e2=>?_),⟨n_ _ rfl,r.moved (λo' f=>i_ _ (i_ _ f)),?_⟩,?_,λb o' f=>i_ _ (i_ _ f),by rw[L_];exact Wj _,?_⟩;·have hk:=g' k (Sg y);simp[y]at e2;refine⟨s[k].1,?_⟩;rw[<-e2];simp[hk]
   ·exact⟨_,i_ _ (n_ _ rfl),rfl,0,rfl⟩
   ·have f:(rl s.size).map (λk=>(s.toList.map (·.2)).getD k .none)=s.toList.map (·.2):=FD.range_getD _ _ _ (by simp);exact(hp.map _).trans (by rw[f])
   · intro b t;rw[L_,L_];rw[L_]at t;simp only[w_,R6,or_false]at t;rcases t with t|t|t;·subst t;exact⟨.inr (Wj _),Tf _⟩
     ·subst t;exact⟨.inl rfl,SA (SA hS)⟩
     ·subst t;exact⟨.inr (r_ _),SA (Tf _)⟩
 · rename_i hc;have u:¬((!ú o&&(!ο.plain&&uk (s.size>1)))=L):=hc;refine c_ (j_ ?_);refine c_ ?_;unfold setEpoch;refine c_ (SQ ho hd r.f (j_ ?_));refine c_ (Sv (j_ ⟨_,rfl,"set_iterator",_,⟨_,n_ _ rfl,rfl⟩,ý.lookup,?_⟩));have d':∀(E:List R)(sl:Nat->Nat),sl 0=0->E.Perm (s.toList.map (·.2))->(∀w:x_,w.handled=U->Walks q o w d.heap.objs.size [d.heap.objs.size,e] [d.heap.objs.size] E.length (λi v=>E[i]?=Z v) (λi h=>h.get? d.heap.objs.size=Z (ŋ (TH (sl i)) i e s.size c)/\Rd o h e s c ο))->Â (.ref d.heap.objs.size) {d with heap:=d.heap.push (ŋ (TH 0) 0 e s.size c)}:=by
    intro E sl h0 hp hW;have f:({d with heap:=d.heap.push (ŋ (TH 0) 0 e s.size c)}:g_)={d with heap:=d.heap.push (ŋ (TH 0) 0 e s.size c),drawn:=d.drawn}:=rfl;rw[f];refine hQ _ _ d.drawn E _ _ ⟨hW,⟨by rw[h0];exact n_ _ rfl,r.moved (λo' f=>i_ _ f)⟩,hp,λb o' f=>i_ _ f,r_ _,λb t=>?_⟩;rw[L_];simp only[w_,R6,or_false]at t;rcases t with t|t;·subst t;exact⟨.inr (r_ _),Tf _⟩
    ·subst t;exact⟨.inl rfl,SA hS⟩
   by_cases t:ú o=L
   · have c':(Xm (o.params.setOrder e c) s).toList.Perm s.toList:=by have:=qF (o.params.setOrder e c) s.size 0 s.toList #[] (by simp);simpa[Xm]using this
     have e':(Xm (o.params.setOrder e c) s).size=s.size:=by simpa using c'.length_eq
     refine d' ((Xm (o.params.setOrder e c) s).toList.map (·.2)) (λ_=>0) rfl (c'.map _) λA' B=>qJ B _ e (D_ hS) s c ο _ _ (by simp[e']) (λi v s1 m E' H y A=>Eo H t ?_) (λs1 m E' H A=>Eo H t ?_);·simp at y;obtain⟨a,y⟩:=y;rw[y];exact A
     ·rw[show(Xm (o.params.setOrder e c) s)[(List.map (·.2) (Xm (o.params.setOrder e c) s).toList).length]?=U by simp];exact A
   · have a':ú o=D:=by simpa using t
     have P:s.size<=1:=by
      rw[a']at u;by_cases z:s.size=0;·omega
      ·rw[r.p z]at u;simp at u;exact u
     refine d' (s.toList.map (·.2)) (λi=>if i=0 then 0 else ο.place.getD 0 0+1) rfl (.refl _) λA' B=>qJ B _ e (D_ hS) s c ο _ _ (by simp) (λi v s1 m E' H y A=>Ep H a' P ?_) (λs1 m E' H A=>Ep H a' P ?_)
     · have hi:i=0:=by have:=xy.mp y;obtain⟨p,_⟩:=this;simp at p;omega
       subst hi;obtain⟨a,ea⟩:∃a,s=#[a]:=by obtain⟨l⟩:=s;have:=(xy.mp y).1;match l,this,P with|[a],_,_=>exact⟨a,rfl⟩|_::_::_,_,h=>simp at h
       subst ea;obtain⟨j,ej⟩:∃j,ο.place=#[j]:=yK b';simp at y;subst y;rw[ej]at A⊢;simpa[below,ZR]using A
     · by_cases z:s.size=0;·have e0:s=#[]:=Array.eq_empty_of_size_eq_zero z;subst e0;simpa using A
       ·obtain⟨a,ea⟩:=yK (b:=s) (by omega:s.size=1);subst ea;obtain⟨j,ej⟩:∃j,ο.place=#[j]:=yK b';rw[ej];simpa[below,ZR]using A
def sN{es:Array (Int×R)}{Q:List R->g_->Prop}(hh:w.handled=U)(r:Rd o d.heap e es c ο)(b':es.size<=60)(hQ:∀(m:M_)(g:Drawn)(tk:Nat)(p:List R),p.Perm (es.toList.map (·.2))->d.heap.objs.size<m.objs.size->(∀b f,d.heap.get? b=Z f->m.get? b=Z f)->Q p {d with heap:=m,drawn:=g,toks:=tk}):t_ (y_ q o) w (Zf (.ref e)) Q ν d:=by
 obtain⟨f,ho,hex,hd⟩:=id r.o;have hS:e<d.heap.objs.size:=v_ ho;unfold Zf;refine c_ (Wp (Td F.entry_proto_collect ?_));rw[TJ F.plain_proto_collect _];show t_ _ w.in1 (ZK []>>=λl=>N' (.builtin "list.__iadd__" ⟨[l,.ref e],[]⟩)) _ _ d;refine c_ (Sv ?_);refine j_ ⟨WU F.plain_list_iadd _,Td F.entry_list_iadd ?_⟩;rw[TJ F.plain_list_iadd _];show t_ _ w.in1 (Uw (.ref d.heap.objs.size) (.ref e) (.ref d.heap.objs.size)) _ _ _;unfold Uw;generalize hH:d.heap.push {cls:=.type "list",data:=.seq ([]:List R).toArray}=H;have a':H.objs.size=d.heap.objs.size+1:=by rw[<-hH,L_]
 have n:∀b k,d.heap.get? b=Z k->H.get? b=Z k:=λb k a=>hH▸i_ _ a;have hL:H.get? d.heap.objs.size=Z {cls:=.type "list",data:=.seq ([]:List R).toArray}:=hH▸n_ _ rfl;have ty:U_ {d with heap:=H} (.ref e) "set":=⟨f,n _ _ ho,hex.1⟩;refine c_ (UU (T:="set") ty ?_);have h1:XZ (.ref d.heap.objs.size) (.ref e)=D:=by simp[XZ];exact(D_ hS).symm
 have h2:(p_ "set"==p_ "list")=D:=by decide
 have h3:(p_ "set"==p_ "tuple")=D:=by decide
 simp only[h1,h2,h3,Bool.or_false,A_,if_false];refine c_ (Cd (d:={d with heap:=H}) (r.moved λf a=>n _ _ a) b' λI m g p fp St K=>?_);have t:U_ {d with heap:=m,drawn:=g} (.ref e) "set":=⟨f,K.up _ _ (n _ _ ho),hex.1⟩;refine c_ (SL ?_);unfold Builtin.List.listLengthHint;refine c_ (wpAny_specialOf t F.slot_set_len.lookup ?_);wp_delta;refine c_ (WN (T:="set") (b:=L) t (by rw[YY];lk) ?_);show t_ _ w.in1 (aaz (B_ e)>>=_) _ _ _;refine c_ (UU (T:="set") t ?_);refine j_ ?_;show t_ _ w.in1 (rule "list.extend.makes-room">>=λ_=>Builtin.List.listTouch (.ref d.heap.objs.size)>>=λ_=>N' (.builtin "list.extend.loop" ⟨[.ref d.heap.objs.size,.ref I,.ref d.heap.objs.size],[]⟩)) _ _ _;refine c_ (UG ?_);have E:m.get? d.heap.objs.size=Z {cls:=.type "list",data:=.seq ([]:List R).toArray}:=K.up _ _ hL;refine c_ ?_;show t_ _ w.in1 (updateSeq d.heap.objs.size (·.push .none)>>=λ_=>updateSeq d.heap.objs.size (·.pop)) _ _ _;refine c_ (wpAny_updateSeq E rfl ?_);have B:=Tv (J_ (·.push F_)) E rfl;refine wpAny_updateSeq B rfl ?_;have l':=Tv (J_ (·.pop)) B rfl;have z:∀b k,b≠d.heap.objs.size->m.get? b=Z k->((m.update d.heap.objs.size (J_ (·.push F_))).update d.heap.objs.size (J_ (·.pop))).get? b=Z k:=λb k y a=>(Ut _ _ (Vg y)).trans ((Ut _ _ (Vg y)).trans a);have A:d.heap.objs.size∉fp:=λv=>by
  rcases(K.fp _ v).1 with a|a;·exact absurd a (D_ hS).symm
  ·rw[a']at a;exact absurd a (Nat.not_le.mpr (Tf _))
 have W:=K.W w.in1 hh;have k':p.length<=sizeLine:=by
  have h1:=K.pm.length_eq;simp at h1;have:sizeLine=16777216:=by decide
  omega
 refine j_ ⟨WU F.plain_extend_loop _,codeAny_extend_loopS W.toS k' _ A _ p.length 0 _ _ _ rfl (Sb _) (W.frame 0 m _ K.st λb y k a=>z b k (λh=>A (h▸y)) a) l' (ItemsOf.nil _) λs' j c' v P s=>?_⟩;show t_ _ w (load d.heap.objs.size>>=_) _ _ s';refine c_ (wpAny_load P ?_);have e':j.toList=p:=by
  apply WR;·simpa using s.1
  ·intro i h1 h2;have:p[i]?=Z j[i]:=s.2 i j[i] (by simp);rw[s_ h2]at this;simpa using this.symm
 show t_ _ w (pure j.toList) _ _ s';rw[e'];obtain⟨m',g',d',f',i'⟩:=s';have eg:g'=d.gens:=v.gens;have ed:d'=g:=v.drawn;have eo:i'=d.os:=v.os;subst eg;subst ed;subst eo;refine j_ (hQ m' d' f' p K.pm (v_ P) λb k a=>v.heap b k (λy=>?_) (z b k (D_ (v_ a)) (K.up _ _ (n _ _ a))));have u:=v_ a;rcases w_.mp y with h|h;·exact absurd u (h▸Tg _)
 ·rw[Sf.mp h]at u;have:=K.nw;rw[a']at this;exact absurd (Yz u this) (Tg _)
def SetS.rd(x:SetS q o P e v):∃c d t,Rd o P e c d t/\c.size<=60/\(∀a∈c.toList,∃x t,a.2=.str x t)/\(c.toList.map λa=>Ż a.2).Perm v:=by obtain⟨b,c,d,t,i,hex,m,k,p,j,h,n,g,f⟩:=x;refine⟨c,d,t,⟨⟨b,i,hex,m⟩,k,j,h⟩,?_,g,f⟩;have:=f.length_eq;simp at this;omega
def yM:∀{a:List R},(∀v∈a,∃x t,v=.str x t)->aay a (a.map Ż)|[],_=>.nil|v::a,h=>by obtain⟨x,t,rfl⟩:=h v o_;exact .cons x t (yM λv b=>h v (m_ _ b))
def sorted_set(hh:w.handled=U)(x:SetS q o d.heap e v)(h:∀(l:O)(y:M_)(c:Drawn)(p:Nat)(out:List R)(a:Nat),aay out (FD.isortB FD.leS v)->y.get? l=Z (Se "list" out.toArray a)->d.heap.objs.size<=l->(∀b g,d.heap.get? b=Z g->y.get? b=Z g)->Â (.ref l) {d with heap:=y,drawn:=c,toks:=p}):t_ (y_ q o) w (call (.builtin "sorted") [.ref e]) Â ν d:=by
 obtain⟨es,ep,t,r,b',hs,hm⟩:=x.rd;refine Calls.call_function_entry aas ZX ZY (args_sorted1 _) ?_;unfold Tq.«sorted»;refine c_ (m:=checkCount "sorted" 1 1 _) (j_ ?_);refine c_ (sN hh r b' λh1 c p n s a' up=>?_);have B:∀f∈n,∃x t,f=Ti x t:=λf hv=>by obtain⟨a,u,rfl⟩:=R7.mp (s.mem_iff.mp hv);exact hs a u
 have hS:=yM B;have j:n.length<64:=by have:=s.length_eq;simp at this;omega
 have H:(n.map Ż).Perm v:=by have:=s.map Ż;rw[SJ]at this;exact this.trans hm
 refine c_ (V3 ?_ (FD.line64 j));have k:(h1.push (Se "list" n.toArray 0)).get? h1.objs.size=Z (Se "list" n.toArray 0):=n_ _ rfl;refine c_ (SL (SY Y8 ⟨_,k,rfl⟩ YH (list_sort_treeK strKind_oneLt k hS.keysOf (λe' d' rest a=>keyKind_strs (by rw[<-a];exact hS)) j λz P E=>⟨_,rfl,?_⟩) (args_list_sort _)));obtain⟨A,a1,a2,a3⟩:=sorted_out_str hS P E;have c':A=FD.isortB FD.leS v:=FD.sorted_uniq FD.ordS ((a2.trans H).trans (FD.isortB_perm FD.leS v).symm) (FD.sortedS_pw _ a3) (FD.isortB_sorted FD.ordS v);subst c';obtain⟨a,u⟩:=sortedHeap_at (out:=(WA z).map (·.2)) k;refine j_ ⟨_,rfl,h _ _ c p _ a a1 (by rw[Array.toArray_toList];exact u) (U5 a') λb ob i=>?_⟩;·have q1:=up _ _ i;have m:=v_ q1;rw[sortedHeap_old (D_ m) (by rw[L_];exact SA m),ZS _ _ _ (D_ m)];exact q1
end ST
namespace FD
open L2
def jk:Ñ
 |[.lst b]=>match cD b with|some a=>if a.length<=59 then Z (.ok (.lst ((isortB leS (ST.ddk a)).map N.str)))else U|none=>U
 |[.tup b]=>match cD b with|some a=>if a.length<=59 then Z (.ok (.lst ((isortB leS (ST.ddk a)).map N.str)))else U|none=>U
 |_=>U
def yN(I:Ë a H Ã g d)(b:Drawn):Ë a H Ã g {d with drawn:=b}:=⟨I.ok,I.os,I.bare,I.base,I.loc,I.cell,I.free,I.freeC,I.pin,I.hok,I.len⟩
def oO:∀{a:List R}{c:List Str},aay a c->a.length=c.length/\∀(i:Nat)(v:R),a[i]?=Z v->∃b,v=Ti (c.getD i "") b|_,_,.nil=>⟨rfl,λi v h=>by simp at h⟩|_,_,.cons x t h=>by obtain⟨f,d⟩:=oO h;refine⟨by simp[f],λi v e=>?_⟩;cases i with|zero=>simp at e;exact⟨t,by simp[<-e]⟩|succ i=>obtain⟨b,q⟩:=d i v (by simpa using e);exact⟨b,by simpa using q⟩
def wc{c:Pos}(hc:a.calm=L)(hg:Gl a "sorted")(hm:a.mg "sorted"=U)(i':Gl a "set")(g':a.mg "set"=U)(ha:FA a [f] μ)(he:l_ [.Call (.Name "set" B) [f] [] c] a.env=(D,eval (.Call (.Name "set" B) [f] [] c) a.env)::l_ [] a.env:=by lk)(e':(R8 Υ (l_ [] a.env)).any (·.1)=D:=by lk)(k':l_ [f] a.env=(D,eval f a.env)::l_ [] a.env:=by lk)(c':(R8 c (l_ [] a.env)).any (·.1)=D:=by lk):FE a (.Call (.Name "sorted" p) [.Call (.Name "set" B) [f] [] c] [] Υ) (â jk μ):=⟨λf' s σ H Q I⟨ρ,E,o⟩=>by
 refine S_ (gg I hg hm (Ζ:=.builtin "sorted") (by decide+kernel) ?_ (by decide) (by decide));refine Vn ?_ he e';rw[he];show t_ _ _ (spliced ((D,eval (.Call (.Name "set" B) [f] [] c) a.env)::R8 Υ (l_ [] a.env))) _ _ s;refine Xx ?_;refine S_ (gg I i' g' (Ζ:=.type "set") (by decide+kernel) ?_ (by decide) (by decide));refine S6 (è (ha.h c f' s σ H _ I ⟨ρ,E,æ.bind o λds vs H1 e1 rs e=>(show∃ds,S a.K H1 ds vs/\ï a H1 (jk ds) Q from⟨ds,rs,e⟩)⟩) λus P⟨vs,H1,w,r1,ds,rs,e⟩=>?_) k' c';have b':∀(g:List Str)(t:M_)(A:Nat),g.length<=59->ï a H1 (Z (.ok (.lst ((isortB leS (ST.ddk g)).map N.str)))) Q->ST.SetS a.prog a.w t P.heap.objs.size (ST.ddk g)->(∀b o,b<P.heap.objs.size->P.heap.get? b=Z o->t.get? b=Z o)->t_ (y_ a.prog a.w) a.A (call (.builtin "sorted") [.ref P.heap.objs.size]) (EP a f' σ Q) a.xe {P with heap:=t,toks:=A}:=by
  intro g t A hk e hS m;refine ST.sorted_set (w.ok.hd hc) hS λl h2 d d' out e0 a1 a2 a3 a4=>?_;have a':P.heap.objs.size<=l:=by obtain⟨_,_,_,_,q,_⟩:=hS;exact U5 (Q_ (v_ q) a3)
  refine⟨.ref l,_,yN (w.laid (h':=h2) (t':=d') (o:=.lst ((isortB leS (ST.ddk g)).map V.str)) (λb ob q=>a4 _ _ (m b ob (v_ q) q)) a' ?_) d,rfl,e _ _ (aG (w.hok.fresh a') _) ⟨l,_,rfl,ao,nE _ _⟩⟩;exact⟨line64 (by rw[E_,(isortB_perm leS _).length_eq];have:=ST.ddk_le g;omega),out,e0,nB a1,by simpa[Se]using a2⟩
 unfold jk at e;split at e
 · rename_i es;obtain⟨v,rfl,r⟩:=cZ rs;obtain⟨l,xs,rfl,hl,rx⟩:=r.lstE;obtain⟨u,rfl,ru⟩:=eD r1;cases(show u=B_ l from ru);split at e
   · rename_i g y;split at e
     · rename_i k;obtain⟨z,h,n,rv,hz,eh⟩:=w.lstM hl;obtain⟨q1,q2⟩:=oO (oN y rx rv);have j:h.toArray.size=g.length:=by simp[q1]
       refine ST.call_set_L2 (υ:=h.toArray) (p:=λi=>g.getD i "") (w.ok.hd hc) ⟨_,eh,rfl,n,rfl⟩ (λi v hi=>q2 i v (by simpa using hi)) (by rw[j];exact k) λt A hS m=>?_;refine Wy ?_;rw[range_getD g "" _ j]at hS;exact b' g t A k e hS m
     ·exact e.elim
   ·exact e.elim
 · rename_i es;obtain⟨v,rfl,r⟩:=cZ rs;obtain⟨l,xs,rfl,hl,rx⟩:=r.tupE;obtain⟨u,rfl,ru⟩:=eD r1;cases(show u=B_ l from ru);split at e
   · rename_i g y;split at e
     · rename_i k;obtain⟨h,rv,pl,hz⟩:=w.tuple (ö.of hl);obtain⟨q1,q2⟩:=oO (oN y rx rv);have j:h.toArray.size=g.length:=by simp[q1]
       refine ST.call_set_T2 (υ:=h.toArray) (p:=λi=>g.getD i "") (w.ok.hd hc) pl (λi v hi=>q2 i v (by simpa using hi)) (by rw[j];exact k) λt A hS m=>?_;refine Wy ?_;rw[range_getD g "" _ j]at hS;exact b' g t A k e hS m
     ·exact e.elim
   ·exact e.elim
 ·exact e.elim⟩
end FD
namespace TS
def Ė(M:VB)(A:x_)(E:R->g_->Prop)(J:g_->Prop)(m:StateT z Sem Χ)(Q:Χ->z->Prop)(a:z):Prop:=∀s,J s->t_ M A (m.run a) (λr b=>J b/\Q r.1 r.2) E s
variable{Ê:g_->Prop}
def cv{a:Χ}{Q:Χ->z->Prop}(h:Q a É):Ė Å w ν Ê (pure a:StateT z Sem Χ) Q É:=λs b=>by rw[YC];exact j_ ⟨b,h⟩
def bB{c:Type}{m:StateT z Sem Χ}{f:Χ->StateT z Sem c}{Q:c->z->Prop}(h:Ė Å w ν Ê m (λa b=>Ė Å w ν Ê (f a) Q b) É):Ė Å w ν Ê (m>>=f) Q É:=λs i=>by rw[StateT.run_bind];exact c_ (Sw (h s i) (λr g d=>d.2 g d.1) λ_ _ e=>e)
def qK{m:StateT z Sem Χ}{Q d:Χ->z->Prop}(h:Ė Å w ν Ê m Q É)(g:∀a b,Q a b->d a b):Ė Å w ν Ê m d É:=λs f=>Sw (h s f) (λr _ c=>⟨c.1,g _ _ c.2⟩) λ_ _ e=>e
def we{Q:z->z->Prop}(h:Q É É):Ė Å w ν Ê (get:StateT z Sem z) Q É:=λs a=>by rw[StateT.run_get];exact j_ ⟨a,h⟩
def k9{f:z->z}{Q:PUnit->z->Prop}(h:Q ⟨⟩ (f É)):Ė Å w ν Ê (modify f:StateT z Sem PUnit) Q É:=λs a=>by rw[StateT.run_modify];exact j_ ⟨a,h⟩
def yO{m:Sem Χ}{Q:Χ->z->Prop}(h:∀s,Ê s->t_ Å w m (λa b=>Ê b/\Q a É) ν s):Ė Å w ν Ê (liftM m:StateT z Sem Χ) Q É:=λs c=>by show t_ Å w ((StateT.lift m:StateT z Sem Χ).run É) _ ν s;rw[StateT.run_lift];exact c_ (Sw (h s c) (λa b d=>j_ d) λ_ _ e=>e)
def Lo{M:VB}{A:x_}{E:R->g_->Prop}{J:g_->Prop}{o k:Type}(f:Nat->k->StateT o Sem (ForInStep k))(I:Nat->k->o->Prop)(Q:k->o->Prop)(b:Nat)(g:∀i c st,i<b->I i c st->Ė M A E J (f i c) (λr d=>match r with|.done j=>Q j d|.yield j=>I (i+1) j d) st)(m:∀c st,I b c st->Q c st):∀(n a:Nat)(c:k)(st:o),a+n=b->I a c st->Ė M A E J (ſ (List.range' a n 1) c f) Q st
 |0,a,c,st,e,h=>by
  rw[List.range'_zero,WE];have:a=b:=by omega
  subst this;exact cv (m c st h)|n+1,a,c,st,e,h=>by rw[List.range'_succ,Xb];refine bB (qK (g a c st (by omega) h) λr d p=>?_);cases r with|done j=>exact cv p|yield j=>exact Lo f I Q b g m n (a+1) j d (by omega) p
def ka{f:Nat->Χ->StateT z Sem (ForInStep Χ)}(I:Nat->Χ->z->Prop){Q:Χ->z->Prop}(n:c<=m)(e:∀i a b,i<m->I i a b->Ė Å w ν Ê (f i a) (λr d=>match r with|.done g=>Q g d|.yield g=>I (i+1) g d) b)(k:∀a b,I m a b->Q a b){a:Χ}{b:z}(h:I c a b):Ė Å w ν Ê (ſ [c:m] a f) Q b:=by
 rw[Std.Legacy.Range.forIn_eq_forIn_range'];have j:([c:m]:Z7).size=m-c:=by simp[Std.Legacy.Range.size]
 show Ė Å w ν Ê (ſ (List.range' c ([c:m]:Z7).size 1) a f) Q b;rw[j];exact Lo f I Q m e k (m-c) c a b (by omega) h
structure Od(blt:Nat->Nat->Bool):Prop where
 ir:∀a,blt a a=D
 tr:∀a b c,blt a b=L->blt b c=L->blt a c=L
 nt:∀a b c,blt a c=L->blt a b=L\/blt b c=L
def İ(c:Nat->Nat->Bool)(a b:Nat):Prop:=c a b=L\/(c b a=D/\a<b)
variable{Δ:Nat->Nat->Bool}
def Od.le(O:Od Δ){a b c:Nat}(e:Δ b a=D)(d:Δ c b=D):Δ c a=D:=by cases h:Δ c a with|false=>rfl|true=>
 rcases O.nt _ b _ h with q|q;·rw[q]at d;cases d
 ·rw[q]at e;cases e
def Od.lt_le(O:Od Δ){a b c:Nat}(e:Δ a b=L)(d:Δ c b=D):Δ a c=L:=by
 rcases O.nt _ c _ e with q|q;·exact q
 ·rw[q]at d;cases d
def Od.le_lt(O:Od Δ){a b c:Nat}(d:Δ b a=D)(e:Δ b c=L):Δ a c=L:=by
 rcases O.nt _ a _ e with q|q;·rw[q]at d;cases d
 ·exact q
def Od.as(O:Od Δ){a b:Nat}(h:Δ a b=L):Δ b a=D:=by cases c:Δ b a with|false=>rfl|true=>have:=O.tr _ _ _ h c;rw[O.ir]at this;cases this
def İ.tr(O:Od Δ){a b c:Nat}(e:İ Δ a b)(d:İ Δ b c):İ Δ a c:=by
 rcases e with e|⟨e,f⟩
 · rcases d with d|⟨d,i2⟩;·exact .inl (O.tr _ _ _ e d)
   ·exact .inl (O.lt_le e d)
 · rcases d with d|⟨d,i2⟩;·exact .inl (O.le_lt e d)
   ·exact .inr ⟨O.le e d,by omega⟩
def İ.of_le(h:Δ m c=D)(i:c<m):İ Δ c m:=.inr ⟨h,i⟩
structure SB(a₀:Array WK)(kd:Vo)(p:Nat->Nat)(st:UJ):Prop where
 sz:(WA st).size=a₀.size
 at':∀k,k<a₀.size->(WA st)[k]?=a₀[p k]?lt:∀k,k<a₀.size->p k<a₀.size
 inj:∀a b,a<a₀.size->b<a₀.size->p a=p b->a=b
 kind:kindOf st=kd
 failed:Y9 st=U
 pend:Yd st=#[]
def ė(p:Nat->Nat)(i j k:Nat):Nat:=if i<=k/\k<j then p (i+j-1-k)else p k
def Ō(p:Nat->Nat)(a b k:Nat):Nat:=if k=b then p a else if b<k/\k<=a then p (k-1)else p k
variable{Ν:Nat->Nat}
def SB.mirror{c:Array WK}{g:Vo}{d:UJ}(B:SB c g Ν d){i j:Nat}(n:j<=c.size):SB c g (ė Ν i j) (setArr d (mirror (WA d) i j ((j-i)/2)))where
 sz:=(mirror_size _ _ _ _).trans B.sz;at':=λk f=>by
  show(PyProof.Rows.mirror (WA d) i j ((j-i)/2))[k]?=_;rw[getElem?_mirror_all (by rw[B.sz];exact n)];unfold ė;split;·exact B.at' _ (by omega)
  ·exact B.at' _ f
 lt:=λk f=>by
  unfold ė;split;·exact B.lt _ (by omega)
  ·exact B.lt _ f
 inj:=λa b m h e=>by
  unfold ė at e;split at e<;>split at e;·have:=B.inj _ _ (by omega) (by omega) e;omega
  ·have:=B.inj _ _ (by omega) h e;omega
  ·have:=B.inj _ _ m (by omega) e;omega
  ·exact B.inj _ _ m h e
 kind:=B.kind;failed:=B.failed;pend:=B.pend
def SB.bubble{f:Array WK}{j:Vo}{g:UJ}(B:SB f j Ν g){c d:Nat}(h:c<f.size)(m:d<=c):SB f j (Ō Ν c d) (setArr g (bubble (WA g) c (c-d)))where
 sz:=(bubble_size _ _ _).trans B.sz;at':=λk i=>by
  show(PyProof.Rows.bubble (WA g) c (c-d))[k]?=_;rw[getElem?_bubble (by rw[B.sz];exact h) _ (by omega),show c-(c-d)=d by omega];unfold Ō;split;·exact B.at' _ h
  · split;·exact B.at' _ (by omega)
    ·exact B.at' _ i
 lt:=λk i=>by
  unfold Ō;split;·exact B.lt _ h
  · split;·exact B.lt _ (by omega)
    ·exact B.lt _ i
 inj:=λa b o n e=>by
  unfold Ō at e;repeat' split at e
  all_goals first|omega|(have:=B.inj _ _ (by omega) (by omega) e;omega)
 kind:=B.kind;failed:=B.failed;pend:=B.pend
def Cm(M:VB)(A:x_)(J:g_->Prop)(a:Array WK)(e:Vo)(c:Nat->Nat->Bool):Prop:=∀(i j:Nat)(x y:WK)(s:g_)(f:R->g_->Prop),a[i]?=Z x->a[j]?=Z y->J s->t_ M A (keyLt' e x.1 y.1) (λb d=>J d/\b=c i j) f s
def Lp{a:Array WK}{i:Vo}{d:UJ}{Q:Option Bool->UJ->Prop}(C:Cm Å w Ê a i Δ)(B:SB a i Ν d)(g:c<a.size)(f:m<a.size)(h:Q (Z (Δ (Ν c) (Ν m))) d):Ė Å w ν Ê (ltAt' c m) Q d:=by
 have p:(WA d)[c]?=Z (a[Ν c]'(B.lt c g)):=by rw[B.at' c g];simp[B.lt c g]
 have o:(WA d)[m]?=Z (a[Ν m]'(B.lt m f)):=by rw[B.at' m f];simp[B.lt m f]
 rw[ltAt'_eq];refine bB (we ?_);show Ė Å w ν Ê (do let x<-elem' (WA d) c;let y<-elem' (WA d) m;lt' x y) Q d;rw[elem'_eq,elem'_eq,p,o];refine bB (cv (bB (cv ?_)));rw[lt'_eq];refine bB (we ?_);rw[B.kind];refine bB (yO λs j=>UB (Sw (C (Ν c) (Ν m) _ _ s _ (by simp[B.lt c g]) (by simp[B.lt m f]) j) (λb q n=>?_) λ_ _ e=>e));obtain⟨k,rfl⟩:=n;exact⟨k,cv h⟩
def Ce{a:UJ}{Q:Unit->UJ->Prop}(h:Q () (setArr a (mirror (WA a) c m ((m-c)/2)))):Ė Å w ν Ê (reverseSlice' c m) Q a:=by rw[reverseSlice'_eq];exact k9 h
structure Up(blt:Nat->Nat->Bool)(p:Nat->Nat)(n N:Nat):Prop where
 so:∀a b,a<b->b<n->İ blt (p a) (p b)lo:∀a,a<n->p a<n
 re:∀a,n<=a->a<N->p a=a
def Up.next(O:Od Δ){n N:Nat}(c:Up Δ Ν n N)(p:1<=n)(k:n<N)(h:Δ (Ν n) (Ν (n-1))=D):Up Δ Ν (n+1) N where
 so:=λa b j o=>by
  by_cases f:b<n;·exact c.so a b j f
  · have g:b=n:=by omega
    subst g;have d:İ Δ (Ν (b-1)) (Ν b):=.of_le h (by rw[c.re b (r_ _) k];exact c.lo _ (by omega));by_cases e:a=b-1;·subst e;exact d
    ·exact(c.so a (b-1) (by omega) (by omega)).tr O d
 lo:=λa e=>by
  by_cases i:a<n;·have:=c.lo a i;omega
  · have:a=n:=by omega
    subst this;rw[c.re a (r_ _) k];omega
 re:=λa e m=>c.re a (by omega) m
def Lq{d:Array WK}{k:Vo}{g:UJ}{Q:AscSt->UJ->Prop}(O:Od Δ)(C:Cm Å w Ê d k Δ)(B:SB d k Ν g)(r:1<=c)(j:c<=m)(q:m<=d.size)(b:Up Δ Ν c d.size)(h:∀n,c<=n->n<=m->Up Δ Ν n d.size->(n=m\/Δ (Ν n) (Ν (n-1))=L)->Q (U,n) g):Ė Å w ν Ê (ascLoop c m) Q g:=by
 unfold ascLoop;refine ka (I:=λx a e=>e=g/\a=(U,x)/\c<=x/\Up Δ Ν x d.size) j ?_ ?_ ⟨rfl,rfl,r_ _,b⟩;·rintro x a e p⟨rfl,rfl,f,i⟩;dsimp only;refine bB (Lp C B (by omega) (by omega) ?_);cases o:Δ (Ν x) (Ν (x-1))with|true=>simp only[if_true];exact cv (h x f (by omega) i (.inr o))|false=>simp only[A_,if_false];exact cv ⟨rfl,rfl,by omega,i.next O (by omega) (by omega) o⟩
 ·rintro a e⟨rfl,rfl,f,i⟩;exact h m f (r_ _) i (.inl rfl)
structure Dn(blt:Nat->Nat->Bool)(p:Nat->Nat)(n N:Nat):Prop where
 so:∀a b,a<b->b<n->İ blt (p b) (p a)lo:∀a,a<n->p a<n
 re:∀a,n<=a->a<N->p a=a
structure Dq(blt:Nat->Nat->Bool)(p:Nat->Nat)(c n N:Nat):Prop where
 cn:c<n
 d1:∀a b,a<b->b<c->İ blt (p b) (p a)d2:∀a b,a<c->c<=b->b<n->blt (p b) (p a)=L
 d3:∀a b,c<=a->a<b->b<n->blt (p a) (p b)=D/\blt (p b) (p a)=D/\p a<p b
 lo:∀a,a<n->p a<n
 re:∀a,n<=a->a<N->p a=a
def Dq.turn(d:Dq Δ Ν c m ψ):Dn Δ (ė Ν c m) m ψ where
 so:=λa b h i=>by
  unfold ė;by_cases f:c<=b
  · rw[if_pos ⟨f,i⟩];by_cases g:c<=a;·rw[if_pos ⟨g,by omega⟩];have:=d.d3 (c+m-1-b) (c+m-1-a) (by omega) (by omega) (by omega);exact .inr ⟨this.2.1,this.2.2⟩
    ·rw[if_neg (by omega)];exact .inl (d.d2 a _ (by omega) (by omega) (by omega))
  ·rw[if_neg (by omega),if_neg (by omega)];exact d.d1 a b h (by omega)
 lo:=λa e=>by
  unfold ė;split;·exact d.lo _ (by omega)
  ·exact d.lo _ e
 re:=λa e j=>by unfold ė;rw[if_neg (by omega)];exact d.re a e j
def Dq.one(d:Dq Δ Ν (c-1) c m):Dn Δ Ν c m where
 so:=λa b f g=>by
  by_cases e:b<c-1;·exact d.d1 a b f e
  ·exact .inl (d.d2 a b (by omega) (by omega) g)
 lo:=d.lo;re:=d.re
def Dn.turn(d:Dn Δ Ν c m):Up Δ (ė Ν 0 c) c m where
 so:=λa b h f=>by unfold ė;rw[if_pos ⟨Sb _,by omega⟩,if_pos ⟨Sb _,f⟩];exact d.so _ _ (by omega) (by omega)
 lo:=λa e=>by unfold ė;rw[if_pos ⟨Sb _,e⟩];exact d.lo _ (by omega)
 re:=λa e g=>by unfold ė;rw[if_neg (by omega)];exact d.re a e g
def Dn.next(O:Od Δ){n N:Nat}(c:Dn Δ Ν n N)(o:1<=n)(g:n<N)(h:Δ (Ν n) (Ν (n-1))=L):Dq Δ Ν n (n+1) N where
 cn:=by omega
 d1:=c.so;d2:=λa b d i k=>by
  have:b=n:=by omega
  subst this;by_cases e:a=b-1;·subst e;exact h
  · rcases c.so a (b-1) (by omega) (by omega)with q|⟨q,_⟩;·exact O.tr _ _ _ h q
    ·exact O.lt_le h q
 d3:=λa b d m i=>by omega
 lo:=λa d=>by
  by_cases f:a<n;·have:=c.lo a f;omega
  · have:a=n:=by omega
    subst this;rw[c.re a (r_ _) g];omega
 re:=λa d j=>c.re a (by omega) j
def Dq.next(O:Od Δ){c n N:Nat}(d:Dq Δ Ν c n N)(m:n<N)(p:Δ (Ν n) (Ν (n-1))=D)(i:Δ (Ν (n-1)) (Ν n)=D):Dq Δ Ν c (n+1) N where
 cn:=by have:=d.cn;omega
 d1:=d.d1;d2:=λa b f o t=>by
  by_cases g:b<n;·exact d.d2 a b f o g
  · have:b=n:=by omega
    subst this;exact O.le_lt i (d.d2 a (b-1) f (by have:=d.cn;omega) (by omega))
 d3:=λa b f k o=>by
  by_cases g:b<n;·exact d.d3 a b f k g
  · have:b=n:=by omega
    subst this;have h:Ν a<Ν b:=by have:=d.lo a (by omega);rw[d.re b (r_ _) m];exact this
    by_cases e:a=b-1;·subst e;exact⟨i,p,h⟩
    ·obtain⟨r,q,_⟩:=d.d3 a (b-1) f (by omega) (by omega);exact⟨O.le i r,O.le q p,h⟩
 lo:=λa f=>by
  by_cases j:a<n;·have:=d.lo a j;omega
  · have:a=n:=by omega
    subst this;rw[d.re a (r_ _) m];omega
 re:=λa f s=>d.re a (by omega) s
def yQ{e:Array WK}{g:Vo}{k:UJ}{Q:Option Nat->UJ->Prop}(O:Od Δ)(C:Cm Å w Ê e g Δ)(B:SB e g Ν k)(q:1<=c)(i:c<=m)(p:m<=e.size)(d:Dn Δ Ν c e.size)(h:∀a n f,SB e g n f->1<=a->a<=m->Up Δ n a e.size->Q (Z a) f):Ė Å w ν Ê (tail3 c m) Q k:=by unfold tail3;refine bB (Ce ?_);have o:=B.mirror (i:=0) (j:=c) (by omega);exact bB (Lq O C o q i p d.turn λa r j b _=>cv (h a _ _ o (by omega) j b))
def Lr{g:Array WK}{q:Vo}{u:UJ}{Q:DescSt->UJ->Prop}(O:Od Δ)(C:Cm Å w Ê g q Δ)(B:SB g q Ν u)(h1:2<=c)(t:c<=m)(P:m<=g.size)(d:Dq Δ Ν (c-1) c g.size)(h:∀a f i j,SB g q i j->c<=a->a<=m->f+1<=a->Dq Δ i (a-(f+1)) a g.size->Q (U,a,f) j):Ė Å w ν Ê (descLoop c m) Q u:=by
 unfold descLoop;refine ka (I:=λx b j=>∃f i,b=(U,x,f)/\SB g q i j/\c<=x/\f+1<=x/\Dq Δ i (x-(f+1)) x g.size) t ?_ ?_ ⟨0,Ν,rfl,B,r_ _,by omega,d⟩;·rintro x b j H⟨f,i,rfl,n,p,s,k⟩;dsimp only;refine bB (Lp C n (by omega) (by omega) ?_);cases r:Δ (i x) (i (x-1))with
 |true=>
 simp only[if_true];by_cases o:f>0
 · rw[if_pos o];refine bB (Ce (cv ?_));have E:=n.mirror (i:=x-(f+1)) (j:=x) (by omega);refine⟨0,_,rfl,E,by omega,by omega,?_⟩;have A:=k.turn;have hc:=k.cn;refine A.next O (by omega) (by omega) ?_;have z:ė i (x-(f+1)) x x=i x:=by unfold ė;rw[if_neg (by omega)]
   have y:ė i (x-(f+1)) x (x-1)=i (x-(f+1)):=by unfold ė;rw[if_pos (by omega)];congr 1;omega
   rw[z,y];by_cases e:x-(f+1)=x-1;·rw[e];exact r
   ·exact O.lt_le r (k.d3 (x-(f+1)) (x-1) (r_ _) (by omega) (by omega)).1
 · rw[if_neg o];have e:f=0:=by omega
   subst e;exact cv ⟨0,i,rfl,n,by omega,by omega,k.one.next O (by omega) (by omega) r⟩|false=>simp only[A_,if_false];refine bB (Lp C n (by omega) (by omega) ?_);cases v:Δ (i (x-1)) (i x)with|true=>simp only[if_true];exact cv (h x f i j n p (by omega) s k)|false=>simp only[A_,if_false];refine cv ⟨f+1,i,rfl,n,by omega,by omega,?_⟩;have:=k.next O (by omega) r v;rwa[show x+1-(f+1+1)=x-(f+1)by omega]
 ·rintro b j⟨f,i,rfl,n,p,s,k⟩;exact h m f i j n p (r_ _) s k
def nF{d:Array WK}{n:Vo}{q:UJ}{Q:Option Nat->UJ->Prop}(O:Od Δ)(C:Cm Å w Ê d n Δ)(B:SB d n Ν q)(z:1<=c)(p:c+1<=m)(o:m<=d.size)(b:Dq Δ Ν c (c+1) d.size)(h:∀a k g,SB d n k g->1<=a->a<=m->Up Δ k a d.size->Q (Z a) g):Ė Å w ν Ê (descPart c m) Q q:=by
 unfold descPart;refine bB (yO λs u=>UG ⟨u,?_⟩);refine bB (Lr O C B (by omega) p o b λa i k g t v j y r=>?_);dsimp only;by_cases f:i>0;·rw[if_pos f];exact bB (Ce (yQ O C (t.mirror (by omega)) (by omega) j o r.turn h))
 · rw[if_neg f];have e:i=0:=by omega
   subst e;exact yQ O C t (by omega) j o r.one h
def GH{g:Array WK}{E:Vo}{A:UJ}{Q:Option Nat->UJ->Prop}(O:Od Δ)(C:Cm Å w Ê g E Δ)(B:SB g E Ν A)(h1:1<=c)(H:c<=g.size)(o:∀k,k<g.size->Ν k=k)(h:∀m p' r,SB g E p' r->1<=m->m<=c->Up Δ p' m g.size->Q (Z m) r):Ė Å w ν Ê (countRun' 0 c) Q A:=by
 rw[countRun0_eq];refine bB (Lq O C B (r_ 1) h1 H ⟨λa b y p=>by omega,λa i=>by rw[o a (by omega)];exact i,λa _ P=>o a P⟩ λn t s d c'=>?_);dsimp only;by_cases j:n=c;·rw[if_pos (by simpa using j)];exact cv (h n Ν A B t s d)
 · rw[if_neg (by simpa using j)];have u:Δ (Ν n) (Ν (n-1))=L:=c'.resolve_left j;by_cases v:n>1;·rw[if_pos v];refine bB (Lp C B (by omega) (by omega) ?_);cases hr:Δ (Ν 0) (Ν (n-1))with|true=>simp only[if_true];exact cv (h n Ν A B t s d)|false=>
     simp only[A_,if_false];have B':=B.mirror (i:=0) (j:=n) (by omega);have b':∀a,a<n->Δ (Ν a) (Ν 0)=D:=λa i=>by
      by_cases e:a=0;·subst e;exact O.ir _
      · rcases d.so 0 a (by omega) i with q|q;·exact O.as q
        ·exact q.1
     have a':∀a,a<n->Δ (Ν (n-1)) (Ν a)=D:=λa i=>by
      by_cases e:a=n-1;·subst e;exact O.ir _
      · rcases d.so a (n-1) (by omega) (by omega)with q|q;·exact O.as q
        ·exact q.1
     have eq:∀a b,a<n->b<n->Δ (Ν a) (Ν b)=D:=λa b i p=>O.le (a' b p) (O.le hr (b' a i));have f:Dq Δ (ė Ν 0 n) n (n+1) g.size:=by
      have Dm:Dn Δ (ė Ν 0 n) n g.size:=⟨λa b y p=>by unfold ė;rw[if_pos ⟨Sb _,p⟩,if_pos ⟨Sb _,by omega⟩];refine .of_le (eq _ _ (by omega) (by omega)) ?_;rw[o _ (by omega),o _ (by omega)];omega,λa i=>by unfold ė;rw[if_pos ⟨Sb _,i⟩,o _ (by omega)];omega,λa i P=>by unfold ė;rw[if_neg (by omega),o _ P]⟩;refine Dm.next O (by omega) (by omega) ?_;have e1:ė Ν 0 n n=Ν n:=by unfold ė;rw[if_neg (by omega)]
      have e2:ė Ν 0 n (n-1)=Ν 0:=by unfold ė;rw[if_pos (by omega)];congr 1;omega
      rw[e1,e2];exact O.lt_le u (eq 0 (n-1) (by omega) (by omega))
     exact bB (Ce (nF O C B' (by omega) (by omega) H f h))
   · rw[if_neg v];have z:n=1:=by omega
     subst z;refine nF O C B (by omega) (by omega) H ?_ h;have Dm:Dn Δ Ν 1 g.size:=⟨λa b y p=>by omega,d.lo,d.re⟩;exact Dm.next O (by omega) (by omega) u
def Pa{g:Array WK}{z:Vo}{st:UJ}{Q:Bool->UJ->Prop}(O:Od Δ)(C:Cm Å w Ê g z Δ)(B:SB g z Ν st)(i':1<=m)(a':m<=c)(hn:c<=g.size)(f:Up Δ Ν m g.size)(h:∀j o,SB g z j o->Up Δ j c g.size->Q L o):Ė Å w ν Ê (binarySort' 0 c m) Q st:=by
 rw[binarySort'_eq];simp only[U1];rw[show max m 1=m by omega];refine bB (qK (ka (I:=λk d o=>∃j,d=(U,())/\m<=k/\SB g z j o/\Up Δ j k g.size) (Q:=λd o=>∃j,d=(U,())/\SB g z j o/\Up Δ j c g.size) a' ?_ ?_ ⟨Ν,rfl,r_ _,B,f⟩) ?_)
 · rintro k d o hk⟨j,rfl,h',y,s⟩;have A:j k=k:=s.re k (r_ _) (by omega);refine bB (qK (ka (I:=λx d p=>p=o/\∃l r,d=(U,l,r)/\l<=r/\r<=k/\r-l<=k-x/\(∀i,i<l->Δ (j k) (j i)=D)/\(∀i,r<=i->i<k->Δ (j k) (j i)=L)) (Q:=λd p=>p=o/\∃l r,d=(U,l,r)/\l<=k/\(∀i,i<l->Δ (j k) (j i)=D)/\(∀i,l<=i->i<k->Δ (j k) (j i)=L)) (Sb k) ?_ ?_ ⟨rfl,0,k,rfl,by omega,by omega,by omega,λi hi=>by omega,λi h1 h2=>by omega⟩) ?_)
   · rintro x d p hx⟨rfl,l,r,rfl,b',v,hm,t,u⟩;dsimp only;by_cases E:l>=r
     · rw[if_pos E];have:l=r:=by omega
       subst this;exact cv ⟨rfl,l,l,rfl,v,t,u⟩
     ·rw[if_neg E];refine bB (Lp C y (by omega) (by omega) ?_);cases n:Δ (j k) (j ((l+r)/2))with
       |true=>
        simp only[if_true];refine cv ⟨rfl,l,(l+r)/2,rfl,by omega,by omega,by omega,t,λi i1 i2=>?_⟩;by_cases e:i=(l+r)/2;·subst e;exact n
        · rcases s.so ((l+r)/2) i (by omega) i2 with q|q;·exact O.tr _ _ _ n q
          ·exact O.lt_le n q.1|false=>
        simp only[A_,if_false];refine cv ⟨rfl,(l+r)/2+1,r,rfl,by omega,by omega,by omega,λi i1=>?_,u⟩;by_cases e:i=(l+r)/2;·subst e;exact n
        · rcases s.so i ((l+r)/2) (by omega) (by omega)with q|q;·exact O.le (O.as q) n
          ·exact O.le q.1 n
   · rintro d p⟨rfl,l,r,rfl,b',v,hm,t,u⟩;have:l=r:=by omega
     subst this;exact⟨rfl,l,l,rfl,v,t,u⟩
   · rintro d p⟨rfl,l,r,rfl,c',t,u⟩;show Ė Å w ν Ê (do moveDown' k l;pure (VE (U,()))) _ _;rw[moveDown'_eq];refine bB (k9 (cv ⟨Ō j k l,rfl,by omega,y.bubble (by omega) c',?_⟩));refine⟨λa b H hb=>?_,λa ha=>?_,λa ha hN=>?_⟩
     · have c1:Ō j k l l=j k:=by unfold Ō;rw[if_pos rfl]
       have c2:∀x,l<x->x<=k->Ō j k l x=j (x-1):=λx h1 h2=>by unfold Ō;rw[if_neg (by omega),if_pos ⟨h1,h2⟩]
       have P:∀x,x<l->Ō j k l x=j x:=λx h1=>by unfold Ō;rw[if_neg (by omega),if_neg (by omega)]
       by_cases d':b=l;·subst d';rw[c1,P a H];exact .of_le (t a (by omega)) (by rw[A];exact s.lo a (by omega))
       · by_cases e':l<b
         · rw[c2 b e' (by omega)];by_cases f':a=l;·subst f';rw[c1];exact .inl (u (b-1) (by omega) (by omega))
           · by_cases g':l<a;·rw[c2 a g' (by omega)];exact s.so (a-1) (b-1) (by omega) (by omega)
             ·rw[P a (by omega)];exact s.so a (b-1) (by omega) (by omega)
         ·rw[P a (by omega),P b (by omega)];exact s.so a b H (by omega)
     · unfold Ō;split;·rw[A];omega
       · split;·have:=s.lo (a-1) (by omega);omega
         ·have:=s.lo a (by omega);omega
     ·unfold Ō;rw[if_neg (by omega),if_neg (by omega)];exact s.re a (by omega) hN
 ·rintro d o⟨j,rfl,_,y,s⟩;exact⟨j,rfl,y,s⟩
 ·rintro d o⟨j,rfl,y,s⟩;exact cv (h j o y s)
structure NO(a₀:Array WK)(blt:Nat->Nat->Bool)(p:Nat->Nat)(xs:Array WK):Prop where
 sz:xs.size=a₀.size
 at':∀k,k<a₀.size->xs[k]?=a₀[p k]?lt:∀k,k<a₀.size->p k<a₀.size
 inj:∀a b,a<a₀.size->b<a₀.size->p a=p b->a=b
 so:∀a b,a<b->b<a₀.size->İ blt (p a) (p b)
def Dne(a:Array WK)(c:Nat->Nat->Bool)(b:UJ):Prop:=∃p,NO a c p (WA b)/\Y9 b=U/\Yd b=#[(0,a.size,0)]
def SB.done{b:Array WK}{d:Vo}{c:UJ}(B:SB b d Ν c)(a:Up Δ Ν b.size b.size):Dne b Δ (setPending c ((Yd c).push (0,b.size,0))):=⟨Ν,⟨B.sz,B.at',B.lt,B.inj,a.so⟩,B.failed,by show(Yd c).push _=_;rw[B.pend];rfl⟩
def Es{b:Array WK}{i:Vo}{v:UJ}{Q:Unit->UJ->Prop}(O:Od Δ)(C:Cm Å w Ê b i Δ)(B:SB b i Ν v)(hp:∀k,k<b.size->Ν k=k)(h2:2<=b.size)(u:b.size<64)(h:∀E d,NO b Δ E (WA d)->Y9 d=U->Q () d):Ė Å w ν Ê sortRuns' Q v:=by
 rw[sortRuns'_eq];refine bB (we ?_);dsimp only;have q:minRun' b.size b.size 0=b.size:=by
  obtain⟨f,hf⟩:∃f,b.size=f+1:=⟨b.size-1,by omega⟩;have:minRun' (f+1) b.size 0=b.size:=by rw[minRun'_succ,if_pos u];rfl
  rwa[<-hf]at this
 simp only[B.sz,q];refine bB (qK (ka (I:=λx c d=>(x=0/\c=(U,0)/\SB b i Ν d)\/(1<=x/\c=(U,b.size)/\Dne b Δ d)) (Q:=λc d=>c=(U,b.size)/\Dne b Δ d) (Sb _) ?_ ?_ (.inl ⟨rfl,rfl,B⟩)) ?_)
 · rintro x c d H(⟨rfl,rfl,B'⟩|⟨a',rfl,a⟩)
   · dsimp only;rw[if_neg (by omega)];simp only[Nat.sub_zero,Nat.min_self,U1];refine bB (GH O C B' (by omega) (r_ _) hp λm p2 p n t r y=>?_);dsimp only;by_cases g:m<b.size
     · rw[if_pos g];refine bB (yO λs P=>UG ⟨P,?_⟩);refine bB (Pa O C n t r (r_ _) y λp3 o z U3=>?_);simp only[V5,A_,if_false];refine bB (we ?_);have j:(Yd o).back?=U:=by rw[z.pend];rfl
       rw[j];dsimp only;exact bB (k9 (cv (.inr ⟨by omega,rfl,z.done U3⟩)))
     · rw[if_neg g];have hm:m=b.size:=by omega
       subst hm;refine bB (we ?_);have j:(Yd p).back?=U:=by rw[n.pend];rfl
       rw[j];dsimp only;exact bB (k9 (cv (.inr ⟨by omega,rfl,n.done y⟩)))
   ·dsimp only;rw[if_pos (r_ _)];exact cv ⟨rfl,a⟩
 · rintro c d(⟨H,_,_⟩|⟨_,hc,a⟩);·omega
   ·exact⟨hc,a⟩
 · rintro c d⟨rfl,A,D1,D2,D3⟩;dsimp only;refine bB (qK (ka (I:=λ_ c e=>e=d/\c=(U,())) (Q:=λc e=>e=d/\c=(U,())) (Sb _) ?_ (λ_ _ hh=>hh) ⟨rfl,rfl⟩) ?_);·rintro x c e _⟨rfl,rfl⟩;refine bB (we ?_);rw[if_pos (by rw[D3];exact r_ 1)];exact cv ⟨rfl,rfl⟩
   ·rintro c e⟨rfl,rfl⟩;exact cv (h A _ D1 D2)
def JT(s:g_)(H:M_):g_->Prop:=λb=>∃a,s.toks<=a/\b={s with heap:=H,toks:=a}
open L2
def wf(b:Bool)(x y:R):keyLt' (tuples' b) x y=(do
 let c<-Wz x;let a<-Wz y
 for((p,q),i)in(c.toList.zip a.toList).zipIdx do if !(<-eqBool p q)then return<-oneLt' (b&&i==0) p q
 return uk (c.size<a.size)):=rfl
def wg(v:R):firstOfTuple' v=(do
 if(<-aaz v)!=.type "tuple"then return U
 return(<-Wz v)[0]?):=rfl
def nG(h:M_)(A:x_)(z:Bool)(p q:R)(e l:Bool):Prop:=∀(a:on)(w:z_)(E:R->g_->Prop)(s:g_),s.heap=h->(∀Q:Bool->g_->Prop,Q e s->t_ (y_ a w) A (eqBool p q) Q E s)/\(∀(b:Bool)(Q:Bool->g_->Prop),(b=L->z=L)->Q l s->t_ (y_ a w) A (oneLt' b p q) Q E s)
def qM(x:Bool){M:VB}{A:x_}{E:R->g_->Prop}{s:g_}{Q:Bool->g_->Prop}(h:Q x s):t_ M A (truthOfDropped (.bool x)) Q E s:=TW h
def uE(d:M_)(A:x_)(z:Bool)(a b:Str)(t u:Tok):nG d A z (.str a t) (.str b u) (uk (a=b)) (uk (a.cps.toList<b.cps.toList)):=λc w E s _=>⟨λQ h=>wpAny_eqBool_str h,λe Q _ h=>by cases e with|true=>exact oneLt_str h|false=>rw[Zi];simp only[A_,if_false];exact c_ (Zl (qM _ h):t_ (y_ c w) A (So .Lt (.str a t) (.str b u)) _ E s)⟩
def Cf(d:M_)(A:x_)(z:Bool)(a b:Int)(t u:Tok):nG d A z (.int a t) (.int b u) (a==b) (uk (a<b)):=λc w E s _=>⟨λQ h=>wpAny_eqBool_int h,λe Q _ h=>by cases e with|true=>exact oneLt_int h|false=>rw[Zi];simp only[A_,if_false];exact c_ (PyProof.Rows.lt_int (qM _ h):t_ (y_ c w) A (So .Lt (.int a t) (.int b u)) _ E s)⟩
def GI(d:M_)(A:x_)(z:Bool)(a b:Bool):nG d A z (.bool a) (.bool b) (a==b) (uk (b2i a<b2i b)):=λc w E s _=>⟨λQ h=>Y3 a b c w E Q h,λe Q _ h=>by cases e with|true=>rw[Zi];simp only[if_true];refine c_ (wpAny_cRoomFor_byValue rfl ?_);refine c_ (wpAny_callSpecialIfBound?_slot (ZW s a) F.slot_bool_lt (call_gives F.slot_bool_lt (ZW s a) F.entry_int_lt (F.args_int_lt_2 _ _) (gives_int_lt_bools a b) ?_));exact qM _ h|false=>rw[Zi];simp only[A_,if_false];exact c_ (PyProof.Rows.lt_bool (qM _ h):t_ (y_ c w) A (So .Lt (.bool a) (.bool b)) _ E s)⟩
def fQ:List (Bool×Bool)->Option Bool|[]=>U|(L,_)::r=>fQ r|(D,l)::_=>Z l
def jm(k l:Bool)(a:List (Bool×Bool)):(fQ ((k,l)::a)).getD D=if k=L then(fQ a).getD D else l:=by cases k<;>rfl
inductive qN(h:M_)(A:x_):Bool->List (R×R)->List (Bool×Bool)->Prop|nil{z:Bool}:qN h A z [] []|cons{z:Bool}{p q:R}{e l:Bool}{ps:List (R×R)}{rs:List (Bool×Bool)}:nG h A z p q e l->qN h A D ps rs->qN h A z ((p,q)::ps) ((e,l)::rs)
def yR{c:on}{w:z_}{A:x_}{E:R->g_->Prop}{s:g_}(b:Bool){a:Option Bool×Unit->g_->Prop}:∀{z:Bool}{l:List (R×R)}{d:List (Bool×Bool)}(k:Nat),qN s.heap A z l d->(k=0->z=L)->a (fQ d,()) s->t_ (y_ c w) A (ſ (l.zipIdx k) ((U,()):Option Bool×Unit) λx __s=>match x with|((p,q),i)=>do
 let __do_lift<-eqBool p q if(!__do_lift)=L then do
 let __do_lift<-oneLt' (b&&i==0) p q
 pure (ForInStep.done (Z __do_lift,()))else pure (VE (U,()))) a E s
 |_,_,_,k,.nil,_,h=>by rw[YI,WE];exact j_ h|_,_,_,k,.cons (p:=p) (q:=q) (e:=e) (l:=l) i r,g,h=>by rw[Yg,Xb];refine c_ ?_;dsimp only;refine c_ ((i c w E s rfl).1 _ ?_);cases e with|true=>simp only[V5,A_,if_false];exact j_ (yR b (k+1) r (λz=>absurd z (Nat.succ_ne_zero k)) h)|false=>simp only[WG,if_true];exact c_ ((i c w E s rfl).2 _ _ (λf=>g (by simp at f;exact f.2)) (j_ (j_ h)))
def yS(b:Bool){a c:O}{f e:Array R}{g:List (Bool×Bool)}{Q:Bool->g_->Prop}(m:d.heap.IsTuple a f)(k:d.heap.IsTuple c e)(j:qN d.heap w L (f.toList.zip e.toList) g)(h:Q ((fQ g).getD (uk (f.size<e.size))) d):t_ (y_ q o) w (keyLt' (tuples' b) (.ref a) (.ref c)) Q ν d:=by rw[wf];obtain⟨v,p,_,z,t⟩:=m;obtain⟨u,n,_,y,s⟩:=k;refine c_ (UZ p t (c_ (UZ n s ?_)));refine c_ (yR b 0 j (λ_=>rfl) ?_);dsimp only;cases i:fQ g with|none=>rw[i]at h;exact j_ h|some r=>rw[i]at h;exact j_ h
inductive lO(h:M_):List R->List R->Prop|nil:lO h [] []|cons{a:O}{xs:Array R}{f:R}{vs fs:List R}:h.IsTuple a xs->xs[0]?=Z f->lO h vs fs->lO h (.ref a::vs) (f::fs)
def qO{b:on}{w:z_}{A:x_}{E:R->g_->Prop}{s:g_}{a:List (Option R)->g_->Prop}:∀{e:List R}{fs:List R},lO s.heap e fs->a (fs.map Z) s->t_ (y_ b w) A (e.mapM firstOfTuple') a E s|_,_,.nil,h=>by rw[List.mapM_nil];exact j_ h|_,_,.cons i f r,h=>by rw[List.mapM_cons,wg];obtain⟨o,g,c,n,d⟩:=i;refine c_ (c_ (UU (T:="tuple") ⟨o,g,c⟩ ?_));rw[if_neg (by decide)];refine c_ (UZ g d (j_ ?_));rw[f];refine c_ (qO r ?_);exact j_ h
def Ls(p q:R)(e l:Bool):Prop:=∀(a:on)(w:z_)(A:x_)(E:R->g_->Prop)(s:g_),(∀Q:Bool->g_->Prop,Q e s->t_ (y_ a w) A (eqBool p q) Q E s)/\(∀Q:R->g_->Prop,Q (.bool l) s->t_ (y_ a w) A (richCompare .Lt p q) Q E s)
inductive nH:List (R×R)->List (Bool×Bool)->Prop|nil:nH [] []|cons{p q:R}{e l:Bool}{ps:List (R×R)}{rs:List (Bool×Bool)}:Ls p q e l->nH ps rs->nH ((p,q)::ps) ((e,l)::rs)
section
open PySem.SeqAt
open PySem.AutoSeq1(wpAny_loadPart')
open PySem.MeetsSeq PySem.MeetsSeq2 PySem.MeetsSeq3
def yT(l b:O)(f c:Array R)(n n2:Nat)(dd E:Option O)(P z:Array (Option R))(t:List (Bool×Bool))(hi:nH (f.toList.zip c.toList) t)(hz:f.size=c.size):Meets (Tq.«tuple.__lt__» ⟨[.ref l,.ref b],[]⟩) (λ_ a s=>s.heap.get? l=Z {cls:=.type "tuple",dict:=dd,data:=.seq f n,slots:=P}/\s.heap.get? b=Z {cls:=.type "tuple",dict:=E,data:=.seq c n2,slots:=z}/\a (.ok (.ret (.bool ((fQ t).getD D)))) s):=.of_wp λk w A a s h=>by
 obtain⟨u,g,d,q,os⟩:=s;obtain⟨hl,hb,h⟩:=h;have I:=AutoSeq1.sub_tuple_tuple;wp_walk using wpAny_loadPart' hl,wpAny_loadPart' hb,WO _ (λrest b o=>b.1=U/\o=⟨u,g,d,q,os⟩/\∃j,nH rest j/\a (.ok (.ret (.bool ((fQ j).getD D)))) ⟨u,g,d,q,os⟩) _;case turn=>rintro⟨y,x⟩rest b o⟨m,rfl,j,v,p⟩;cases v with|cons i r=>rename_i e lw H;rw[jm]at p;refine c_ ((i k w _ _ _).1 _ ?_);cases e with|true=>wp_walk;exact⟨rfl,rfl,_,r,by simpa using p⟩|false=>have B:=λQ h=>(i k w A.in1 (λe o=>a (.error e) o) ⟨u,g,d,q,os⟩).2 Q h;wp_walk using B;exact⟨_,rfl,by simpa using p⟩
 case fin=>rintro⟨b1,b2⟩o⟨m,rfl,j,v,p⟩;simp only at m;subst m;cases v;wp_walk;exact⟨_,rfl,by simpa[Builtin.Tuple.tupleCompareSizes,hz,fQ]using p⟩
 case h=>exact⟨rfl,rfl,t,hi,h⟩
end
def qP:List Str->List Str->Bool|x::b,y::a=>if x=y then qP b a else uk (x.cps.toList<y.cps.toList)|_,_=>D
def nI:∀{e f:List Str}{c b:List R},e.length=f.length->Î (e.map V.str) c->Î (f.map V.str) b->∃d,nH (c.zip b) d/\(fQ d).getD D=qP e f
 |[],[],c,b,_,v,m=>by cases v;exact⟨[],.nil,rfl⟩|k::e,j::f,c,b,r,v,m=>by cases v with|cons p o=>cases m with|cons i g=>obtain⟨d,q,i2⟩:=nI (by simpa using r) o g;obtain⟨t,rfl⟩:=p;obtain⟨n,rfl⟩:=i;refine⟨(uk (k=j),uk (k.cps.toList<j.cps.toList))::d,.cons (λa w A E s=>⟨(uE s.heap A D k j t n a w E s rfl).1,λQ h=>(Zl h:t_ (y_ a w) A (So .Lt (.str k t) (.str j n)) Q E s)⟩) q,?_⟩;rw[jm,i2];simp[qP]
 |[],_::_,_,_,h,_,_=>by simp at h|_::_,[],_,_,h,_,_=>by simp at h
def sO{a:on}{w:z_}:∀{c:List Str}{b:List R},Î (c.map V.str) b->aaO (SM a w) c b|[],b,v=>by cases v;exact .nil|k::c,b,v=>by cases v with|cons e d=>obtain⟨t,rfl⟩:=e;exact .cons (by show VF k (.str k t)=L;simp[VF]) (sO d)
def Cg{k:List Str}{j:List R}(hu:w.units+8<cLine)(h1:P.IsTuple e E.toArray)(h2:P.IsTuple r j.toArray)(hl:v.length=k.length)(o:Î (v.map V.str) E)(m:Î (k.map V.str) j):nG P w D (.ref e) (.ref r) (uk (v=k)) (qP v k):=λi a c s hs=>by subst hs;obtain⟨⟨a',dd,A,H⟩,p,z,n,y⟩:=id h1;obtain⟨⟨B,t,data2,q⟩,d,g,n2,f⟩:=id h2;simp only at z y g f;subst z y g f;refine⟨λQ h=>PySem.wpAny_eqBool_tuple (knd:=SM i a) (by omega) ⟨_,_,_,p,rfl,rfl,by simpa using sO o⟩ ⟨_,_,_,d,rfl,rfl,by simpa using sO m⟩ h,λb Q hb h=>?_⟩;cases b with|true=>exact absurd (hb rfl) (by decide)|false=>
 rw[Zi];simp only[A_,if_false];obtain⟨u,i1,i2⟩:=nI hl o m;rw[<-i2]at h;have hz:E.toArray.size=j.toArray.size:=by have e1:=o.length;have e2:=m.length;simp at e1 e2⊢;omega
 refine c_ ?_;exact richCompare_meets_room (op:=.Lt) ⟨_,p,rfl⟩ ⟨_,d,rfl⟩ PySem.F.slot_tuple_lt PySem.F.entry_tuple_lt (PySem.F.args_tuple_lt_2 _ _) (yT e r E.toArray j.toArray n n2 dd t H q u i1 hz) ⟨p,d,show R9 ((fQ u).getD D)≠Value.notImplemented/\_ from⟨(λx=>nomatch x),qM _ h⟩⟩ (by omega)
open FD
def Ē:N->Nat|.str _=>1|.int _=>2|.bl _=>3|.tup b=>(match cD b with|some a=>4+a.length|none=>0)|_=>0
def ł:N->N->Bool|.str a,.str b=>uk (a=b)|.int a,.int b=>a==b|.bl a,.bl b=>a==b|.tup a,.tup b=>(match cD a,cD b with|some x,Z y=>uk (x=y)|_,_=>D)|_,_=>D
def Ġ:N->N->Bool|.str a,.str b=>uk (a.cps.toList<b.cps.toList)|.int a,.int b=>uk (a<b)|.bl a,.bl b=>uk (b2i a<b2i b)|.tup a,.tup b=>(match cD a,cD b with|some x,Z y=>qP x y|_,_=>D)|_,_=>D
def ď:List N->List N->Bool|x::b,y::a=>if ł x y then ď b a else Ġ x y|_,_=>D
def ă(a:List N):List Nat:=a.map Ē
def jn(a:List Nat):Bool:=a.all λk=>k !=0
def iR:∀{b:List N}{a:List Str},cD b=Z a->b=a.map N.str|[],a,h=>by cases h;rfl|.str x::r,a,h=>by obtain⟨d,c,rfl⟩:=Ux.mp (show(cD r).map (x::·)=Z a from h);rw[iR c];rfl|.non::_,_,h=>by cases h|.bl _::_,_,h=>by cases h|.int _::_,_,h=>by cases h|.tup _::_,_,h=>by cases h|.lst _::_,_,h=>by cases h|.scr _::_,_,h=>by cases h|.exn _::_,_,h=>by cases h|.obj _ _::_,_,h=>by cases h
def jf(h:Ē (.tup k)≠0):∃a,cD k=Z a/\Ē (.tup k)=4+a.length:=by
 simp only[Ē]at h⊢;split at h;·rename_i a e;exact⟨a,e,rfl⟩
 ·exact absurd rfl h
def nJ(h:ł n ξ=L):n=ξ:=by
 cases n<;>cases ξ<;>simp only[ł,A_,decide_eq_true_eq,beq_iff_eq]at h<;>try(rw[h];done)
 split at h;·rename_i b a;rw[iR b,iR a,of_decide_eq_true h]
 ·cases h
def uF(h:Ē n≠0):ł n n=L:=by
 cases n<;>try(simp[Ē]at h;done)
 all_goals try(simp[ł];done)
 obtain⟨a,e,_⟩:=jf h;simp[ł,e]
def Et:∀a:List Str,qP a a=D|[]=>rfl|x::a=>by rw[qP,if_pos rfl];exact Et a
def Eu:∀{g f d:List Str},qP g f=L->qP f d=L->qP g d=L
 |x::g,y::f,z::d,a,b=>by
  unfold qP at a b⊢;by_cases h:x=y
  · subst h;rw[if_pos rfl]at a;by_cases c:x=z;·rw[if_pos c]at b⊢;exact Eu a b
    ·rw[if_neg c]at b⊢;exact b
  · rw[if_neg h]at a;by_cases c:y=z;·subst c;rw[if_neg h];exact a
    ·rw[if_neg c]at b;have:=Zw (of_decide_eq_true a) (of_decide_eq_true b);rw[if_neg λe=>by subst e;exact Za _ this];exact decide_eq_true this|[],_,_,a,_=>by simp[qP]at a|_::_,[],_,a,_=>by simp[qP]at a|_::_,_::_,[],_,b=>by simp[qP]at b
def yU(a b:Str)(h:¬a.cps.toList<b.cps.toList)(c:¬b.cps.toList<a.cps.toList):a=b:=by have e:a.cps.toList=b.cps.toList:=aah (Y_.mp c) (Y_.mp h);obtain⟨⟨a⟩⟩:=a;obtain⟨⟨b⟩⟩:=b;simp at e;rw[e]
def yV:∀{b a:List Str},b.length=a.length->qP b a=D->qP a b=D->b=a
 |[],[],_,_,_=>rfl|x::b,y::a,f,d,c=>by
  unfold qP at d c;by_cases e:x=y;·subst e;rw[if_pos rfl]at d c;rw[yV (by simpa using f) d c]
  ·rw[if_neg e]at d;rw[if_neg (Vg e)]at c;exact absurd (yU _ _ (of_decide_eq_false d) (of_decide_eq_false c)) e|[],_::_,h,_,_=>by simp at h|_::_,[],h,_,_=>by simp at h
def uG(x:N):Ġ x x=D:=by cases x with
 |str a=>simp only[Ġ,decide_eq_false_iff_not];exact Za _|int a=>simp[Ġ]|bl a=>cases a<;>rfl|tup d=>
 simp only[Ġ];split;·rename_i x y c b;rw[c]at b;cases b;exact Et x
 ·rfl|_=>rfl
variable{Α:N}
def uH(b:Ġ n ξ=L)(a:Ġ ξ Α=L):Ġ n Α=L:=by
 cases n<;>cases ξ<;>simp only[Ġ,A_,decide_eq_true_eq]at b<;>cases Α<;>simp only[Ġ,A_,decide_eq_true_eq]at a⊢;·omega
 ·omega
 ·exact Zw b a
 · split at b
   · rename_i j i f e;split at a;·rename_i h g c d;rw[e]at c;cases c;rw[f,d];exact Eu b a
     ·cases a
   ·cases b
def yW(c:Ē n=Ē ξ)(g:Ē n≠0)(f:Ġ n ξ=D)(d:Ġ ξ n=D):n=ξ:=by cases n with
 |str a=>cases ξ with|str b=>simp only[Ġ,decide_eq_false_iff_not]at f d;rw[yU _ _ f d]|tup b=>obtain⟨_,_,e⟩:=jf (show Ē (.tup b)≠0 by rw[<-c];exact g);simp only[Ē]at c e;rw[e]at c;omega|_=>simp[Ē]at c
 |int a=>cases ξ with|int b=>simp[Ġ]at f d;rw[show a=b by omega]|tup b=>obtain⟨_,_,e⟩:=jf (show Ē (.tup b)≠0 by rw[<-c];exact g);simp only[Ē]at c e;rw[e]at c;omega|_=>simp[Ē]at c
 |bl a=>cases ξ with|bl b=>cases a<;>cases b<;>simp[Ġ,b2i]at f d⊢|tup b=>obtain⟨_,_,e⟩:=jf (show Ē (.tup b)≠0 by rw[<-c];exact g);simp only[Ē]at c e;rw[e]at c;omega|_=>simp[Ē]at c
 |tup a=>obtain⟨k,j,i⟩:=jf g;cases ξ with|tup b=>obtain⟨m,h,o⟩:=jf (show Ē (.tup b)≠0 by rw[<-c];exact g);simp only[Ġ,j,h]at f d;rw[iR j,iR h,yV (by omega) f d]|_=>simp only[Ē]at c i;rw[i]at c;omega
 |_=>exact absurd rfl g
def yX:∀a:List N,ď a a=D
 |[]=>rfl|x::a=>by
  unfold ď;split;·exact yX a
  ·exact uG x
def yY:∀{h g f:List N},ď h g=L->ď g f=L->ď h f=L
 |x::h,y::g,z::f,a,b=>by
  unfold ď at a b⊢;by_cases d:ł x y=L
  · have:=nJ d;subst this;rw[if_pos d]at a;by_cases c:ł x z=L;·rw[if_pos c]at b⊢;exact yY a b
    ·rw[if_neg c]at b⊢;exact b
  · rw[if_neg d]at a;by_cases c:ł y z=L;·have:=nJ c;subst this;rw[if_neg d];exact a
    ·rw[if_neg c]at b;have:=uH a b;rw[if_neg λe=>by have:=nJ e;subst this;have:=uH a b;rw[uG]at this;cases this];exact this|[],_,_,a,_=>by simp[ď]at a|_::_,[],_,a,_=>by simp[ď]at a|_::_,_::_,[],_,b=>by simp[ď]at b
def yZ:∀{d c g:List N},ă d=ă c->ă c=ă g->jn (ă d)=L->ď d g=L->ď d c=L\/ď c g=L
 |x::d,y::c,z::g,a,e,j,h=>by
  simp only[ă,K_,YJ]at a e;simp only[ă,jn,K_,Tn,pi,bne_iff_ne,ne_eq]at j;have i:=j.1;unfold ď at h⊢;by_cases f:ł x y=L
  · have:=nJ f;subst this;rw[if_pos f];by_cases b:ł x z=L;·rw[if_pos b]at h⊢;exact yZ a.2 e.2 (by simpa[jn,ă]using j.2) h
    ·rw[if_neg b]at h⊢;exact .inr h
  · rw[if_neg f];by_cases b:ł y z=L;·have:=nJ b;subst this;rw[if_neg f]at h;exact .inl h
    ·rw[if_neg b];cases o:Ġ x y with|true=>exact .inl rfl|false=>cases n:Ġ y z with|true=>exact .inr rfl|false=>
    exfalso;have r:Ġ y x=L:=by cases q:Ġ y x with|true=>rfl|false=>have:=yW a.1 i o q;subst this;exact absurd (uF i) f
    have p:Ġ z y=L:=by cases q:Ġ z y with|true=>rfl|false=>have:=yW e.1 (by rw[<-a.1];exact i) n q;subst this;exact absurd (uF (by rw[<-a.1];exact i)) b
    have k:=uH p r;by_cases m:ł x z=L;·have:=nJ m;subst this;rw[uG]at k;cases k
    ·rw[if_neg m]at h;have:=uH h k;rw[uG]at this;cases this
 |[],_,_,_,_,_,h=>by simp[ď]at h|_::_,[],_,a,_,_,_=>by simp[ă]at a|_::_,_::_,[],_,e,_,_=>by simp[ă]at e
def za{R:Nat->Nat->Prop}(g:∀a b,R a b->R b a->False):∀{l m:List Nat},l.Perm m->l.Pairwise R->m.Pairwise R->l=m
 |[],m,c,_,_=>c.nil_eq|x::l,[],c,_,_=>by simpa using c.length_eq|x::l,y::m,c,f,d=>by
  rw[RY]at f d;have e:x=y:=by
   rcases w_.mp (c.mem_iff.mp (o_ (a:=x)))with e|i;·exact e
   · rcases w_.mp (c.mem_iff.mpr (o_ (a:=y)))with e|h;·exact e.symm
     ·exact(g _ _ (f.1 y h) (d.1 x i)).elim
  subst e;rw[za g c.cons_inv f.2 d.2]
variable{Δ:Nat->Nat->Bool}
def İ.as(O:Od Δ){a b:Nat}(h:İ Δ a b)(c:İ Δ b a):False:=by
 have:=h.tr O c;rcases this with q|q;·rw[O.ir]at q;cases q
 ·omega
def zb{a:Nat->Nat->Bool}(O:Od a)(x:Nat):∀l:List Nat,(∀y∈l,x<y)->l.Pairwise (İ a)->(mP (λi j=>!a j i) x l).Pairwise (İ a)
 |[],_,_=>by simp[mP]|y::l,e,h=>by
  unfold mP;rw[RY]at h;split
  · rename_i d;have c:İ a x y:=.of_le (by simpa using d) (e y o_);rw[RY,RY];refine⟨λz b=>?_,h⟩;rcases w_.mp b with rfl|b;·exact c
    ·exact c.tr O (h.1 z b)
  · rename_i d;rw[RY];refine⟨λz b=>?_,zb O x l (λz b=>e z (m_ _ b)) h.2⟩;rcases w_.mp ((io _ x l).mem_iff.mp b)with rfl|b;·exact .inl (by simpa using d)
    ·exact h.1 z b
def uI{a:Nat->Nat->Bool}(O:Od a):∀l:List Nat,l.Pairwise (·<·)->(isortB (λi j=>!a j i) l).Pairwise (İ a)|[],_=>.nil|x::l,h=>by rw[RY]at h;exact zb O x _ (λy b=>h.1 y ((isortB_perm _ l).mem_iff.mp b)) (uI O l h.2)
def zc{a c:Type}{d:a->a->Bool}{b:c->c->Bool}(f:a->c)(x:a):∀l:List a,(∀y∈l,d x y=b (f x) (f y))->(mP d x l).map f=mP b (f x) (l.map f)
 |[],_=>rfl|y::l,h=>by
  have e:=h y o_;simp only[mP,K_];rw[<-e];split;·rfl
  ·rw[K_,zc f x l λz g=>h z (m_ _ g)]
def sort_map{d e:Type}{g:d->d->Bool}{c:e->e->Bool}(f:d->e):∀l:List d,(∀x∈l,∀y∈l,g x y=c (f x) (f y))->(isortB g l).map f=isortB c (l.map f)|[],_=>rfl|x::l,h=>by simp only[isortB,K_];rw[zc (b:=c) f x _ λy i=>h x o_ y (m_ _ ((isortB_perm _ l).mem_iff.mp i)),sort_map f l λa k b j=>h a (m_ _ k) b (m_ _ j)]
def lP:∀(l m:List Nat),l.Nodup->(∀x∈l,x∈m)->m.length<=l.length->l.Perm m
 |[],m,_,_,h=>by have:m=[]:=TN.mp (by simpa using h);subst this;exact .refl _|x::l,m,a,c,h=>by
  rw[TD]at a;obtain⟨e,d,rfl⟩:=List.append_of_mem (c x o_);refine((lP l (e++d) a.2 (λy b=>?_) (by simp at h⊢;omega)).cons x).trans List.perm_middle.symm;have:=c y (m_ _ b);simp only[Sr,w_]at this⊢;rcases this with q|rfl|q;·exact .inl q
  ·exact(a.1 b).elim
  ·exact .inr q
variable{Ν:Nat->Nat}
def sP(f:∀k,k<c->Ν k<c)(d:∀a b,a<c->b<c->Ν a=Ν b->a=b):((rl c).map Ν).Perm (rl c):=by
 have h:((rl c).map Ν).Nodup:=by rw[List.nodup_iff_pairwise_ne,VM];refine(List.nodup_range (n:=c)).imp_of_mem λ{a b}n m g e=>g (d a b (by simpa using n) (by simpa using m) e)
 have sub:∀x∈(rl c).map Ν,x∈rl c:=λx i=>by obtain⟨k,j,rfl⟩:=R7.mp i;simpa using f k (by simpa using j)
 exact lP _ _ h sub (by simp)
def jK(O:Od Δ){n:Nat}{p:Nat->Nat}(d:∀k,k<n->p k<n)(c:∀a b,a<n->b<n->p a=p b->a=b)(f:∀a b,a<b->b<n->İ Δ (p a) (p b)):(rl n).map p=isortB (λi j=>!Δ j i) (rl n):=by refine za (λa b h m=>h.as O m) ((sP d c).trans (isortB_perm _ _).symm) ?_ (uI O _ YA);rw[VM];exact(YA (n:=n)).imp_of_mem λ{a b}o g e=>f a b e (by simpa using g)
def uJ{b:on}{w:z_}{A:x_}{E:R->g_->Prop}{s:g_}{a:List R->g_->Prop}:∀{fs:List R},(∀f∈fs,∃T,∀e:g_,e.TypeIs f T)->(∀c,a c s)->t_ (y_ b w) A (fs.mapM aaz) a E s|[],_,h=>by rw[List.mapM_nil];exact j_ (h _)|f::fs,d,h=>by obtain⟨T,hT⟩:=d f o_;rw[List.mapM_cons];refine c_ (UU (hT s) ?_);exact c_ (uJ (λg i=>d g (m_ _ i)) λc=>j_ (h _))
def Pb{c:List R}(j:lO d.heap E c)(i:∀f∈c,∃T,∀g:g_,g.TypeIs f T){a:Vo->g_->Prop}(h:∀b,a (tuples' b) d):t_ (y_ q o) w (keyKind' E.toArray) a ν d:=by
 rw[keyKind'_eq,Z3];refine c_ ?_;rw[<-bind_pure_comp];refine c_ (qO j (j_ ?_));rw[if_pos (by simp)];refine c_ (UG ?_);have e:(c.map Z).toArray.filterMap id=c.toArray:=by simp
 rw[e,oneTypeOnly'_eq,Z3];refine c_ (c_ ?_);rw[<-bind_pure_comp];refine c_ (uJ i λk=>j_ ?_);split;·exact j_ (j_ (h _))
 ·exact j_ (j_ (h _))
end TS
variable{Ê:g_->Prop}{Δ:Nat->Nat->Bool}{Ν:Nat->Nat}{Α:FD.N}
namespace FD
open L2 TS
def Ch:List N->Bool|[]=>D|d::_=>uk (Ē d<4)
def ip(a:List (List N)):Bool:=uk (a.length<64)&&a.all λr=>uk (ă r=ă (a.headD []))&&Ch r&&jn (ă r)
def qQ:∀{d:List N}{b:List Str}{a:List V},cD d=Z b->S s g d a->a=b.map V.str:=by intro d b a h r;have:=iR h;subst this;clear h;induction b generalizing a with|nil=>exact(show a=[]from r)|cons k b i=>obtain⟨v,c,rfl,f,e⟩:∃v c,a=v::c/\Ô s g (.str k) v/\S s g (b.map N.str) c:=r;cases(show v=.str k from f);rw[i e];rfl
def uK{X:C}{f':List (O×Obj)}{σ:L2.St}{H:Hp}{s:g_}{E:M_}{A:x_}(I:Ë X f' σ H s)(hu:A.units+8<cLine)(up:∀b o,s.heap.get? b=Z o->E.get? b=Z o):∀{z:Bool}{j d:List N}{P i:List V}{m f:List R},(z=L->Ch j=L)->ă j=ă d->jn (ă j)=L->S X.K H j P->S X.K H d i->Î P m->Î i f->∃B,qN E A z (m.zip f) B/\(fQ B).getD D=ď j d
 |z,[],[],P,i,m,f,_,_,_,r,r',v,v'=>by cases(show P=[]from r);cases v;exact⟨[],.nil,rfl⟩|z,x::j,y::d,P,i,m,f,hz,s,hk,r,r',v,v'=>by obtain⟨u,g,rfl,r1,r2⟩:∃v g,P=v::g/\Ô X.K H x v/\S X.K H j g:=r;obtain⟨u',i',rfl,w,b'⟩:∃v g,i=v::g/\Ô X.K H y v/\S X.K H d g:=r';simp only[ă,K_,YJ]at s;simp only[ă,jn,K_,Tn,pi,bne_iff_ne,ne_eq]at hk;cases v with|cons v1 v2=>cases v' with|cons k a'=>
  obtain⟨B,i1,i2⟩:=uK I hu up (z:=D) (λz=>by cases z) s.2 (by simpa[jn,ă]using hk.2) r2 b' v2 a';rename_i b1 l1 b2 l2;have one:∀(p q:R)(e l:Bool),nG E A z p q e l->(if e=L then ď j d else l)=ď (x::j) (y::d)->∃B,qN E A z ((p,q)::l1.zip l2) B/\(fQ B).getD D=ď (x::j) (y::d):=λp q e l h zz=>⟨(e,l)::B,.cons h i1,by rw[jm,i2];exact zz⟩;have kt:∀ds n,Ē (.tup ds)=n->n≠0->n<4->False:=λds n e h0 h4=>by obtain⟨_,_,e'⟩:=jf (k:=ds) (by omega);omega
  cases x with
  |str a=>cases y with|str b=>cases(show u=.str a from r1);cases(show u'=.str b from w);obtain⟨t,rfl⟩:=v1;obtain⟨t',rfl⟩:=k;exact one _ _ _ _ (uE E A z a b t t') rfl|tup b=>exact(kt b 1 s.1.symm (by decide) (by decide)).elim|_=>exact absurd s.1 (by simp[Ē])
  |int a=>cases y with|int b=>cases(show u=.int a from r1);cases(show u'=.int b from w);obtain⟨t,rfl⟩:=v1;obtain⟨t',rfl⟩:=k;exact one _ _ _ _ (Cf E A z a b t t') rfl|tup b=>exact(kt b 2 s.1.symm (by decide) (by decide)).elim|_=>exact absurd s.1 (by simp[Ē])
  |bl a=>cases y with|bl b=>cases(show u=.bl a from r1);cases(show u'=.bl b from w);cases v1;cases k;exact one _ _ _ _ (GI E A z a b) rfl|tup b=>exact(kt b 3 s.1.symm (by decide) (by decide)).elim|_=>exact absurd s.1 (by simp[Ē])
  |tup ds=>obtain⟨ks,e1,e2⟩:=jf hk.1;cases y with|tup g'=>
  obtain⟨js,e3,e4⟩:=jf (k:=g') (by rw[<-s.1];exact hk.1);obtain⟨a,xs,rfl,ha,rx⟩:=r1.tupE;obtain⟨c,ys,rfl,hc,ry⟩:=w.tupE;cases v1;cases k;obtain⟨l',q1,q2,_⟩:=I.tuple (ö.of ha);obtain⟨k',p1,p2,_⟩:=I.tuple (ö.of hc);have zf:z=D:=by cases z with|false=>rfl|true=>have:=hz rfl;simp only[Ch,decide_eq_true_eq]at this;omega
  subst zf;obtain⟨o1,g1,d'⟩:=q2;obtain⟨o2,g2,c'⟩:=p2;rw[qQ e1 rx]at q1;rw[qQ e3 ry]at p1;refine one _ _ _ _ (Cg hu ⟨o1,up _ _ g1,d'⟩ ⟨o2,up _ _ g2,c'⟩ (by have:=s.1;omega) q1 p1) ?_;simp only[ď,ł,Ġ,e1,e3]|_=>have:=s.1;simp only[Ē]at this e2;rw[e2]at this;omega
  |_=>exact absurd rfl hk.1
 |_,[],_::_,_,_,_,_,_,s,_,_,_,_,_=>by simp[ă]at s|_,_::_,[],_,_,_,_,_,s,_,_,_,_,_=>by simp[ă]at s
def Ci(d:Ē n≠0)(h:Ē n<4)(r:Ô s g n Γ)(c:Ú Γ Ζ):∃T,∀f:g_,f.TypeIs Ζ T:=by cases n with|str a=>cases(show Γ=.str a from r);obtain⟨t,rfl⟩:=c;exact⟨"str",λb=>V_ b _ _⟩|int a=>cases(show Γ=.int a from r);obtain⟨t,rfl⟩:=c;exact⟨"int",λb=>typeIs_int b _ _⟩|bl a=>cases(show Γ=.bl a from r);cases c;exact⟨"bool",λb=>ZW b _⟩|tup i=>obtain⟨_,_,e⟩:=jf d;omega|_=>exact absurd rfl d
def qR{X:C}{f':List (O×Obj)}{o:L2.St}{H:Hp}{s:g_}(b:Ë X f' o H s):∀{c:List (List N)}{g:List V}{d:List R},(∀r∈c,Ch r=L/\jn (ă r)=L)->S X.K H (c.map N.tup) g->Î g d->∃fs,lO s.heap d fs/\∀f∈fs,∃T,∀z:g_,z.TypeIs f T
 |[],g,d,_,r,v=>by cases(show g=[]from r);cases v;exact⟨[],.nil,by simp⟩|i::c,g,d,h,r,v=>by obtain⟨u,e,rfl,P,E⟩:∃v e,g=v::e/\Ô X.K H (.tup i) v/\S X.K H (c.map N.tup) e:=r;obtain⟨a,p,rfl,ha,A⟩:=P.tupE;cases v with|cons y w=>cases y;obtain⟨fs,f1,I⟩:=qR b (λr hr=>h r (m_ _ hr)) E w;obtain⟨a',B,pt,hz⟩:=b.tuple (ö.of ha);obtain⟨n,m⟩:=h i o_;cases i with|nil=>cases n|cons x i=>obtain⟨u,j,rfl,q1,q2⟩:∃v j,p=v::j/\Ô X.K H x v/\S X.K H i j:=A;cases B with|cons q w2=>
 rename_i t ts;refine⟨t::fs,.cons pt (by simp) f1,λf k=>?_⟩;rcases w_.mp k with rfl|k;·simp only[ă,jn,K_,Tn,pi,bne_iff_ne,ne_eq]at m;exact Ci m.1 (of_decide_eq_true n) q1 q
 ·exact I f k
def zd{X:C}{f':List (O×Obj)}{n:L2.St}{H:Hp}{s:g_}(I:Ë X f' n H s):∀{b:List (List N)}{e:List V}{d:List R}(i:Nat)(x:R),S X.K H (b.map N.tup) e->Î e d->d[i]?=Z x->∃a g c j,b[i]?=Z j/\e[i]?=Z (.ref a)/\x=.ref a/\S X.K H j g/\Î g c/\H a=Z (.tup g)/\s.heap.IsTuple a c.toArray|[],e,d,i,x,r,v,h=>by cases(show e=[]from r);cases v;simp at h|j::b,e,d,i,x,r,v,h=>by obtain⟨u,f,rfl,A,z⟩:∃v f,e=v::f/\Ô X.K H (.tup j) v/\S X.K H (b.map N.tup) f:=r;obtain⟨a,o,rfl,m,w⟩:=A.tupE;cases v with|cons t p=>cases t;cases i with|zero=>simp at h;subst h;obtain⟨c,y,P,hz⟩:=I.tuple (ö.of m);exact⟨a,o,c,j,rfl,rfl,rfl,w,y,m,P⟩|succ i=>obtain⟨a',g,c,k,E,B,q⟩:=zd I i x z p (by simpa using h);exact⟨a',g,c,k,by simpa using E,by simpa using B,q⟩
def cb{H:Hp}{K:d_}:∀{c:List N}{b:List V},S K H c b->c.length=b.length|[],b,r=>by cases(show b=[]from r);rfl|d::c,b,r=>by obtain⟨u,a,rfl,f,e⟩:∃v a,b=v::a/\Ô K H d v/\S K H c a:=r;simp[cb e]
def nK(a:k.length=θ.length)(h:∀(i:Nat)(d:N)(v:V),k[i]?=Z d->θ[i]?=Z v->Ô s g d v):S s g k θ:=by induction k generalizing θ with
 |nil=>cases θ with|nil=>exact rfl|cons _ _=>simp at a
 |cons d k b=>cases θ with|nil=>simp at a|cons w θ=>exact⟨w,θ,rfl,h 0 d w rfl rfl,b (by simpa using a) λi f v e c=>h (i+1) f v (by simpa using e) (by simpa using c)⟩
def lQ{H:Hp}{K:d_}:∀{c:List N}{b:List V},S K H c b->∀(i:Nat)(d:N)(v:V),c[i]?=Z d->b[i]?=Z v->Ô K H d v|[],_,_,i,d,v,h,_=>by simp at h|j::c,b,r,i,d,v,h,e=>by obtain⟨u,a,rfl,g,f⟩:∃v a,b=v::a/\Ô K H j v/\S K H c a:=r;cases i with|zero=>simp at h e;subst h;subst e;exact g|succ i=>exact lQ f i d v (by simpa using h) (by simpa using e)
def nM(a:θ.length=E.length)(h:∀(i:Nat)(v:V)(u:R),θ[i]?=Z v->E[i]?=Z u->Ú v u):Î θ E:=by induction θ generalizing E with
 |nil=>cases E with|nil=>exact .nil|cons _ _=>simp at a
 |cons d g b=>cases E with|nil=>simp at a|cons w θ=>exact .cons (h 0 d w rfl rfl) (b (by simpa using a) λi f v e c=>h (i+1) f v (by simpa using e) (by simpa using c))
def gO(a:List (List N))(i:Nat):List N:=a.getD i (a.headD [])
def lR{a:List (List N)}(h:∀r∈a,ă r=ă (a.headD [])/\Ch r=L/\jn (ă r)=L)(i:Nat):ă (gO a i)=ă (a.headD [])/\jn (ă (gO a i))=L:=by unfold gO;cases a with|nil=>exact⟨rfl,rfl⟩|cons r a=>
 by_cases b:i<(r::a).length
 · have e:(r::a).getD i ((r::a).headD [])=(r::a)[i]:=by unfold Tr;rw[s_ b];rfl
   rw[e];have:=h _ (Vr b);exact⟨this.1,this.2.2⟩
 · have e:(r::a).getD i ((r::a).headD [])=r:=by unfold Tr;rw[Ue (by omega)];rfl
   rw[e];exact⟨rfl,(h r o_).2.2⟩
def GJ{d:List (List N)}(h:∀r∈d,ă r=ă (d.headD [])/\Ch r=L/\jn (ă r)=L):Od λi j=>ď (gO d i) (gO d j)where ir:=λa=>yX _;tr:=λa b c e f=>yY e f;nt:=λa b c e=>yZ ((lR h a).1.trans (lR h b).1.symm) ((lR h b).1.trans (lR h c).1.symm) (lR h a).2 e
def sQ{a:List (List N)}(h:a[c]?=Z k):gO a c=k:=by unfold gO Tr;rw[h];rfl
open PySem.W
def Lu(G:ê a.prog a.w a.K a.mg a.base ù c e Ψ v (Ŋ a.K Ρ v.length))(s:Ö c w)(o:w.frames=a.A.frames)(t:é a.K Ψ v [])(I:Ë a H Μ g d){b:V}{u:R}{f n:N}(q:Ú b u)(r:Ô a.K g f b)(p:v.length=1)(y:Ρ [f]=Z (.ok n)):t_ (y_ a.prog a.w) w (call (.ref e) [u]) (EP a H Μ λm j=>Í g j/\Ô a.K j n m) ν d:=by have i:=I.env0;refine WP (TX (G.run w a.stack d g ⟨[u],[]⟩ [u] [b] (λm j=>Í g j/\Ô a.K j n m) E0 s ⟨o.trans i.frames,i.mod,i.bs,i.bsz,i.funs,i.frf,i.hok,i.bare⟩ (by simpa using t d [u] I.kIn (by simp[p])) (.cons q .nil) ⟨[f],⟨b,[],rfl,r,rfl⟩,p.symm,by rw[y];exactλb j h r=>⟨h,r⟩⟩) λr A k=>?_);cases r with|error h=>exact k.elim|ok z=>cases z with|ret u=>exact I.after k|next=>exact SK k|brk=>exact SK k|cont=>exact SK k
end FD
namespace TS
open FD
def uL{b:UJ}{P:Xn->g_->Prop}(i:d.heap.get? r=Z (Se "list" υ m))(k:d.heap.get? e=Z (Se "list" #[] c))(f:r≠e)(g:υ.size<=sizeLine)(n:(WA b).size<=sizeLine)(j:Y9 b=U)(h:P (.done (.ret .none)) {d with heap:=(d.heap.update r (J_ λ_=>#[])).update e (J_ λ_=>(WA b).map (·.2))}):t_ (y_ q o) w (ksk_tail e D c (.ref r) b) P ν d:=by
 unfold ksk_tail;refine c_ (VG i rfl ?_ g (Sb _));refine c_ (aak ?_);have a:(d.heap.update r (J_ λ_=>#[])).get? e=Z (Se "list" #[] c):=by rw[SG _ _ _ _ f.symm];exact k
 refine c_ (aar (s:={d with heap:=d.heap.update r (J_ λ_=>#[])}) a rfl ?_);refine c_ (VG (s:={d with heap:=d.heap.update r (J_ λ_=>#[])}) a rfl ?_ (Sb _) (by simp only[A_,if_false,Vs];omega));rw[j];simp only[bne_self_eq_false,A_,if_false];exact j_ h
def Pc{n fs:List R}{P:Xn->g_->Prop}(s:d.heap.get? r=Z (Se "list" E.toArray m))(ha:d.heap.get? e=Z (Se "list" #[] c))(b':r≠e)(d':E.length=n.length)(B:n.length<64)(g:Od Δ)(hF:lO d.heap E fs)(hf:∀f∈fs,∃T,∀s':g_,s'.TypeIs f T)(hC:∀(A':x_)(i j:Nat)(x y:R),A'.units<=w.units+8->E[i]?=Z x->E[j]?=Z y->∃e m xs ys rs,x=.ref e/\y=.ref m/\d.heap.IsTuple e xs/\d.heap.IsTuple m ys/\qN d.heap A' L (xs.toList.zip ys.toList) rs/\(fQ rs).getD (uk (xs.size<ys.size))=Δ i j)(h:∀(p:Nat->Nat)(out:Array R)(v:Nat),out.size=n.length->(∀k,k<n.length->out[k]?=n[p k]?)->(rl n.length).map p=isortB (λi j=>!Δ j i) (rl n.length)->(∀k,k<n.length->p k<n.length)->P (.done (.ret .none)) {d with heap:=(d.heap.update r (J_ λ_=>#[])).update e (J_ λ_=>out),toks:=v}):t_ (y_ q o) w (ksk_end e D n.toArray c (.ref r) E.toArray) P ν d:=by
 unfold ksk_end;simp only[A_,if_false];have H:E.toArray.size<=sizeLine:=line64 (by simp;omega);have u:(E.toArray.zip n.toArray).size=n.length:=by simp[d']
 have A:∀k,k<n.length->(E.toArray.zip n.toArray)[k]?=Z (E.getD k .none,n.getD k .none):=λk s=>by
  have:k<E.length:=by omega
  have e':k<(E.zip n).length:=by simp;omega
  have a:(E.zip n)[k]?=Z (E[k],n[k]):=by rw[s_ e',Yj]
  simp[s,this,Tr,a]
 have a':n.toArray.size=n.length:=by simp
 by_cases h2:n.toArray.size<2
 ·rw[if_pos h2,if_pos h2];refine c_ (j_ ?_);rw[YC];refine c_ (j_ ?_);dsimp only;refine uL (b:=ZE general' (E.toArray.zip n.toArray) #[] 7 U) s ha b' H (line64 (by rw[u];exact B)) rfl ?_;have:=h id ((E.toArray.zip n.toArray).map (·.2)) d.toks (by rw[Vs,u]) (λk s=>by rw[Wd,A k s];simp[s,Tr]) (jK g (λk s=>s) (λ_ _ _ _ a=>a) (λx y k' hy=>by rw[a']at h2;omega)) (λk s=>s);exact this
 · rw[if_neg h2,if_neg h2];rw[a']at h2;refine c_ (Pb hF hf λb=>?_);refine c_ (Sw (Es (Ê:=JT d d.heap) (ν:=ν) (Q:=λ_ t=>∃p',NO (E.toArray.zip n.toArray) Δ p' (WA t)/\Y9 t=U) (Ν:=id) g (λi j x y s1 E' ex ey J1=>?_) (v:=ZE (tuples' b) (E.toArray.zip n.toArray) #[] 7 U) ⟨rfl,λ_ _=>rfl,λ_ h=>h,λ_ _ _ _ a=>a,rfl,rfl,rfl⟩ (λ_ _=>rfl) (by rw[u];omega) (by rw[u];exact B) (λp' t a1 a2=>⟨p',a1,a2⟩) d ⟨d.toks,r_ _,rfl⟩) ?_ λ_ _ a=>a)
   · obtain⟨v,f',rfl⟩:=J1;have c':∀(k:Nat)(z:WK),(E.toArray.zip n.toArray)[k]?=Z z->E[k]?=Z z.1:=λk z H=>by
      have s:k<n.length:=by have:=(Tk.mp H).1;rwa[u]at this
      rw[A k s]at H;cases H;have:k<E.length:=by omega
      simp[this,Tr]
     obtain⟨a1,c1,xs,ys,rs,i',h',t1,t2,it,eb⟩:=hC w i j x.1 y.1 (by omega) (c' i x ex) (c' j y ey);rw[i',h'];exact yS (d:={d with heap:=d.heap,toks:=v}) b t1 t2 it ⟨⟨v,f',rfl⟩,eb⟩
   ·rintro⟨⟨⟩,t⟩s'⟨⟨v,_,rfl⟩,p',F,g'⟩;dsimp only;have Fl:=F.lt;have Fi:=F.inj;have Fs:=F.so;rw[u]at Fl Fi Fs;refine uL (d:={d with heap:=d.heap,toks:=v}) s ha b' H (by rw[F.sz,u];exact line64 B) g' ?_;refine h p' ((WA t).map (·.2)) v (by rw[Vs,F.sz,u]) (λk s=>?_) (jK g Fl Fi Fs) Fl;rw[Wd,F.at' k (by rw[u];exact s),A _ (Fl k s)];simp[Fl k s,Tr]
end TS
namespace FD
open L2 TS
def lS:∀{a:List N}(n:Nat),Þ a=L->Þ (a.take n)=L|[],n,_=>by simp[Þ]|d::a,0,_=>by simp[Þ]|d::a,n+1,h=>by simp only[Þ,pi]at h;simp only[List.take_succ_cons,Þ,pi];exact⟨h.1,lS n h.2⟩
def Lv{a':List (List N)}{P:Xn->g_->Prop}(G:ê a.prog a.w a.K a.mg a.base ù c e Ψ v (Ŋ a.K Ρ v.length))(hr:Ö c w)(a3:w.frames=a.A.frames)(hb:é a.K Ψ v [])(h1:v.length=1)(B:Ë a (H++[(r,Se "list" #[] m)]) Μ g d)(hk:g χ=Z (.lst []))(m':χ≠r)(rv:Î θ E)(p':S a.K g k θ)(im:Þ k=L)(C':∀(i:Nat)(t:N),k[i]?=Z t->∃es,a'[i]?=Z es/\Ρ [t]=Z (.ok (.tup es)))(a8:a'.length=k.length)(U':ip a'=L)(q':Þ (a'.map N.tup)=L)(a7:∀H',H' r=U->m7 a H H' r)(h:∀(s':g_)(H':Hp)(p:Nat->Nat)(out:Array R)(A:Nat),Ë a H Μ H' s'->H' r=U->(∀b u,b≠χ->g b=Z u->H' b=Z u)->s'.heap.get? r=Z (Se "list" out A)->out.size=E.length->(∀c,c<E.length->out[c]?=E[p c]?)->(rl E.length).map p=isortB (λi j=>!(λi j=>ď (gO a' i) (gO a' j)) j i) (rl E.length)->(∀c,c<E.length->p c<E.length)->P (.done (.ret .none)) s'):t_ (y_ a.prog a.w) w (aaS r (.ref e) D E.toArray m (.ref χ)) P ν d:=by
 have c':=U';simp only[ip,pi,decide_eq_true_eq,S3]at c';have hR:∀f∈a',ă f=ă (a'.headD [])/\Ch f=L/\jn (ă f)=L:=λf hr=>⟨(c'.2 f hr).1.1,(c'.2 f hr).1.2,(c'.2 f hr).2⟩;have b2:k.length=E.length:=by have g1:=cb p';have g2:=rv.length;omega
 have a6:E.length<64:=by omega
 unfold aaS;refine c_ (UG ?_);first|rw[ZG]|(rw[<-UL];simp only[V1])|rw[<-UL]
 refine c_ (ksk_fold (λi s'=>∃H' zs,Ë a (H++[(r,Se "list" #[] m)]) Μ H' s'/\H' χ=Z (.lst zs)/\(∀b u,b≠χ->g b=Z u->H' b=Z u)/\S a.K H' ((a'.map N.tup).take i) zs) E 0 d ⟨g,[],B,hk,λ_ _ _ s=>s,rfl⟩ ?step ?done);case step=>
  rintro j x s' hx⟨H',zs,I',h',sm,rz⟩;simp only[U1]at rz⊢;have hj:j<E.length:=(xy.mp hx).1;have o':k[j]?=Z (k[j]'(by omega)):=s_ (by omega);obtain⟨es,er,eF⟩:=C' j _ o';have t':θ[j]?=Z (θ[j]'(by have:=rv.length;omega)):=s_ (by have:=rv.length;omega);have b3:j<θ.length:=by have:=rv.length;omega
  have a9:j<k.length:=by omega
  obtain⟨u,eu,ru⟩:=rv.get t';rw[hx]at eu;cases eu;have z':∀b ys,g b=Z (.tup ys)->H' b=Z (.tup ys):=λb ys q=>sm b _ (λz=>by rw[z,hk]at q;cases q) q;have rd:Ô a.K H' k[j] θ[j]:=Ô.tups z' _ _ (iQ im o') (lQ p' j _ _ o' t');refine c_ (UB (Sw (Lu G hr a3 hb I' ru rd h1 eF (ν:=λ_ _=>False)) (λu' s2 he=>?_) λ_ _ z=>z.elim));obtain⟨v',H2,I2,D',k',E'⟩:=he;dsimp only;have n':H2 χ=Z (.lst zs):=k' _ _ h';obtain⟨z,d',n,b',a0,ek⟩:=I2.lstM n';have Q':zs.length<=62:=by have:=cb rz;simp at this;omega
  have w':d'.length<=62:=by have:=b'.length;omega
  refine c_ (VG ek rfl ?_ (by simp;exact line64 (by omega)) (by simp;omega));have i':∀b ys,H2 b=Z (.tup ys)->(Ý H2 χ (.lst (zs++[v']))) b=Z (.tup ys):=λb ys q=>by rw[al (λz=>by rw[z,n']at q;cases q)];exact q
  obtain⟨n2,e'⟩:∃n2,(s2.heap.update χ (J_ (·.push u'))).get? χ=Z (Se "list" (d'.toArray.push u') n2):=⟨_,Ua (c:="list") ek (·.push u')⟩;refine j_ ⟨rfl,Ý H2 χ (.lst (zs++[v'])),zs++[v'],?_,ao,λb u hb q=>?_,?_⟩
  · refine I2.write (t':=s2.toks) (x:=χ) (e:=χ) (o:=.lst (zs++[v'])) (by rw[n'];trivial) (.inl rfl) (λb u hb q=>?_) ⟨_,e'⟩ ?_;·rw[SG _ _ _ _ hb];exact q
    ·refine⟨by simp;exact line64 (by omega),d'++[u'],n2,b'.append (.cons D' .nil),?_⟩;simpa[Se]using e'
  ·rw[al hb];exact k' _ _ (sm b u hb q)
  · have B':(a'.map N.tup).take (j+1)=(a'.map N.tup).take j++[.tup es]:=by rw[Z0,O_,er];rfl
    rw[B'];have g1:S a.K (Ý H2 χ (.lst (zs++[v']))) ((a'.map N.tup).take j) zs:=S.tups i' _ _ (lS j q') (S.mono k' _ _ rz);have O':ġ (.tup es)=L:=iQ q' (n:=j) (by rw[O_,er];rfl);exact g1.append ⟨v',[],rfl,Ô.tups i' _ _ O' E',rfl⟩
 case done=>
  rintro s'⟨H',zs,I',h',sm,rz⟩;have g':S a.K H' (a'.map N.tup) zs:=by rw[Vy (by simp;omega)]at rz;exact rz
  obtain⟨z,d',n,b',a0,ek⟩:=I'.lstM h';have Q':zs.length=E.length:=by have:=cb g';simp at this;omega
  have w':d'.length=E.length:=by have:=b'.length;omega
  refine c_ (UZ ek rfl ?_);obtain⟨fs,f1,I⟩:=qR I' (λf S'=>(hR f S').2) g' b';have l':=I'.pin (r,Se "list" #[] m) (by simp);refine Pc (Δ:=λi j=>ď (gO a' i) (gO a' j)) (m:=n) ek l'.1 m' w' a6 (GJ hR) f1 I (λA2 i j x y hA ex ey=>?_) λp out tk o1 o2 o3 o4=>?_
  · obtain⟨a1,b1,t1,y',q1,q2,q3,q4,q5,q6,q7⟩:=zd I' i x g' b' ex;obtain⟨a2,b0,t2,x',p1,p2,p3,p4,p5,p6,p7⟩:=zd I' j y g' b' ey;have m1:=hR y' (Sg q1);have m2:=hR x' (Sg p1);obtain⟨rs,i1,i2⟩:=uK (A:=A2) (z:=L) I' (by have:=hr.un;omega) (λ_ _ s=>s) (λ_=>m1.2.1) (m1.1.trans m2.1.symm) m1.2.2 q4 p4 q5 p5;refine⟨a1,a2,t1.toArray,t2.toArray,rs,q3,p3,q7,p7,by simpa using i1,?_⟩;have R':t1.toArray.size=t2.toArray.size:=by
     have k1:=q5.length;have k2:=p5.length;have k3:=cb q4;have k4:=cb p4;have k5:(ă y').length=(ă x').length:=by rw[m1.1,m2.1]
     simp[ă]at k5;simp;omega
    rw[R',decide_eq_false (Tg _),i2,sQ q1,sQ p1]
  · obtain⟨n2,e'⟩:∃n2,(s'.heap.update χ (J_ λ_=>#[])).get? χ=Z (Se "list" #[] n2):=⟨_,Ua (c:="list") ek (λ_=>(#[]:Array R))⟩;have W:=I'.write (t':=tk) (h':=s'.heap.update χ (J_ λ_=>#[])) (x:=χ) (e:=χ) (o:=.lst []) (by rw[h'];trivial) (.inl rfl) (λb u hb q=>by rw[SG _ _ _ _ hb];exact q) ⟨_,e'⟩ ⟨Sb _,[],n2,.nil,by simpa[Se]using e'⟩;have W2:=W.unpinned;have r':Ý H' χ (.lst []) r=U:=by rw[al m'.symm];exact l'.2.1
    have a5:(s'.heap.update χ (J_ λ_=>#[])).get? r=Z (Se "list" #[] m):=by rw[SG _ _ _ _ m'.symm];exact l'.1
    obtain⟨g0,g1,g2,g3⟩:=a7 _ r';have T:=W2.turned (t':=tk) (h':=(s'.heap.update χ (J_ λ_=>#[])).update r (J_ λ_=>out)) (it:=r) (λb o hb q=>by rw[SG _ _ _ _ hb];exact q) g0 g1 g3.1 g3.2.1 g3.2.2;exact h _ _ p out _ T r' (λb u hb q=>by rw[al hb];exact sm b u hb q) (Ua a5 λ_=>out) o1 o2 o3 o4
def iq(F:Ñ):List N->Option (List (List N))|[]=>Z []|d::r=>match F [d],iq F r with|some (.ok (.tup b)),Z a=>Z (b::a)|_,_=>U
def lT(c:List (List N))(d:List N):List N:=(isortB (λa b=>!ď b.1 a.1) (c.zip d)).map Prod.snd
def lU(F:Ñ)(b:List N):Option (Rs N):=match iq F b with|some a=>if ip a=L/\Þ b=L/\Þ (a.map N.tup)=L then Z (.ok (.lst (lT a b)))else U|none=>U
def wj(F:Ñ):Ñ|[.lst a]=>lU F a|[.tup a]=>lU F a|_=>U
def ke{F:Ñ}:∀{c:List N}{a:List (List N)},iq F c=Z a->a.length=c.length/\∀(i:Nat)(d:N),c[i]?=Z d->∃b,a[i]?=Z b/\F [d]=Z (.ok (.tup b))
 |[],a,h=>by cases h;exact⟨rfl,λi d e=>by simp at e⟩|d::c,a,h=>by
  unfold iq at h;split at h;·rename_i b n g f;cases h;obtain⟨k,j⟩:=ke f;refine⟨by simp[k],λi m e=>?_⟩;cases i with|zero=>simp at e;subst e;exact⟨b,rfl,g⟩|succ i=>exact j i m (by simpa using e)
  ·cases h
def ze{a:List (List N)}(d:a.length=k.length):(isortB (λi j=>!(λi j=>ď (gO a i) (gO a j)) j i) (rl k.length)).map (λi=>k.getD i .non)=lT a k:=by
 have e:(rl k.length).map (λi=>(gO a i,k.getD i .non))=a.zip k:=by
  apply WR;·simp[d]
  · intro i c f;simp only[E_,U7]at c;have b:i<a.length:=by omega
    simp only[VW,List.getElem_range,Yj];rw[sQ (s_ b)];simp[Tr,c]
 unfold lT;rw[<-e,<-sort_map (g:=λi j=>!(λi j=>ď (gO a i) (gO a j)) j i) (λi=>(gO a i,k.getD i .non)) _ λx _ y _=>rfl,SJ];rfl
def lV{o:Obj}(a:P.get? e=Z o):ff [e] P=[(e,o)]:=by simp[ff,a]
def Lw{y:List (List N)}{P:Xn->g_->Prop}(G:ê a.prog a.w a.K a.mg a.base ù c e Ψ v (Ŋ a.K Ρ v.length))(hr:Ö c w)(o':w.frames=a.A.frames)(B:é a.K Ψ v [])(h1:v.length=1)(I:Ë a H Μ g d)(ho:d.heap.get? r=Z (Se "list" E.toArray m))(h':g r=U)(a':∀A,A r=U->m7 a H A r)(rv:Î θ E)(b':S a.K g k θ)(im:Þ k=L)(l':∀(i:Nat)(n:N),k[i]?=Z n->∃es,y[i]?=Z es/\Ρ [n]=Z (.ok (.tup es)))(k':y.length=k.length)(c':ip y=L)(n':Þ (y.map N.tup)=L)(h:∀(s':g_)(A:Hp)(p:Nat->Nat)(out:Array R)(f:Nat),Ë a H Μ A s'->A r=U->Í g A->s'.heap.get? r=Z (Se "list" out f)->out.size=E.length->(∀c,c<E.length->out[c]?=E[p c]?)->(rl E.length).map p=isortB (λi j=>!(λi j=>ď (gO y i) (gO y j)) j i) (rl E.length)->(∀c,c<E.length->p c<E.length)->P (.done (.ret .none)) s'):t_ (y_ a.prog a.w) w (aaR r (.ref e) D) P ν d:=by
 have i':E.length<64:=by simp only[ip,pi,decide_eq_true_eq]at c';have g1:=cb b';have g2:=rv.length;omega
 have ha:r<d.heap.objs.size:=v_ ho;obtain⟨g0,g1,g2,g3⟩:=a' _ h';unfold aaR;refine c_ (UZ ho rfl ?_);refine c_ (VG ho rfl ?_ (line64 (by simpa using i')));obtain⟨e1,e'⟩:∃e1,(d.heap.update r (J_ λ_=>(#[]:Array R))).get? r=Z (Se "list" #[] e1):=⟨_,Ua ho λ_=>#[]⟩;have I1:=I.turned (t':=d.toks) (h':=d.heap.update r (J_ λ_=>(#[]:Array R))) (it:=r) (λb o B q=>by rw[SG _ _ _ _ B];exact q) g0 g1 g3.1 g3.2.1 g3.2.2;refine c_ (aar e' rfl ?_);refine c_ (YU ?_ (line64 (by simpa using i')));refine c_ (V3 ?_);refine SL ?_;have I2:=I1.kept (t':=d.toks) (h':=(d.heap.update r (J_ λ_=>(#[]:Array R))).push (Se "tuple" E.toArray 0)) λb u q=>i_ _ q;have m':((d.heap.update r (J_ λ_=>(#[]:Array R))).push (Se "tuple" E.toArray 0)).objs.size=d.heap.objs.size+1:=by rw[size_push',X7]
 have fr:g ((d.heap.update r (J_ λ_=>(#[]:Array R))).push (Se "tuple" E.toArray 0)).objs.size=U:=I2.hok.fresh (r_ _);have I3:=I2.laid (t':=d.toks) (h':=((d.heap.update r (J_ λ_=>(#[]:Array R))).push (Se "tuple" E.toArray 0)).push (Se "list" #[] 0)) (o:=.lst []) (λb u q=>i_ _ q) (r_ _) ⟨Sb _,[],0,.nil,n_ _ rfl⟩;have d':(((d.heap.update r (J_ λ_=>(#[]:Array R))).push (Se "tuple" E.toArray 0)).push (Se "list" #[] 0)).get? r=Z (Se "list" #[] e1):=i_ _ (i_ _ e');have g':((d.heap.update r (J_ λ_=>(#[]:Array R))).push (Se "tuple" E.toArray 0)).objs.size≠r:=by rw[m'];exact Uy (SA ha)
 have I4:=I3.pinned (fp:=[r]) (λb B=>by
 have:b=r:=by simpa using B
 subst this;exact a' _ (by rw[al g'.symm];exact h')) (λb B=>by
 have:b=r:=by simpa using B
 subst this;exact⟨_,d',λt z=>by cases z⟩);rw[lV d']at I4;refine Lv G hr o' B h1 I4 ao g' rv (S.mono (aG fr _) _ _ b') im l' k' c' n' a' λs' A p out f J ja sm s o1 o2 o3 o4=>h s' A p out f J ja (λb u q=>sm b u (λz=>?_) ?_) s o1 o2 o3 o4;·rw[z,fr]at q;cases q
 ·rw[al (λz=>by rw[z,fr]at q;cases q)];exact q
def lW{s:g_}{E:R->g_->Prop}{M:VB}{A:x_}{l:O}{a:List R}{o:Obj}{n:Nat}{c:String}{Q:List R->g_->Prop}{d:on}{w:z_}(i:s.heap.get? l=Z o)(k:o.cls=.type c)(j:o.data=.seq a.toArray n)(m:(p_ c==p_ "list"||p_ c==p_ "tuple")=L)(h:∀f,(∀b o,s.heap.get? b=Z o->f.get? b=Z o)->s.heap.objs.size<f.objs.size->Q a {s with heap:=f})(p:a.length<=sizeLine):t_ (y_ d w) A (Zf (.ref l)) Q E s:=by
 unfold Zf;refine c_ (Wp (Td entry_proto_collect' ?_));show t_ _ _ (do N' (.builtin "list.__iadd__" ⟨[<-ZK [],.ref l],[]⟩)) _ _ s;refine c_ (V3 (j_ ⟨Wb _ (by decide+kernel),Td entry_list_iadd' ?_⟩));show t_ _ _ (Uw (.ref s.heap.objs.size) (.ref l) (.ref s.heap.objs.size)) _ _ {s with heap:=s.heap.push (Se "list" #[] 0)};unfold Uw;have e:(s.heap.push (Se "list" #[] 0)).get? l=Z o:=i_ _ i;refine c_ (UU (T:=c) ⟨o,e,k⟩ ?_);rw[if_pos (by rw[Bool.or_assoc,m];simp)];refine c_ (UZ e j ?_);refine c_ (UZ (xs:=#[]) (n:=0) (n_ _ rfl) rfl ?_);rw[if_neg (by simp)];refine c_ (VG (xs:=#[]) (n:=0) (n_ _ rfl) rfl ?_ (Sb _) (by simp only[XT,G_,List.length_nil];show 0+a.length<=_;omega));refine j_ ?_;show t_ (y_ d w) A (do
 let o<-load s.heap.objs.size match o.data with|.seq g _=>pure g.toList|_=>YV "internal:collect") Q E {s with heap:=(s.heap.push (Se "list" #[] 0)).update s.heap.objs.size (J_ (·++a.toArray))};refine c_ (wpAny_load (Ua (n_ _ rfl) _) ?_);show t_ _ _ (pure ((#[]:Array R)++a.toArray).toList) Q E _;rw[show((#[]:Array R)++a.toArray).toList=a by simp];refine j_ (h _ (λb r q=>?_) ?_);·have:=v_ q;rw[SG _ _ _ _ (D_ this),ZS _ _ _ (D_ this)];exact q
 ·rw[X7,size_push'];exact Tf _
def Cj{s:List (List N)}(G:ê a.prog a.w a.K a.mg a.base ù c e Ψ v (Ŋ a.K Ρ v.length))(hr:Ö (c+2) a.A)(hb:é a.K Ψ v [])(h1:v.length=1)(I:Ë a H Μ g d)(m':∀Q':List R->g_->Prop,(∀h' tk,(∀b o,d.heap.get? b=Z o->h'.get? b=Z o)->d.heap.objs.size<=h'.objs.size->Q' E {d with heap:=h',toks:=tk})->t_ (y_ a.prog a.w) a.A.in1 (Zf (.ref r)) Q' ν d)(rv:Î θ E)(A:S a.K g k θ)(p':iq Ρ k=Z s)(i':ip s=L)(im:Þ k=L)(n':Þ (s.map N.tup)=L)(q:∀(j:O)(b':List V)(t:Hp),Í g t->t j=Z (.lst b')->S a.K t (lT s k) b'->Ç (.ref j) t):t_ (y_ a.prog a.w) a.A (call (.builtin "sorted") [.ref r] [(b_ "key",.ref e)]) (EP a H Μ Ç) ν d:=by
 obtain⟨w,l'⟩:=ke p';have t':k.length=θ.length:=cb A;have d':θ.length=E.length:=rv.length;have r':E.length<64:=by simp only[ip,pi,decide_eq_true_eq]at i';omega
 refine Yx aas ZX ZY (ksk_s1 _ _) ?_;unfold Tq.«sorted»;refine c_ (m:=checkCount "sorted" 1 1 _) (j_ ?_);refine c_ (m' _ λn c' up gr=>?_);refine c_ (V3 ?_ (line64 r'));have I1:=I.kept (t':=c') (h':=n.push (Se "list" E.toArray 0)) λb u z=>i_ _ (up b u z);have k':(n.push (Se "list" E.toArray 0)).get? n.objs.size=Z (Se "list" E.toArray 0):=n_ _ rfl;have q':g n.objs.size=U:=I.hok.fresh (gr);have P:∀t,t n.objs.size=U->m7 a H t n.objs.size:=λt hn=>I.fpOk (gr) hn;refine c_ (SL (wpAny_call_entry_kw Y8 ⟨_,k',rfl⟩ YH ?body (ksk_l1 _ _)));case body=>
 show t_ (y_ a.prog a.w) a.A.in1.in1 (Tq.«list.sort» ⟨[.ref n.objs.size],[(b_ "key",.ref e)]⟩) _ _ _;rw[ksk_t1];refine Lw (d:={d with heap:=n.push (Se "list" E.toArray 0),toks:=c'}) G (hr.in1.in1) rfl hb h1 I1 k' q' P rv A im l' w i' n' λs' t p out cc J ja sm h o1 o2 o3 o4=>⟨_,rfl,?_⟩;refine j_ ⟨_,rfl,?_⟩;obtain⟨g0,g1,g2,g3,g4,g5⟩:=P _ ja;have J2:=J.pinned (fp:=[n.objs.size]) (λb B=>by
  have:b=n.objs.size:=by simpa using B
  subst this;exact P _ ja) (λb B=>by
  have:b=n.objs.size:=by simpa using B
  subst this;exact⟨_,h,λf z=>by cases z⟩);rw[lV h]at J2;have hV:Î ((rl E.length).map λc=>θ.getD (p c) .non) out.toList:=by
  refine nM (by simp[o1]) λi f u y eu=>?_;have hi:i<E.length:=by have:=(xy.mp eu).1;simp[o1]at this;omega
  have a':out[i]?=Z u:=by simpa using eu
  rw[o2 i hi]at a';rw[O_,Us hi]at y;simp only[Ub,U0]at y;have hp:p i<θ.length:=by rw[d'];exact o4 i hi
  have e1:θ[p i]?=Z f:=by rw[s_ hp,<-y];simp[Tr,hp]
  obtain⟨u',e2,r2⟩:=rv.get e1;rw[e2]at a';cases a';exact r2
 have hR:S a.K t (lT s k) ((rl E.length).map λc=>θ.getD (p c) .non):=by
  have hn:E.length=k.length:=by omega
  rw[<-ze w,<-hn,<-o3,SJ];refine nK (by simp) λi m f ed y=>?_;have hi:i<E.length:=by have:=(xy.mp ed).1;simpa using this
  rw[O_,Us hi]at ed y;simp only[Ub,U0,Zx]at ed y;have hp:p i<θ.length:=by rw[d'];exact o4 i hi
  have g':p i<k.length:=by omega
  refine lQ (S.mono sm _ _ A) (p i) m f ?_ ?_;·rw[s_ g',<-ed];simp[Tr,g']
  ·rw[s_ hp,<-y];simp[Tr,hp]
 have e':(n.objs.size,Se "list" out cc)=(n.objs.size,BV out.toList cc):=by simp[Se,BV]
 rw[e']at J2;obtain⟨v',J3⟩:=Ë.retrack J2 hV (line64 (by simp;omega)) (λo' z=>by
  exfalso;rcases g3 with g3|g3;·exact absurd (I.ok) (λ_=>by have:=UY (h:=a.s₀.heap) (a:=n.objs.size) (RZ I.sz (gr));rw[this]at z;cases z)
  ·have:=UY (h:=a.s₀.heap) (a:=n.objs.size) g3;rw[this]at z;cases z) g5;refine⟨.ref n.objs.size,_,J3,rfl,q _ _ _ (λb u z=>?_) ao (S.mono (aG ja _) _ _ hR)⟩;exact aG ja _ b u (sm b u z)
def Ck{o:Obj}{b:String}{h:List (List N)}(G:ê a.prog a.w a.K a.mg a.base ù c e Ψ v (Ŋ a.K Ρ v.length))(z:Ö (c+2) a.A)(hb:é a.K Ψ v [])(h1:v.length=1)(I:Ë a H Μ g d)(A:d.heap.get? r=Z o)(P:o.cls=.type b)(B:o.data=.seq E.toArray m)(h2:(p_ b==p_ "list"||p_ b==p_ "tuple")=L)(u:Î θ E)(j:S a.K g k θ)(p:iq Ρ k=Z h)(n:ip h=L)(y:Þ k=L)(t:Þ (h.map N.tup)=L)(q:∀(f:O)(i:List V)(s:Hp),Í g s->s f=Z (.lst i)->S a.K s (lT h k) i->Ç (.ref f) s):t_ (y_ a.prog a.w) a.A (call (.builtin "sorted") [.ref r] [(b_ "key",.ref e)]) (EP a H Μ Ç) ν d:=Cj G z hb h1 I (λQ' hQ=>lW (M:=y_ a.prog a.w) A P B h2 (λh' w gr=>hQ h' d.toks w (U5 gr)) (line64 (by obtain⟨g1,_⟩:=ke p;have g2:=cb j;have g3:=u.length;simp only[ip,pi,decide_eq_true_eq]at n;omega))) u j p n y t q
def Co{i:Pos}(k:Nat)(ps:List Str)(F:Ñ)(h:Has a.prog a.w a.K a.mg a.base b k ps F)(hr:Ö c a.A)(hk:k+2<=c)(h1:ps.length=1)(hg:Gl a "sorted")(hm:a.mg "sorted"=U)(i':Gl a b)(ha:FA a [f] μ)(l':(b==("__debug__":Str))=D:=by lk)(he:R8 i (l_ [f] a.env)=(D,eval f a.env)::R8 i (l_ [] a.env):=by lk)(q:(R8 i (l_ [f] a.env)).any (·.1)=D:=by lk)(b':(Tx i (SN [⟨Z "key",.Name b B,Υ⟩] a.env)).all (·.1.isSome)=L:=by lk)(h':(Tx i (SN [⟨Z "key",.Name b B,Υ⟩] a.env)).any (·.1.isNone)=D:=by lk)(e':(Tx i (SN [⟨Z "key",.Name b B,Υ⟩] a.env)).filterMap (·.1)=[b_ "key"]:=by lk):FE a (.Call (.Name "sorted" p) [f] [⟨Z "key",.Name b B,Υ⟩] i) (â (wj F) μ):=⟨λf' s σ H Q I⟨ρ,E,o⟩=>by
 obtain⟨e,fd,G,g',n',hb⟩:=h;refine S_ (gg I hg hm (Ζ:=.builtin "sorted") (by decide+kernel) ?_ (by decide) (by decide));refine callWith_kw (è (ha.h i f' s σ H _ I ⟨ρ,E,æ.bind o λds vs H1 e1 rs w=>(show∃ds,S a.K H1 ds vs/\ï a H1 (wj F ds) Q from⟨ds,rs,w⟩)⟩) λus s1⟨vs,H1,I1,r1,ds,rs,w⟩=>?_) he q b' h';refine kws_cons (oi I1 i' g' (kws_nil ?_) l');rw[e'];show t_ _ _ (call (.builtin "sorted") us [(b_ "key",.ref e)]) _ _ s1;unfold wj at w;have a':∀(l:O)(t:List V)(y:List N)(P:Obj)(n:Nat)(d:String)(j:List R),s1.heap.get? l=Z P->P.cls=.type d->P.data=.seq j.toArray n->(p_ d==p_ "list"||p_ d==p_ "tuple")=L->Î t j->S a.K H1 y t->ï a H1 (lU F y) Q->t_ (y_ a.prog a.w) a.A (call (.builtin "sorted") [.ref l] [(b_ "key",.ref e)]) (EP a f' σ Q) a.xe s1:=by
  intro l t y P n d j q1 q2 q3 q4 rv rx o2;unfold lU at o2;split at o2
  · rename_i m' A;split at o2;·rename_i m;exact Ck G (hr.mono hk) hb h1 I1 q1 q2 q3 q4 rv rx A m.1 m.2.1 m.2.2 λg c' H' sm hL d'=>o2 _ _ sm ⟨g,c',rfl,hL,d'⟩
    ·exact o2.elim
  ·exact o2.elim
 split at w;·rename_i y;obtain⟨v,rfl,r⟩:=cZ rs;obtain⟨l,t,rfl,hl,rx⟩:=r.lstE;obtain⟨u,rfl,ru⟩:=eD r1;cases(show u=B_ l from ru);obtain⟨z,j,n,rv,hz,eh⟩:=I1.lstM hl;exact a' l t y _ n "list" j eh rfl rfl rfl rv rx w
 ·rename_i y;obtain⟨v,rfl,r⟩:=cZ rs;obtain⟨l,t,rfl,hl,rx⟩:=r.tupE;obtain⟨u,rfl,ru⟩:=eD r1;cases(show u=B_ l from ru);obtain⟨j,rv,⟨P,q1,q2,n,q3⟩,hz⟩:=I1.tuple (ö.of hl);exact a' l t y P n "tuple" j q1 q2 q3 rfl rv rx w
 ·exact w.elim⟩
end FD
namespace TS
open L2 FD
def okF(a:List Nat):Bool:=a.all λk=>k !=0&&uk (k<4)
end TS
namespace FD
open L2 TS
def ay(X:C)(N:List Str)(b:TF)(a:O)(s:g_)(H:Hp)(c:List O):C:={X with N:=N,s₀:=s,H₀:=H,env:=compEnvC b (SZ (a+1) b.names (kZ b.names X.env [])) a X.env,outer:=X.stack,stack:=X.stack,ex:=c,fn:=λy=>b.names.lookup y==Z .cell,pn:=[],xe:=λ_ _=>False}
structure iu(osc scope:TF)(cs:List (Str×Nat))(N:List Str):Prop where
 kind:scope.kind=.function
 one:∀y∈scope.names,y.2=.cell->scope.names.lookup y.1=Z .cell
 names:∀y∈scope.names,y.2=.local->scope.names.lookup y.1=Z .local
 free:∀y∈scope.names,y.2=.free->osc.names.lookup y.1=Z .cell\/osc.names.lookup y.1=Z .free
 caps:∀c∈cs,N[c.2]?=Z c.1/\scope.names.lookup c.1=Z .free
def jL:∀(b:List (Str×Vm))(lo:Nat)(a:List (Str×O)),SZ lo b a=SZ lo b []++a
 |[],_,_=>rfl|(n,k)::r,lo,a=>by
  unfold SZ;split;·rw[jL r (lo+1) ((n,lo)::a),jL r (lo+1) [(n,lo)],WF];rfl
  ·exact jL r lo a
def zg:∀{a:List (Str×Vm)}{lo:Nat}{n:Str}{c:O},(n,c)∈SZ lo a []->(n,Uj)∈a
 |[],_,_,_,h=>(nomatch h)|(m,k)::r,lo,n,c,h=>by
  unfold SZ at h;split at h
  · rename_i b;rw[jL]at h;rcases Sr.mp h with q|q;·exact m_ _ (zg q)
    · have e:n=m:=by simp at q;exact q.1
      have ek:k=.cell:=by simpa using b
      subst e ek;exact o_
  ·exact m_ _ (zg h)
def uM:∀{a:List (Str×Vm)}{lo:Nat}{n:Str},(n,Uj)∈a->((SZ lo a []).lookup n).isSome=L
 |[],_,_,h=>(nomatch h)|(m,k)::r,lo,n,h=>by
  unfold SZ;rcases w_.mp h with e|q;·cases e;rw[if_pos (by decide),jL,UK];cases b:(SZ (lo+1) r []).lookup m with|some _=>rfl|none=>simp
  · split;·rw[jL,UK];have:=uM (lo:=lo+1) q;cases b:(SZ (lo+1) r []).lookup n with|some _=>rfl|none=>rw[b]at this;cases this
    ·exact uM q
def GK{h:List (Str×O)}{a:Env}{Q:Env->g_->Prop}(k:ι.kind=.function)(j:Q (newEnv ι d.heap.objs.size e (SZ (d.heap.objs.size+1) ι.names h) b U .none (Z a) builtinsNs) {d with heap:=pushCells (d.heap.push {cls:=.type "dict",data:=.dict #[]}) ι.names}):t_ Å w (Wq ι e h [] b U .none (Z a)) Q ν d:=by simp only[Wq,Option.isSome_some,if_true];refine c_ (wpAny_alloc ?_);refine c_ (wpAny_layCells _ (λi c g=>by cases f:c==Uj<;>simp[f]) _ _ _ _ ?_);rw[show({d with heap:=d.heap.push {cls:=.type "dict",data:=.dict #[]}}:g_).heap.objs.size=d.heap.objs.size+1 from L_ ..];refine c_ ?_;rw[WE];exact j_ (j_ j)
def zh{B:List (Str×Nat)}(ok:iu a.env.scope ι B a.N)(I:Ë a H Μ g d)(b':∀b∈Ε,m7 a H g b)(m':∀b∈Ε,b<d.heap.objs.size)(hC:d.heap.objs.size<=e)(p':P.Ns e λ_=>U)(E:∀b o,d.heap.get? b=Z o->P.get? b=Z o)(g':CellsOk P (e+1) (SZ (e+1) ι.names [])):Ë (ay a (v++B.map (·.1)) ι e d g Ε) [] (qm v.length B Μ) g {d with heap:=P,toks:=c}:=by
 have t:∀n f,(kZ ι.names a.env []).lookup n=Z f->a.env.cells.lookup n=Z f:=λn f h=>by
  rcases nj _ _ h with q|⟨q1,q2⟩;·simp at q
  ·obtain⟨c',e'⟩:=I.ok.has n (ok.free _ q1 rfl);rw[e']at q2;rw[e',q2]<;>rfl
 have lk:∀n f,(ay a (v++B.map (·.1)) ι e d g Ε).env.cells.lookup n=Z f->(n,f)∈SZ (e+1) ι.names []\/((n,Uj)∉ι.names/\(kZ ι.names a.env []).lookup n=Z f):=λn f h=>by have e':(SZ (e+1) ι.names (kZ ι.names a.env [])).lookup n=Z f:=h;rw[jL,UK]at e';cases hl:(SZ (e+1) ι.names []).lookup n with|some c'=>rw[hl]at e';cases e';exact .inl (mem_of_lookup hl)|none=>rw[hl]at e';refine .inr ⟨λA=>?_,e'⟩;have:=uM (lo:=e+1) A;rw[hl]at this;cases this
 have k':∀n f,(n,Uj)∉ι.names->(kZ ι.names a.env []).lookup n=Z f->(ay a (v++B.map (·.1)) ι e d g Ε).env.cells.lookup n=Z f:=λn f A h=>by show(SZ (e+1) ι.names (kZ ι.names a.env [])).lookup n=Z f;rw[jL,UK];cases hl:(SZ (e+1) ι.names []).lookup n with|some c'=>exact absurd (zg (mem_of_lookup hl)) A|none=>exact h
 have w:∀n f,(n,f)∈SZ (e+1) ι.names []->d.heap.objs.size<f:=λn f A=>Q_ (Nat.lt_succ_of_le hC) (g'.empty n f A).2;have i':∀n f,(kZ ι.names a.env []).lookup n=Z f->f<d.heap.objs.size:=λn f h=>by obtain⟨j,o,ho,_⟩:=I.cell n f (t n f h);exact v_ ho
 have inj:∀y z f,(ay a (v++B.map (·.1)) ι e d g Ε).env.cells.lookup y=Z f->(ay a (v++B.map (·.1)) ι e d g Ε).env.cells.lookup z=Z f->y=z:=λy z f e1 e2=>by
  rcases lk y f e1 with p|⟨_,p⟩<;>rcases lk z f e2 with q|⟨_,q⟩;·exact name_of_addr g'.apart p q
  ·exact absurd (Yz (w y f p) (i' z f q)) (Tg _)
  ·exact absurd (Yz (w z f q) (i' y f p)) (Tg _)
  ·exact I.ok.inj y z f (t y f p) (t z f q)
 refine⟨⟨I.ok.mod,ok.kind,I.ok.glob,I.ok.blt,hC,inj,λy hy=>?_,λy f q' h=>?_,I.ok.hd,I.ok.frames,.inl rfl,λb hb=>⟨λz=>?_,λy f h=>?_⟩,I.bs,RZ I.ok.bsz I.sz,λb o h hb=>?_,λb hb z=>?_,I.stack,I.stkFree⟩,rfl,I.bare,Un.kept E,⟨_,p',λi y j h1 h2 h3=>?_⟩,λy f h=>?_,I.hok.fresh hC,λy f h=>?_,λp hp=>absurd (show p∈([]:List (O×Obj))from hp) (by simp),I.hok.kept E,by simp[qm,ay]⟩
 · have A:(y,Uj)∈ι.names\/(y,TV)∈ι.names:=by
    rcases hy with hy|hy
    · rcases kG hy with q|⟨_,q⟩;·exact .inl q
      ·exact .inr q
    · rcases kG hy with q|⟨q,_⟩;·exact .inr q
      ·cases q
   by_cases d':(y,Uj)∈ι.names;·obtain⟨f,h'⟩:=Vc.mp (uM (lo:=e+1) d');refine⟨f,?_⟩;show(SZ (e+1) ι.names (kZ ι.names a.env [])).lookup y=Z f;rw[jL,UK,h'];rfl
   ·obtain⟨f,h'⟩:=Vc.mp (ox (c:=a.env) ι.names [] (A.resolve_left d'));exact⟨f,k' y f d' h'⟩
 · have o':ι.names.lookup y=Z .cell:=by simpa[ay]using q'
   rcases lk y f h with p|⟨p,_⟩;·exact U5 (w y f p)
   ·exact absurd (gk o') p
 ·have:=m' b hb;rw[z]at this;exact absurd (Q_ this hC) (Tg _)
 · rcases lk y f h with p|⟨_,p⟩;·exactλz=>absurd (Yz (w y f p) (z▸m' b hb)) (Tg _)
   ·exact(b' b hb).2.2.2.2.1 y f (t y f p)
 · rcases(b' b hb).2.2.2.1 with z|z;·exact I.ok.noex b o h z
   ·exact absurd (Q_ (v_ h) (RZ I.ok.bsz z)) (Tg _)
 · rcases w_.mp (I.stkSub b z)with q|q;·exact(b' b hb).2.1 q
   ·exact(b' b hb).2.2.1 q
 ·obtain⟨k,rfl,h4⟩:=qo h2;have s:(v++B.map (·.1))[v.length+k]?=Z y:=h1;rw[Sn (by simp)]at s;simp only[Ye]at s;rw[O_]at s;cases hc:B[k]? with|none=>rw[hc]at s;simp at s|some f=>
    rw[hc]at s;have ey:f.1=y:=by simpa using s
    subst ey;rw[O_,hc]at h4;simp only[Ub,U0]at h4;have r':Μ[f.2]?=Z (Z j):=by cases q:Μ[f.2]? with|none=>rw[q]at h4;simp at h4|some o=>rw[q]at h4;simp at h4;rw[h4]
    obtain⟨hN,hf⟩:=ok.caps f (Sg hc);have hv:=ok.free _ (gk hf) rfl;obtain⟨mm,_,hl⟩:=I.loc;obtain⟨u,r,l⟩:=hl f.2 f.1 j hN r' (.inr hv);refine⟨u,r,.inr ⟨kH hf,?_⟩⟩;rcases l with⟨l,_⟩|⟨_,m,ha,o,ho,hd⟩
    · have l':a.env.scope.names.lookup f.1=Z .local:=l;rcases hv with z|z;·rw[l']at z;cases z
      ·rw[l']at z;cases z
    ·obtain⟨a',n'⟩:=Vc.mp (ox (c:=a.env) ι.names [] (gk hf));have e2:=t _ _ n';rw[ha]at e2;cases e2;exact⟨m,k' _ _ (λA=>by have z:=ok.one _ A rfl;rw[hf]at z;cases z) n',o,E _ _ ho,hd⟩
 · rcases lk y f h with p|⟨_,p⟩;·exact⟨U,(g'.empty y f p).1⟩
   ·obtain⟨j,o,ho,hd⟩:=I.cell y f (t y f p);exact⟨j,o,E _ _ ho,hd⟩
 · rcases lk y f h with p|⟨_,p⟩;·exact I.hok.fresh (U5 (w y f p))
   ·exact I.freeC y f (t y f p)
def Pd(X:C)(Y:C)(a:O)(j:List O)(h:Nat->M_->Prop)(n:Nat)(k:Nat->List V->L2.St->Hp->Prop)(m:Nat)(f:g_):Prop:=∃i c e g d,m=n-i/\i<=n/\Ë Y [] c e f/\k i g c e/\h i f.heap/\(∀b∈j,e b=U)/\e a=U/\LAt f.heap a d/\Î g d
def wm{n':u_}{scope:TF}(cs:List (Str×Nat))(ok:iu a.env.scope scope cs a.N)(hc:a.calm=L){s2:g_}{it:O}{fp:List O}{tn:Nat->M_->Prop}{J:It}{H2:Hp}(I2:Ë a H Μ H2 s2)(T:xa a.prog a.w a.K f J fp it tn)(p':tn 0 s2.heap)(I:∀b∈fp,m7 a H H2 b)(n:Nat)(Iv:Nat->List V->L2.St->Hp->Prop)(a2:∀i vs Μ B,Iv i vs Μ B->vs.length<=100000)(h0:Iv 0 [] (qm v.length cs Μ) H2)(a3:∀vs P H5,Iv n vs P H5->J.stop n H5)(b7:∀i vs P H5,i<n->Iv i vs P H5->J.go i H5)(x':∀m i vs P H5 x H7,i<n->Iv i vs P H5->J.yld i H5 x H7->∀(Y:C),Y=ay a (v++cs.map (·.1)) scope m s2 H2 fp->∀H s7 j,Ë Y H P H7 s7->Ú x j->t_ (y_ a.prog a.w) a.A (Vj f Y.env j) (λ_ s8=>t_ (y_ a.prog a.w) a.A (ſ u L λc r=>if r=L then do let ok<-isTrue c Y.env (eval c Y.env);pure (VE ok)else pure (VE r)) (λok s9=>if ok=L then t_ (y_ a.prog a.w) a.A (eval y Y.env) (λw h'=>∃yv b' g',Ë Y H b' g' h'/\Ú yv w/\Iv (i+1) (vs++[yv]) b' g') (λ_ _=>False) s9 else∃b' H9,Ë Y H b' H9 s9/\Iv (i+1) vs b' H9) (λ_ _=>False) s8) (λ_ _=>False) s7){RR:R->O->XY->g_->Prop}(b9:∀(d m:O)(s6:g_)(H5:Hp)(b':L2.St)(vs:List V)(m6:Str->Option R),Ë a H Μ (Ý H5 d (.lst vs)) s6->H5 d=U->Iv n vs b' H5->s6.heap.Ns m m6->H5 m=U->m≠d->s2.heap.objs.size<=m->RR (.ref d) m (.ok .next) s6):t_ (y_ a.prog a.w) a.A (ZK []) (λE' S'=>t_ (y_ a.prog a.w) a.A (Wq scope a.env.globals (kZ scope.names a.env []) [] a.env.qual U .none (Z a.env)) (λo' R'=>Vf (y_ a.prog a.w) a.A (.compStart (.ListComp y [⟨f,n',u,0⟩] scope p) 0 (.ref it) E' {o' with scope:=aaw scope a.env}) (RR E' o'.locals) R') a.xe S') a.xe s2:=by
 have i':∀b∈fp,b<s2.heap.objs.size:=λb E=>by obtain⟨o,ho,_⟩:=T.obj _ _ p' b E;exact v_ ho
 refine Sv (GK ok.kind ?_);dsimp only;generalize t':s2.heap.push {cls:=.type "list",dict:=U,data:=.seq ([]:List R).toArray}=P2;obtain⟨d,hD⟩:∃d,s2.heap.objs.size=d:=⟨_,rfl⟩;have hC:P2.objs.size=d+1:=by rw[<-t',L_,hD]
 rw[hC,hD];obtain⟨a',c'⟩:∃h,h=pushCells (P2.push {cls:=.type "dict",data:=.dict #[]}) scope.names:=⟨_,rfl⟩;rw[<-c'];have kp:∀b o,P2.get? b=Z o->a'.get? b=Z o:=λb o e=>by rw[c'];exact pushCells_keeps _ _ b o (i_ _ e)
 have r':∀b o,s2.heap.get? b=Z o->a'.get? b=Z o:=λb o e=>kp b o (t'▸i_ _ e);have a5:LAt a' d []:=⟨0,kp _ _ (by rw[<-t',<-hD];exact n_ _ rfl)⟩;have b5:a'.Ns (d+1) λ_=>U:=by rw[c',<-hC];exact(Heap.Ns.new P2 (.type "dict")).keeps (pushCells_keeps _ _)
 have b8:CellsOk a' (d+1+1) (SZ (d+1+1) scope.names []):=by have q:=cellsFrom_ok scope.names (P2.push {cls:=.type "dict",data:=.dict #[]}) (d+1+1) [] ⟨λ_ _ hm=>(nomatch hm),XS⟩ (by rw[L_,hC];exact r_ _);rw[L_,hC,<-c']at q;exact q
 have I4:Ë (ay a (v++cs.map (·.1)) scope (d+1) s2 H2 fp) [] (qm v.length cs Μ) H2 {s2 with heap:=a'}:=zh (c:=s2.toks) ok I2 I i' (by rw[hD];exact Wj d) b5 r' b8;have HD:H2 d=U:=I2.hok.fresh (Xj hD);have v':∀b∈fp,b≠d:=λb E=>FK (hD▸i' b E);obtain⟨Y,hY⟩:∃Y,Y=ay a (v++cs.map (·.1)) scope (d+1) s2 H2 fp:=⟨_,rfl⟩;have yE:compEnvC scope (SZ (d+1+1) scope.names (kZ scope.names a.env [])) (d+1) a.env=Y.env:=by rw[hY];rfl
 have yP:Y.prog=a.prog/\Y.w=a.w/\Y.K=a.K/\Y.calm=a.calm/\Y.env.locals=d+1/\Y.pn=[]/\Y.ex=fp/\Y.fs=L2.frs a.stack/\Y.A=a.A/\Y.s₀=s2:=by rw[hY];exact⟨rfl,rfl,rfl,rfl,rfl,rfl,rfl,rfl,rfl,rfl⟩
 rw[<-hY]at I4;have yB:∀{b' H' s'},Ë Y [] b' H' s'->Un (L2.frs a.stack) fp H2 H' s2.heap s'.heap:=λA=>by rw[hY]at A;exact A.base
 obtain⟨y1,y2,y3,y4,y5,y6,y7,y8,y9,y0⟩:=yP;have m':∀s4:g_,s4={s2 with heap:=a'}->Vf (y_ a.prog a.w) a.A (.compLoop (.ListComp y [⟨f,n',u,0⟩] scope p) 0 (.ref it) (.ref d) (compEnvC scope (SZ (d+1+1) scope.names (kZ scope.names a.env [])) (d+1) a.env)) (RR (.ref d) (d+1)) s4:=by
  rintro s4 rfl;rw[yE];refine qp (λk s'=>Pd a Y d fp tn n Iv k s') ?_ n ⟨0,qm v.length cs Μ,H2,[],[],by simp,Sb _,I4,h0,T.keep _ _ _ p' λb E o e=>r' b o e,λb E=>(I b E).1,HD,a5,.nil⟩;rintro k0 s5⟨i,P,H5,vs,e',rfl,c8,I5,v0,t5,C',D5,l5,v5⟩;have nC:∀b∈fp,b≠Y.env.locals:=λb E=>by rw[y5];exact Kh (hD▸i' b E)
  have DL:d≠Y.env.locals:=by rw[y5];exact QC
  have O':d∈Y.ex\/Y.s₀.heap.objs.size<=d:=.inr (by rw[y0];exact Xj hD);have k':∀s c,Y.env.cells.lookup s=Z c->c≠d:=λs c e z=>by obtain⟨t,o,ho,hd⟩:=I5.cell s c e;obtain⟨n,q⟩:=l5;subst z;rw[q]at ho;cases ho;cases hd
  have c6:d∉Y.fs:=λz=>by
   rw[y8]at z;rcases w_.mp (I2.stkSub d z)with q|q;·have z2:=I2.lt;rw[hD]at z2;exact FK z2 q.symm
   ·exact I2.nofs (Xj hD) q
  have Dp:m7 Y [] H5 d:=⟨D5,DL,c6,O',k',λg hp=>absurd (show g∈([]:List (O×Obj))by rw[y6]at hp;exact hp) (by simp)⟩;have c5:∀b∈[d],∃o,s5.heap.get? b=Z o/\∀t,o.data≠.cell t:=λb E=>by cases Sf.mp E;obtain⟨n,q⟩:=l5;exact⟨_,q,λt z=>by cases z⟩
  have I':Ë Y (ff [d] s5.heap) P H5 s5:=I5.pinned (fp:=[d]) (λb E=>by cases Sf.mp E;exact Dp) c5;have b2:∀b∈fp,∀g∈Y.pn++ff [d] s5.heap,g.1≠b:=λb E g hp z=>by rw[y6]at hp;exact v' b E (z.symm.trans (Sf.mp (lx hp).1))
  have u':∀{H'},(∀b∈fp,H' b=U)->∀b∈fp,m7 Y (ff [d] s5.heap) H' b:=λq b E=>⟨q b E,nC b E,I4.ok.exfs b (by rw[y7];exact E),.inl (by rw[y7];exact E),(I4.ok.exf b (by rw[y7];exact E)).2,b2 b E⟩;have a1:=a2 _ _ _ _ v0;have c7:vs.length=e'.length:=v5.length;by_cases l':i<n
  · have A':=T.item Y y1 y2 y3 (y4.trans hc) i (ff [d] s5.heap) s5 P H5;rw[y9]at A';refine è (A' _ I' (u' C') t5 (b7 i vs P H5 l' v0)) λr s6⟨j,hr,h6⟩=>?_;subst hr;refine è h6 λ_ s7⟨xv,H7,I7,r7,a8,t7,c2⟩=>?_;have c3:=I7.pinned (fp:=fp) (u' c2) (T.obj _ _ t7);have D':∀{d':L2.St}{H8:Hp}{s8:g_},Ë Y (ff [d] s5.heap++ff fp s7.heap) d' H8 s8->tn (i+1) s8.heap/\(∀b∈fp,H8 b=U)/\H8 d=U/\LAt s8.heap d e':=λ{d' H8 s8}I8=>by obtain⟨n,q⟩:=l5;have qD:=I8.pin (d,_) (q_ _ (RX _ (dJ (by simp) q)));refine⟨T.keep _ _ _ t7 λb E o e=>(I8.pin (b,o) (q_ _ (q_ _ (dJ E e)))).1,λb E=>?_,qD.2.1,n,qD.1⟩;obtain⟨o,e,_⟩:=T.obj _ _ t7 b E;exact(I8.pin (b,o) (q_ _ (q_ _ (dJ E e)))).2.1
    refine Sw (x' (d+1) i vs P H5 xv H7 l' v0 a8 Y hY _ s7 j c3 r7) (λ_ s8 h8=>Sw h8 (λk s9 h9=>?_) λ_ _ z=>SK z) λ_ _ z=>SK z;cases k with|true=>
     rw[if_pos rfl]at h9⊢;refine Sw h9 (λw h'⟨yv,d',g',w',U',a9⟩=>?_) λ_ _ z=>SK z;obtain⟨b0,a6,Q',b4⟩:=D' w';refine v4 b4 (by omega) λc0 b3 y'=>?_;have a7:Ë Y (ff fp s7.heap) d' g' h':=w'.pins_of λg hp=>w'.pin g (q_ _ (q_ _ hp));have c4:Ë Y (ff fp s7.heap) d' g' {h' with heap:=c0}:=a7.turned (t':=h'.toks) y' Q' DL O' k' λg hp z=>by rw[y6]at hp;exact v' g.1 (lx hp).1 z
     exact⟨n-(i+1),by omega,i+1,d',g',vs++[yv],e'++[w],rfl,l',c4.pins_of λg hp=>(nomatch hp),a9,T.keep _ _ _ b0 λb E o e=>y' b o (v' b E) e,a6,Q',b3,v5.append (.cons U' .nil)⟩|false=>rw[if_neg C_]at h9⊢;obtain⟨d',H9,I9,v9⟩:=h9;obtain⟨t9,c1,D9,l9⟩:=D' I9;exact⟨n-(i+1),by omega,i+1,d',H9,vs,e',rfl,l',I9.pins_of λg hp=>(nomatch hp),v9,t9,c1,D9,l9,v5⟩
  · have b6:i=n:=by omega
    subst b6;have B':=T.done Y y1 y2 y3 (y4.trans hc) i (ff [d] s5.heap) s5 P H5;rw[y9]at B';refine è (B' _ I' (u' C') t5 (a3 vs P H5 v0)) λr s6⟨hr,I6⟩=>?_;subst hr;have l6:LAt s6.heap d e':=by obtain⟨n,q⟩:=l5;exact⟨n,(I6.pin (d,_) (q_ _ (dJ (by simp) q))).1⟩
    obtain⟨m6,n6,_⟩:=I6.loc;have C6:H5 (d+1)=U:=y5▸I6.free;rw[y5]at n6;have b1:ì a.prog a.w (Ý H5 d (.lst vs)) s6.heap d (.lst vs):=by obtain⟨n,q⟩:=l6;exact⟨cx a1,e',n,v5,q⟩
    have u6:=yB (I6.pins_of λg hp=>(nomatch hp));have nD:∀b o,s2.heap.get? b=Z o->b≠d:=λb o e=>by
     have E:b<d:=by rw[<-hD];exact v_ e
     exact FK E
    have u7:Un (L2.frs a.stack) fp H2 (Ý H5 d (.lst vs)) s2.heap s6.heap:=⟨u6.keep,u6.slot,λb o e n hx=>by rw[al (nD b o e)];exact u6.free b o e n hx,u6.there,λb xs q=>by have q':=u6.tups b xs q;rw[al (av q' D5)];exact q',λb o j q=>by have q':=u6.frzs b o j q;rw[al (av q' D5)];exact q',λb ps q=>by obtain⟨a0,q'⟩:=u6.tbls b ps q;exact⟨a0,by rw[al (av q' D5)];exact q'⟩⟩;have z':=I6.hok;rw[y1,y2]at z';have I7:Ë a H Μ (Ý H5 d (.lst vs)) s6:=I2.call' (s':=s6) (ch:=fp) (by have:=I6.os;rw[y0]at this;exact this) u7 (đ.add z' D5 C6 (λb j _ q=>q) b1) I6.bare λb E=>⟨(I b E).2.2.2.1,(I b E).2.1,(I b E).2.2.2.2.1,(I b E).2.2.2.2.2⟩;exact b9 d (d+1) s6 H5 P vs m6 I7 D5 v0 n6 C6 (Vg QC) (by rw[hD];exact Wj d)
 exact codeAny_compStart_list (m' _ rfl) (T.self _ 0 _ _ _ (T.keep _ _ _ p' λb E o e=>r' b o e) (m' _ rfl))
def wn{A':u_}{scope:TF}{d':Option ë}{b:N->Ev->Option Ev}{js:List Nat}(P:List (Str×Nat))(ok:iu a.env.scope scope P a.N)(hc:a.calm=L)(O':∀g s h fp,FG (ay a (v++P.map (·.1)) scope g s h fp) f b)(P0:Hp->V->Prop)(C':∀g s h fp,(∃H Μ,Ë a H Μ h s)->∀(H:List (O×Obj))(s9:g_)(a':L2.St)(H9:Hp)(ρ:Ev)(m:N),Ë (ay a (v++P.map (·.1)) scope g s h fp) H a' H9 s9->Ù a.K H9 a' ρ->Í h H9->A ρ=Z (.ok m)->t_ (y_ a.prog a.w) a.A (eval y (ay a (v++P.map (·.1)) scope g s h fp).env) (EP (ay a (v++P.map (·.1)) scope g s h fp) H a' λj b'=>Í H9 b'/\Ô a.K b' m j/\P0 h j) (λ_ _=>False) s9)(B':∀g s h fp,(∃H Μ,Ë a H Μ h s)->xL (ay a (v++P.map (·.1)) scope g s h fp) u d')(q':∀ρ d r',b d (hU v.length P ρ)=Z r'->fgt js r'=hU v.length P ρ){ρ:Ev}{s2:g_}{it:O}{fp:List O}{tn:Nat->M_->Prop}{J:It}{H2:Hp}(E:Ù a.K H2 Μ ρ)(I2:Ë a H Μ H2 s2)(T:xa a.prog a.w a.K f J fp it tn)(D':tn 0 s2.heap)(I:∀b∈fp,m7 a H H2 b){ds ys:List N}(wk:Ŵ a.K J ds H2)(a6:ds.length<=100000)(a2:ys.length<=100000)(hm:jy b d' A (hU v.length P ρ) ds=Z ys){RR:R->O->XY->g_->Prop}(S':∀(n g:O)(s6:g_)(H5:Hp)(vs:List V)(m6:Str->Option R),Ë a H Μ (Ý H5 n (.lst vs)) s6->H5 n=U->Í H2 H5->S a.K H5 ys vs->(∀j∈vs,P0 H2 j)->s6.heap.Ns g m6->H5 g=U->g≠n->s2.heap.objs.size<=g->RR (.ref n) g (.ok .next) s6):t_ (y_ a.prog a.w) a.A (ZK []) (λw' y'=>t_ (y_ a.prog a.w) a.A (Wq scope a.env.globals (kZ scope.names a.env []) [] a.env.qual U .none (Z a.env)) (λl' x'=>Vf (y_ a.prog a.w) a.A (.compStart (.ListComp y [⟨f,A',u,0⟩] scope p) 0 (.ref it) w' {l' with scope:=aaw scope a.env}) (RR w' l'.locals) x') a.xe y') a.xe s2:=by
 refine wm (v:=v) P ok hc I2 T D' I ds.length (λi vs e' H'=>∃es,(∀j∈vs,P0 H2 j)/\Ù a.K H' e' (hU v.length P ρ)/\S a.K H' es vs/\es.length<=i/\i<=ds.length/\Í H2 H'/\(match jy b d' A (hU v.length P ρ) (ds.drop i)with|some zs=>es++zs=ys|none=>False)) (λi vs Μ h⟨es,_,_,r,l,l2,_⟩=>by rw[r.length];omega) ⟨[],(λj hv=>by cases hv),xU v.length P E,rfl,r_ _,Sb _,.refl H2,by rw[XG,hm];rfl⟩ (λvs o' H5⟨es,_,_,_,_,_,e,_⟩=>wk.stop H5 e) (λi vs o' H5 g'⟨es,_,_,_,_,_,e,_⟩=>wk.go i H5 e g') (λg i vs o' H5 x H7 g'⟨es,hP,E5,r5,a5,_,e5,hz⟩hy Y hY H s7 o I7 r7=>?_) λn g s6 H5 e' vs m6 I6 D5⟨es,hP,_,r5,_,_,e5,hz⟩n6 C6 CD hC=>by rw[WS]at hz;have t':es++[]=ys:=hz;rw[Uc]at t';subst t';exact S' n g s6 H5 vs m6 I6 D5 e5 r5 hP n6 C6 CD hC
 subst hY;obtain⟨v',d,hd,rd⟩:=wk.yld i H5 x H7 e5 g' hy;rw[jE hd]at hz;unfold jy at hz;match hb:b d (hU v.length P ρ)with
 |none=>rw[hb]at hz;exact hz.elim|some c'=>
 rw[hb]at hz;dsimp only at hz;refine Sw ((O' g s2 H2 fp).h _ s7 o' H7 x o d (hU v.length P ρ) c' I7 r7 rd (E5.mono v') hb) (λ_ s8⟨a',H8,I8,U',E8⟩=>?_) λ_ _ z=>SK z;have h':=v'.trans U';have m':∀{n':L2.St}{H9:Hp},Ù a.K H9 n' c'->Ù a.K H9 n' (hU v.length P ρ):=λ{n' H9}E9=>by have q:=Ù.fgt js E9;rw[q' ρ d c' hb]at q;exact q
 have k':∀{H9:Hp}{s9:g_},Ë (ay a (v++P.map (·.1)) scope g s2 H2 fp) H a' H9 s9->Í H8 H9->(match(match A c' with|some (.ok m)=>(match jy b d' A (hU v.length P ρ) (ds.drop (i+1))with|some ys=>Z (m::ys)|none=>U)|_=>U)with|some zs=>es++zs=ys|none=>False)->t_ (y_ a.prog a.w) a.A (eval y (ay a (v++P.map (·.1)) scope g s2 H2 fp).env) (λw s'=>∃yv e' b',Ë (ay a (v++P.map (·.1)) scope g s2 H2 fp) H e' b' s'/\Ú yv w/\∃es,(∀j∈vs++[yv],P0 H2 j)/\Ù a.K b' e' (hU v.length P ρ)/\S a.K b' es (vs++[yv])/\es.length<=i+1/\i+1<=ds.length/\Í H2 b'/\(match jy b d' A (hU v.length P ρ) (ds.drop (i+1))with|some zs=>es++zs=ys|none=>False)) (λ_ _=>False) s9:=λ{H9 s9}I9 e9 B=>by match Q':A c',B with|none,B=>exact B.elim|some (.exc c),B=>exact B.elim|some (.ok m),B=>refine Sw (C' g s2 H2 fp ⟨_,_,I2⟩ _ s9 a' H9 c' m I9 (E8.mono e9) (e5.trans (h'.trans e9)) Q') (λw s'⟨yv,b',a1,z',a0,E',I'⟩=>?_) λ_ _ z=>SK z;have p':=e9.trans a0;refine⟨yv,a',b',a1,z',es++[m],(λj hv=>(Sr.mp hv).elim (hP j) λz=>by rw[Sf.mp z];exact I'),m' (E8.mono p'),(S.mono (h'.trans p') _ _ r5).append ⟨yv,[],rfl,E',rfl⟩,by rw[SV,YS];omega,g',e5.trans (h'.trans p'),?_⟩;match a3:jy b d' A (hU v.length P ρ) (ds.drop (i+1)),B with|none,B=>exact B.elim|some zs,B=>dsimp only at B⊢;rw[WF];exact B
 have u':=B' g s2 H2 fp ⟨_,_,I2⟩;cases d' with|none=>cases(show u=[]from u');exact wpAny_tests_nil (by rw[if_pos rfl];exact k' I8 (.refl H8) hz)|some t=>obtain⟨c,rfl,R'⟩:=u';match i':t c',hz with|none,hz=>simp only[i']at hz|some (.exc c),hz=>simp only[i']at hz|some (.ok k),hz=>simp only[i']at hz;refine wpAny_tests_one (Sw (R'.h _ s8 a' H8 (λb H9=>b=k/\Í H8 H9) I8 ⟨_,E8,by rw[i'];exactλH9 e9=>⟨rfl,e9⟩⟩) (λb s9⟨H9,I9,hb,e9⟩=>?_) λ_ _ z=>SK z);subst hb;cases b with|true=>rw[if_pos rfl];exact k' I9 e9 hz|false=>rw[if_neg C_];exact⟨a',H9,I9,es,hP,m' (E8.mono e9),S.mono (h'.trans e9) _ _ r5,by omega,g',e5.trans (h'.trans e9),hz⟩
def nN{l':u_}{scope:TF}{e':Option ë}{b:N->Ev->Option Ev}{js:List Nat}(B:List (Str×Nat))(ok:iu a.env.scope scope B a.N)(hc:a.calm=L)(r':∀i s j t,FG (ay a (v++B.map (·.1)) scope i s j t) f b)(n':∀i s j t,(∃H Μ,Ë a H Μ j s)->FE (ay a (v++B.map (·.1)) scope i s j t) y A)(m':∀i s j t,(∃H Μ,Ë a H Μ j s)->xL (ay a (v++B.map (·.1)) scope i s j t) u e')(c':∀ρ d d',b d (hU v.length B ρ)=Z d'->fgt js d'=hU v.length B ρ){ρ:Ev}{s2:g_}{it:O}{t:List O}{tn:Nat->M_->Prop}{J:It}{H2:Hp}(E:Ù a.K H2 Μ ρ)(I2:Ë a H Μ H2 s2)(T:xa a.prog a.w a.K f J t it tn)(p':tn 0 s2.heap)(I:∀b∈t,m7 a H H2 b){ds ys:List N}(wk:Ŵ a.K J ds H2)(t':ds.length<=100000)(q':ys.length<=100000)(hm:jy b e' A (hU v.length B ρ) ds=Z ys){RR:R->O->XY->g_->Prop}(u':∀(k i:O)(s6:g_)(H5:Hp)(vs:List V)(m6:Str->Option R),Ë a H Μ (Ý H5 k (.lst vs)) s6->H5 k=U->Í H2 H5->S a.K H5 ys vs->s6.heap.Ns i m6->H5 i=U->i≠k->s2.heap.objs.size<=i->RR (.ref k) i (.ok .next) s6):t_ (y_ a.prog a.w) a.A (ZK []) (λg' i'=>t_ (y_ a.prog a.w) a.A (Wq scope a.env.globals (kZ scope.names a.env []) [] a.env.qual U .none (Z a.env)) (λP h'=>Vf (y_ a.prog a.w) a.A (.compStart (.ListComp y [⟨f,l',u,0⟩] scope p) 0 (.ref it) g' {P with scope:=aaw scope a.env}) (RR g' P.locals) h') a.xe i') a.xe s2:=wn B ok hc r' (λ_ _=>True) (λi s j t hI H s9 o' H9 ρ n I9 E9 _ s'=>Sw ((n' i s j t hI).h H s9 o' H9 (λm r=>Í H9 r/\Ô a.K r n m) I9 ⟨ρ,E9,by rw[s'];exactλm r b' a'=>⟨b',a'⟩⟩) (λw w'⟨yv,r,v',k',b',a'⟩=>⟨yv,r,v',k',b',a',trivial⟩) λ_ _ z=>z) m' c' E I2 T p' I wk t' q' hm (λk i s6 H5 vs m6 q b c d _ e o g h=>u' k i s6 H5 vs m6 q b c d e o g h)
def Cp{n:u_}{t:Option ë}{b:N->Ev->Option Ev}(c':TF)(j w:List Str)(js:List Nat)(q:List (Str×Nat))(d':a.env.scope=c')(hN:a.N=j)(ok:iu c' ι q j)(n':Vu ι a.env=pure (kZ ι.names a.env []))(hc:a.calm=L)(a':∀B d b',b d (hU w.length q B)=Z b'->fgt js b'=hU w.length q B)(hi:Ŕ a f n μ)(l':∀g s H fp,FG (ay a (w++q.map (·.1)) ι g s H fp) f b)(g':∀g s H fp,(∃P z,Ë a P z H s)->FE (ay a (w++q.map (·.1)) ι g s H fp) y A)(e':∀g s H fp,(∃P z,Ë a P z H s)->xL (ay a (w++q.map (·.1)) ι g s H fp) u t)(hs:∀x,Sj n a.env x=pure x:=by intro _;lk):FE a (.ListComp y [⟨f,n,u,0⟩] ι p) (bP w.length q μ b t A):=by subst d' hN;constructor;intro P s z H Q k h;obtain⟨B,E,o⟩:=h;match ho:bP w.length q μ b t A B with
 |none=>rw[ho]at o;exact o.elim|some r=>
 rw[ho]at o;rw[eval_ListComp];have key:ģ a H (μ B) λJ H'=>∃ds ys,Í H H'/\Ŵ a.K J ds H'/\ds.length<=100000/\ys.length<=100000/\jy b t A (hU w.length q B) ds=Z ys/\(∀v m,Í H' m->Ô a.K m (.lst ys) v->Q v m):=by
  rcases OM ho with⟨c,e1,e2⟩|⟨ds,ys,e1,e2,l1,l2,e3⟩;·subst e2;rw[e1];exact o
  ·subst e3;rw[e1];exactλJ H' e wk=>⟨ds,ys,e,wk,l1,l2,e2,λv m e2 r=>o v m (e.trans e2) r⟩
 refine XV (use:=U) rfl hs n' ok.kind ok.names (è (hi.h P s z H _ k ⟨B,E,key⟩) λv s1 h1=>è h1 λq' s2 h2=>?_);obtain⟨it,fp,tn,J,H2,e,I2,T,h',I,ds,ys,o',wk,m',k',hm,hQ⟩:=h2;subst e;refine nN q ok hc l' g' e' a' (E.mono o') I2 T h' I wk m' k' hm (RR:=λp' g=>compPost (y_ a.prog a.w) a.A a.xe U (EP a P z Q) p' g) λi g s6 H5 vs m6 I6 D5 e5 r5 n6 C6 CD hC=>?_;refine⟨m6,n6,λh7 i'=>?_⟩;have Cn:(Ý H5 i (.lst vs)) g=U:=by rw[al CD];exact C6
 obtain⟨q0,q1,q2,q3,q4,q5⟩:=I2.fpOk hC Cn;have I7:Ë a P z (Ý H5 i (.lst vs)) {s6 with heap:=h7}:=I6.turned (t':=s6.toks) (λb o hb e=>i'.extBut b o hb e) q0 q1 q3 q4 q5;exact⟨.ref i,_,I7,rfl,hQ _ _ (e5.trans (aG D5 _)) ⟨i,vs,rfl,ao,S.mono (aG D5 _) _ _ r5⟩⟩
def uN{g:u_}{o:Option ë}{b:N->Ev->Option Ev}(k:TF)(e j:List Str)(B:List Nat)(i:List (Str×Nat))(q:a.env.scope=k)(hN:a.N=e)(E:iu k ι i e)(w:Vu ι a.env=pure (kZ ι.names a.env []))(hc:a.calm=L)(m:∀z d n,b d (hU j.length i z)=Z n->fgt B n=hU j.length i z)(hi:Ŕ a f g μ)(v:∀c s H h,FG (ay a (j++i.map (·.1)) ι c s H h) f b)(t:∀c s H h,FE (ay a (j++i.map (·.1)) ι c s H h) y A)(r:∀c s H h,xL (ay a (j++i.map (·.1)) ι c s H h) u o)(P:∀x,Sj g a.env x=pure x:=by intro _;lk):FE a (.ListComp y [⟨f,g,u,0⟩] ι p) (bP j.length i μ b o A):=Cp k e j B i q hN E w hc m hi v (λc s H h _=>t c s H h) (λc s H h _=>r c s H h) P
def Cq{t:u_}{a':Option ë}{j:N->Ev->Option Ev}(i:Nat)(t':a.N.Nodup)(u':a.N[i]?=Z b)(p':ľ a.env.scope b)(v':a.fn b=L\/a.env.scope.names.lookup b=Z .local)(d':TF)(n ns:List Str)(js:List Nat)(cs:List (Str×Nat))(h':a.env.scope=d')(hN:a.N=n)(ok:iu d' ι cs n)(x':Vu ι a.env=pure (kZ ι.names a.env []))(hc:a.calm=L)(b':∀ρ d c',j d (hU ns.length cs ρ)=Z c'->fgt js c'=hU ns.length cs ρ)(hi:Ŕ a f t μ)(q':∀g s H fp,FG (ay a (ns++cs.map (·.1)) ι g s H fp) f j)(k':∀g s H fp,FE (ay a (ns++cs.map (·.1)) ι g s H fp) y A)(i':∀g s H fp,xL (ay a (ns++cs.map (·.1)) ι g s H fp) u a')(r':To (.ListComp y [⟨f,t,u,0⟩] ι p) (Z (.Name b B)) Υ.line a.env=pure L:=by lk)(hs:∀x,Sj t a.env x=pure x:=by intro _;lk):PS a (.Assign [.Name b B] (.ListComp y [⟨f,t,u,0⟩] ι p) Υ) (tC a i (bP ns.length cs μ j a' A)):=by subst h' hN;intro f' s σ H D0 q h;obtain⟨ρ,E,o⟩:=h;match ho:bP ns.length cs μ j a' A ρ with
 |none=>rw[ho]at o;exact o.elim|some r=>
 rw[ho]at o;have key:ģ a H (μ ρ) λJ H'=>∃ds ys,Í H H'/\Ŵ a.K J ds H'/\ds.length<=100000/\ys.length<=100000/\jy j a' A (hU ns.length cs ρ) ds=Z ys/\(∀w m P,Í H' w->w m=U->S a.K w ys P->D0.nx (σ.set i (Z (.ref m))) (Ý w m (.lst P))):=by
  rcases OM ho with⟨c,e1,e2⟩|⟨ds,ys,e1,e2,l1,l2,e3⟩;·subst e2;rw[e1];exact o
  ·subst e3;rw[e1];obtain⟨E',ey,o⟩:=o;cases ey;exactλJ H' e wk=>⟨ds,ys,e,wk,l1,l2,e2,λw m P e3 hp r=>o w m P (e.trans e3) hp r⟩
 rw[exec_Assign_Name_used _ _ _ _ r'];refine c_ (Zp (c_ ?_));show t_ _ a.A (do let _<-comprehension (.ListComp y [⟨f,t,u,0⟩] ι p) ι a.env _ (ZK []) D (eval t a.env) (Z (Vj (.Name b B) a.env))) _ _ s;refine c_ (Sw (XV (use:=Z (Vj (.Name b B) a.env)) (Q:=λ_ s'=>SP a f' D0 .next s') rfl hs x' ok.kind ok.names (è (hi.h f' s σ H _ q ⟨ρ,E,key⟩) λv s1 h1=>è h1 λI' s2 h2=>?_)) (λ_ s' hq=>j_ (j_ hq)) λ_ _ e=>e);obtain⟨it,fp,tn,J,H2,e,I2,T,m',I,ds,ys,z',wk,w',o',hm,hQ⟩:=h2;subst e;refine nN cs ok hc q' (λg s H fp _=>k' g s H fp) (λg s H fp _=>i' g s H fp) b' (E.mono z') I2 T m' I wk w' o' hm (RR:=λA' g=>compPost (y_ a.prog a.w) a.A a.xe (Z (Vj (.Name b B) a.env)) (λ_ s'=>SP a f' D0 .next s') A' g) λk g s6 w P m6 I6 D5 e5 r5 n6 C6 CD hC=>?_;have Cn:(Ý w k (.lst P)) g=U:=by rw[al CD];exact C6
 have FC:=I2.fpOk hC Cn;obtain⟨oC,es,ep,e',g',rC⟩:=id n6;have C':=I6.pinned (fp:=[g]) (λj hb=>by
  have e:j=g:=by simpa using hb
  subst e;exact FC) (λj hb=>by
  have e:j=g:=by simpa using hb
  subst e;exact⟨oC,e',λv z=>by rw[g']at z;cases z⟩);refine è (ii t' u' p' v' _ s6 σ _ (.ref k) (.ref k) (λl' H'=>l'=σ.set i (Z (.ref k))/\H'=Ý w k (.lst P)) C' rfl ⟨rfl,rfl⟩) λ_ s8⟨D',H8,I8,e1,e2⟩=>?_;subst e1 e2;have y':=(I8.pin (g,oC) (q_ _ (q_ _ (dJ (by simp) e')))).1;refine⟨m6,⟨oC,es,ep,y',g',rC⟩,λh9 n'=>?_⟩;have B':Ë a f' (σ.set i (Z (.ref k))) (Ý w k (.lst P)) s8:=I8.unpinned;obtain⟨q0,q1,q2,q3,q4,q5⟩:=FC;have I9:Ë a f' (σ.set i (Z (.ref k))) (Ý w k (.lst P)) {s8 with heap:=h9}:=B'.turned (t':=s8.toks) (λj o hb e=>n'.extBut j o hb e) q0 q1 q3 q4 q5;exact⟨_,_,I9,hQ w k P e5 D5 r5⟩
abbrev bS:=List (Str×Nat×List Str×(Ñ))
def gp{a:z}{T:List (Str×z)}(h:((j,É)::T).lookup b=Z a):(b=j/\a=É)\/T.lookup b=Z a:=by
 rw[Sq]at h;split at h;·rename_i c;exact .inl ⟨WT c,by cases h;rfl⟩
 ·exact .inr h
structure HA(P:on)(w:z_)(K:d_)(mg:Str->Option R)(base:M_)(T:bS):Prop where h:∀x e,T.lookup x=Z e->Has P w K mg base x e.1 e.2.1 e.2.2
def Lx:HA q o s Η P []:=⟨λ_ _ h=>by cases h⟩
def ah{T:bS}(h:Has q o s Η P b c v Ρ)(t:HA q o s Η P T):HA q o s Η P ((b,c,v,Ρ)::T):=⟨λx e a=>by
 rcases gp a with⟨rfl,rfl⟩|a;·exact h
 ·exact t.h x e a⟩
abbrev Ew:=List (Str×Option N)
def cN(s:String):Str×Option N:=(b_ s,U)
def cI(s:String)(i:Int):Str×Option N:=(b_ s,Z (.int i))
def cS(s z:String):Str×Option N:=(b_ s,Z (.str (b_ z)))
def Rw(a:Str->Option R)(x:Str):Option N->Prop|none=>a x=U|some (.int i)=>∃t,a x=Z (.int i t)|some (.str z)=>∃t,a x=Z (.str z t)|_=>False
structure MA(mg:Str->Option R)(C:Ew):Prop where h:∀x o,C.lookup x=Z o->Rw mg x o
def MA.no{C:Ew}(h:MA Η C)(e:C.lookup b=Z U):Η b=U:=h.h b U e
def Pe(K:d_)(q:Str×Option N):Bool:=match q.2,Tp K H_ q.1 with|none,Z U=>L|some (.int i),Z (Z (.int j _))=>i==j|some (.str z),Z (Z (.str y _))=>z==y|_,_=>D
def Ly{K:d_}{d:Str->Option R}{h:M_}(X:K.In h)(G:h.Ns H_ d):∀(C:Ew),C.all (Pe K)=L->MA d C|[],_=>⟨λx o q=>by cases q⟩|(y,o)::C,e=>⟨λx f q=>by
 rw[Tn,pi]at e;rcases gp q with⟨rfl,rfl⟩|q
 · have b:=e.1;unfold Pe at b;dsimp only at b;split at b;·rename_i c;exact PySem.W.mg_none_of X G c
   ·rename_i i j t c;have a:i=j:=WT b;subst a;exact⟨t,UC X G c⟩
   ·rename_i z y t c;have a:z=y:=WT b;subst a;exact⟨t,UC X G c⟩
   ·cases b
 ·exact(Ly X G C e.2).h x f q⟩
def Cr{T:bS}(r:HA a.prog a.w a.K a.mg a.base T)(j:Ö c a.A)(e:(T.lookup b).map (λq=>q.2.2)=Z Ρ)(o:FA a (f::u) μ)(d:((T.lookup b).all λq=>Xk q.1 c&&VV m q.2.1.length)=L:=by lk)(k:a.env.kindOf b=Z .globalImplicit:=by lk)(i:(b==("__debug__":Str))=D:=by lk)(n:l_ (f::u) a.env=(D,eval f a.env)::l_ u a.env:=by lk)(h:(R8 B (l_ u a.env)).any (·.1)=D:=by lk):FE a (.Call (.Name b p) (f::u) [] B) (ab Ρ m μ):=by cases g:T.lookup b with|none=>rw[g]at e;cases e|some q=>rw[g]at e d;cases e;rw[VD,pi]at d;exact BA q.1 q.2.1 q.2.2 (r.h b q g) j (SW d.1) k o (SE d.2) i n h
def zi{T:bS}{d:Ew}{h:Pos}(y:HA a.prog a.w a.K a.mg a.base T)(z:MA a.mg d)(s:Ö c a.A)(j:(T.lookup b).map (λq=>q.2.2)=Z Ρ)(w:FA a [f] μ)(i:((T.lookup b).all λq=>Xk (q.1+2) c&&VV q.2.1.length 1)=L:=by lk)(u:a.env.kindOf (b_ "sorted")=Z .globalImplicit:=by lk)(t:d.lookup (b_ "sorted")=Z U:=by lk)(o:a.env.kindOf b=Z .globalImplicit:=by lk)(r:(b==("__debug__":Str))=D:=by lk)(v:R8 B (l_ [f] a.env)=(D,eval f a.env)::R8 B (l_ [] a.env):=by lk)(e:(R8 B (l_ [f] a.env)).any (·.1)=D:=by lk)(g:(Tx B (SN [⟨Z "key",.Name b Υ,h⟩] a.env)).all (·.1.isSome)=L:=by lk)(n:(Tx B (SN [⟨Z "key",.Name b Υ,h⟩] a.env)).any (·.1.isNone)=D:=by lk)(m:(Tx B (SN [⟨Z "key",.Name b Υ,h⟩] a.env)).filterMap (·.1)=[b_ "key"]:=by lk):FE a (.Call (.Name "sorted" p) [f] [⟨Z "key",.Name b Υ,h⟩] B) (â (wj Ρ) μ):=by cases k:T.lookup b with|none=>rw[k]at j;cases j|some q=>rw[k]at j i;cases j;rw[VD,pi]at i;exact Co q.1 q.2.1 q.2.2 (y.h b q k) s (SW i.1) (SE i.2) u (z.no t) o w r v e g n m
def Pf{c:Ew}(g:MA a.mg c)(d:c.lookup b=Z (Z (.int i)))(e:a.env.kindOf b=Z .globalImplicit:=by lk)(f:(b==("__debug__":Str))=D:=by lk):FE a (.Name b p) (fC (.int i)):=let⟨_,h⟩:=g.h b _ d;Fw e h f
def Pg{c:Ew}(g:MA a.mg c)(d:c.lookup b=Z (Z (.str j)))(e:a.env.kindOf b=Z .globalImplicit:=by lk)(f:(b==("__debug__":Str))=D:=by lk):FE a (.Name b p) (fC (.str j)):=let⟨_,h⟩:=g.h b _ d;Fx e h f
def Ĥ:List Str->Bool|[]=>L|x::r=>!(r.contains x)&&Ĥ r
def jM:∀{l:List Str},Ĥ l=L->l.Nodup|[],_=>List.nodup_nil|x::r,h=>by unfold Ĥ at h;rw[pi]at h;refine TD.2 ⟨λb=>?_,jM h.2⟩;have a:=h.1;rw[List.contains_iff_mem.2 b]at a;cases a
def kQ(a:TF)(x:Str):Bool:=match a.names.lookup x with|some .local=>L|some .cell=>L|_=>D
def fR(h:kQ ι b=L):ľ ι b:=by
 unfold kQ at h;split at h;·exact .inl ‹_›
 ·exact .inr ‹_›
 ·cases h
def IU(b a:TF)(d:List (Str×Nat))(N:List Str):Bool:=uk (a.kind=.function)&&uk (∀y∈a.names,y.2=.cell->a.names.lookup y.1=Z .cell)&&uk (∀y∈a.names,y.2=.local->a.names.lookup y.1=Z .local)&&uk (∀y∈a.names,y.2=.free->b.names.lookup y.1=Z .cell\/b.names.lookup y.1=Z .free)&&uk (∀c∈d,N[c.2]?=Z c.1/\a.names.lookup c.1=Z .free)
def zj{a:TF}{b:List (Str×Nat)}(h:IU ι a b v=L):iu ι a b v:=by unfold IU at h;simp only[pi,decide_eq_true_eq]at h;exact⟨h.1.1.1.1,h.1.1.1.2,h.1.1.2,h.1.2,h.2⟩
def lkc{b:Env}:∀{a:List (Str×Vm)}{x:Str},a.lookup x=Z .cell->(a.map λ(n,k)=>if(k==TV&&b.scope.kind==.function&&b.kindOf n==Z .cell)then(n,Uj)else(n,k)).lookup x=Z .cell|[],_,h=>by simp at h|(n,k)::r,x,h=>by rw[Sq]at h;rw[K_];cases c:x==n with|true=>rw[c]at h;cases h;simp[Sq,c]|false=>
 rw[c]at h;have d:=lkc (b:=b) h;dsimp only;split;·rw[Sq,c];exact d
 ·rw[Sq,c];exact d
def Y'(h:kQ ι b=L):ľ (ay a v ι e d g Ε).env.scope b/\((ay a v ι e d g Ε).fn b=L\/(ay a v ι e d g Ε).env.scope.names.lookup b=Z .local):=by
 rcases fR h with h|h;·exact⟨.inl (YX h),.inr (YX h)⟩
 ·exact⟨.inr (lkc h),.inl (by show(ι.names.lookup b==Z .cell)=L;rw[h];rfl)⟩
def fgA(c:O)(s:g_)(H:Hp)(g:List O)(d:Ĥ v=L)(f:v[0]?=Z b)(e:kQ ι b=L):FG (ay a v ι c s H g) (.Name b p) (gN 0):=F4 0 (jM d) f (Y' e).1 (Y' e).2
def Ph{e:Option ë}{d:List (Str×Nat)}(q:Ŕ a (.Name b B) y μ)(i:∀c s H g,FE (ay a (b::d.map (·.1)) ι c s H g) f A)(h:∀c s H g,xL (ay a (b::d.map (·.1)) ι c s H g) u e)(j:IU a.env.scope ι d a.N=L:=by lk)(m:Vu ι a.env=pure (kZ ι.names a.env []):=by lk)(r:a.calm=L:=by lk)(k:Ĥ (b::d.map (·.1))=L:=by lk)(o:kQ ι b=L:=by lk)(n:∀b,Sj y a.env b=pure b:=by intro _;lk):FE a (.ListComp f [⟨.Name b B,y,u,0⟩] ι p) (bY d μ e A):=(GC (e:=d) (a:=μ) (b:=e) (d:=A))▸uN a.env.scope a.N [b] [0] d rfl rfl (zj j) m r (KF _) q (λc s H g=>fgA c s H g k rfl o) i h n
def Pi{e:Pos}{i:Option ë}{g:List (Str×Nat)}(P:Ŕ a (.Name b B) y μ)(m:∀d s H h,FE (ay a (b::g.map (·.1)) ι d s H h) f A)(k:∀d s H h,xL (ay a (b::g.map (·.1)) ι d s H h) u i)(hN:Ĥ a.N=L)(t:a.N[c]?=Z j)(n:kQ a.env.scope j=L)(v:a.fn j=L)(q:IU a.env.scope ι g a.N=L)(w:Vu ι a.env=pure (kZ ι.names a.env []))(hc:a.calm=L)(r:Ĥ (b::g.map (·.1))=L)(E:kQ ι b=L)(o:To (.ListComp f [⟨.Name b B,y,u,0⟩] ι p) (Z (.Name j Υ)) e.line a.env=pure L)(z:∀b,Sj y a.env b=pure b):PS a (.Assign [.Name j Υ] (.ListComp f [⟨.Name b B,y,u,0⟩] ι p) e) (tC a c (bP 1 g μ (gN 0) i A)):=Cq c (jM hN) t (fR n) (.inl v) a.env.scope a.N [b] [0] g rfl rfl (zj q) w hc (KF _) P (λd s H h=>fgA d s H h r rfl E) m k o z
def Pj{e:Pos}{h:Option ë}{g:List (Str×Nat)}(P:Ŕ a (.Name b B) y μ)(k:∀d s H m,FE (ay a (b::g.map (·.1)) ι d s H m) f A)(i:∀d s H m,xL (ay a (b::g.map (·.1)) ι d s H m) u h)(o:To (.ListComp f [⟨.Name b B,y,u,0⟩] ι p) (Z (.Name j Υ)) e.line a.env=pure L)(hN:Ĥ a.N=L:=by lk)(t:a.N[c]?=Z j:=by lk)(n:kQ a.env.scope j=L:=by lk)(v:a.fn j=L:=by lk)(q:IU a.env.scope ι g a.N=L:=by lk)(w:Vu ι a.env=pure (kZ ι.names a.env []):=by lk)(hc:a.calm=L:=by lk)(r:Ĥ (b::g.map (·.1))=L:=by lk)(E:kQ ι b=L:=by lk)(z:∀b,Sj y a.env b=pure b:=by intro _;lk):FS a (.Assign [.Name j Υ] (.ListComp f [⟨.Name b B,y,u,0⟩] ι p) e) (bW c (bP 1 g μ (gN 0) h A)):=GD (Pi P k i hN t n v q w hc r E o z) yA
def Rx(d:O)(s:g_)(H:Hp)(e:List O)(m:a.calm=L)(g:Ĥ v=L)(k:v[0]?=Z b)(i:v[1]?=Z j)(h:kQ ι b=L)(f:kQ ι j=L)(r:(Si [.Name b p,.Name j B] (ay a v ι d s H e).env).map (·.2)=Vj (.Name b p) (ay a v ι d s H e).env::(Si [.Name j B] (ay a v ι d s H e).env).map (·.2))(q:(Si [.Name j B] (ay a v ι d s H e).env).map (·.2)=Vj (.Name j B) (ay a v ι d s H e).env::(Si [] (ay a v ι d s H e).env).map (·.2))(o:(Si [.Name b p,.Name j B] (ay a v ι d s H e).env).length=2)(n:(Si [.Name b p,.Name j B] (ay a v ι d s H e).env).findIdx? (·.1)=U):FG (ay a v ι d s H e) (.Tuple [.Name b p,.Name j B] c Υ) (gP 0 1):=xT 0 1 m (jM g) k (Y' h).1 (Y' h).2 i (Y' f).1 (Y' f).2 r q o n
def Pk{r:Pos}{h:Option ë}{e:List (Str×Nat)}(z:Ŕ a (.Tuple [.Name b B,.Name j Υ] c r) y μ)(k:∀d s H g,FE (ay a (b::j::e.map (·.1)) ι d s H g) f A)(i:∀d s H g,xL (ay a (b::j::e.map (·.1)) ι d s H g) u h)(m:IU a.env.scope ι e a.N=L:=by lk)(q:Vu ι a.env=pure (kZ ι.names a.env []):=by lk)(t:a.calm=L:=by lk)(n:Ĥ (b::j::e.map (·.1))=L:=by lk)(w:kQ ι b=L:=by lk)(o:kQ ι j=L:=by lk)(v:∀b,Sj y a.env b=pure b:=by intro _;lk):FE a (.ListComp f [⟨.Tuple [.Name b B,.Name j Υ] c r,y,u,0⟩] ι p) (bP 2 e μ (gP 0 1) h A):=uN a.env.scope a.N [b,j] [0,1] e rfl rfl (zj m) q t (ON _) z (λd s H g=>Rx d s H g t n rfl rfl w o rfl rfl rfl rfl) k i v
def Cs:∀b s H c,xL (ay a v ι b s H c) [] U:=λ_ _ _ _=>rfl
def Ct(h:∀b s H c,FT (ay a v ι b s H c) f Ο):∀b s H c,xL (ay a v ι b s H c) [f] (Z Ο):=λb s H c=>⟨_,rfl,h b s H c⟩
def Lz(d:FE a f A)(c:FE a y È)(b:∀o i,aal y D o i=operate [o,i] (Yp o i):=by intro _ _;lk):FE a (.Subscript f y p) (I Ì A È):=OG d c b
def GL(i:FE a f A)(j:Ĥ a.N=L:=by lk)(g:a.N[c]?=Z b:=by lk)(d:kQ a.env.scope b=L:=by lk)(h:a.fn b=L:=by lk)(e:To f (Z (.Name b B)) p.line a.env=pure D:=by lk):FS a (.Assign [.Name b B] f p) (bW c A):=Kc c (jM j) g (fR d) i e (.inl h)
def GM(k:FE a f A)(e:a.ex=[]:=by lk)(d:VV c m=D:=by lk)(n:Ĥ a.N=L:=by lk)(i:a.N[m]?=Z b:=by lk)(g:kQ a.env.scope b=L:=by lk)(j:a.fn b=L:=by lk)(h:To f (Z (.Name b B)) p.line a.env=pure D:=by lk):Ŗ a c (.Assign [.Name b B] f p) (pS m A):=KY e m (Uz d) (jM n) i (fR g) k h (.inl j)
def Cu{d:k8}(i:FA a u μ)(g:ŧ a c Ä d)(k:Ĥ a.N=L:=by lk)(h:a.N[c]?=Z b:=by lk)(e:kQ a.env.scope b=L:=by lk)(j:a.fn b=L:=by lk)(f:To (.List u Υ) (Z (.Name b B)) p.line a.env=pure D:=by lk):Ħ a (.Assign [.Name b B] (.List u Υ) p::Ä) (Eh c μ d):=Gi (jM k) h (fR e) i g f (.inl j)
def GN{d:List Nat}(h:Wf (y_ a.prog a.w) a.A a.env a.xe)(j:FI a (.Name b B) f μ)(n:Ħ a Ä Τ)(m:a.calm=L:=by lk)(o:Ĥ a.N=L:=by lk)(e:a.N[c]?=Z b:=by lk)(i:kQ a.env.scope b=L:=by lk)(k:a.fn b=L:=by lk)(g:∀b,Sj f a.env b=pure b:=by intro _;lk):FS a (.For (.Name b B) f Ä [] p) (D4 c d μ Τ):=Kg c d h m j (ii (jM o) e (fR i) (.inl k)) n g
def GO{g:List Nat}{h:k8}(k:Wf (y_ a.prog a.w) a.A a.env a.xe)(o:FI a (.Name b B) f μ)(s:ŧ a c Ä h)(e:a.ex=[]:=by lk)(d:VV c m=D:=by lk)(r:a.calm=L:=by lk)(t:Ĥ a.N=L:=by lk)(i:a.N[m]?=Z b:=by lk)(n:kQ a.env.scope b=L:=by lk)(q:a.fn b=L:=by lk)(j:∀b,Sj f a.env b=pure b:=by intro _;lk):Ŗ a c (.For (.Name b B) f Ä [] p) (Gj m g μ h):=K2 e m g (Uz d) k r o (ii (jM t) i (fR n) (.inl q)) s j
def Cv{g:Pos}{h:List Nat}(q:Wf (y_ a.prog a.w) a.A a.env a.xe)(s:Ŕ a (.Tuple [.Name b Υ,.Name j B] ψ g) f μ)(u:Ħ a Ä Τ)(i:a.calm=L:=by lk)(v:Ĥ a.N=L:=by lk)(n:a.N[c]?=Z b:=by lk)(r:kQ a.env.scope b=L:=by lk)(t:a.fn b=L:=by lk)(k:a.N[m]?=Z j:=by lk)(d:kQ a.env.scope j=L:=by lk)(e:a.fn j=L:=by lk)(A:(Si [.Name b Υ,.Name j B] a.env).map (·.2)=Vj (.Name b Υ) a.env::(Si [.Name j B] a.env).map (·.2):=by lk)(z:(Si [.Name j B] a.env).map (·.2)=Vj (.Name j B) a.env::(Si [] a.env).map (·.2):=by lk)(y:(Si [.Name b Υ,.Name j B] a.env).length=2:=by lk)(w:(Si [.Name b Υ,.Name j B] a.env).findIdx? (·.1)=U:=by lk)(o:∀b,Sj f a.env b=pure b:=by intro _;lk):FS a (.For (.Tuple [.Name b Υ,.Name j B] ψ g) f Ä [] p) (wb (gP c m) h μ Τ):=Gy h q i s (xT c m i (jM v) n (fR r) (.inl t) k (fR d) (.inl e) A z y w) u o
def Cw{d:List Nat}(h:ŕ a u (F6 d))(j:Ĥ a.N=L:=by lk)(g:a.N[c]?=Z b:=by lk)(e:kQ a.env.scope b=L:=by lk)(i:a.fn b=L:=by lk)(f:(Si (.Name b p::u) a.env).map (·.2)=Vj (.Name b p) a.env::(Si u a.env).map (·.2):=by lk):ŕ a (.Name b p::u) (F6 (c::d)):=F7 c (jM j) g (fR e) (.inl i) h f
def sS(g:a.N[c]?=Z b)(e:kQ a.env.scope b=L)(f:(b==("__debug__":Str))=D)(d:(b==("__classdict__":Str))=D):PE a (.Name b p) (DJ c):=w4 g ((fR e).elim .inl λh=>.inr (.inl h)) f d
def GP{i:Pos}(o:FE a f A)(m:PE a (.Name b B) (DJ c))(k:a.ex=[]:=by lk)(g:TU (.Name b B) "append" a.env (eval (.Name b B) a.env)=eval (.Name b B) a.env:=by lk)(h:((R8 Υ (l_ [f] a.env)).all (λb=>!b.1)&&(Tx Υ (SN [] a.env)).all (λb=>b.1.isSome)&&uk ([f].length+([]:List Vw).length+(if([]:List Vw).isEmpty then 0 else 1)<30))=L:=by lk)(e:(i.endLine==Υ.line)=L:=by lk)(n:l_ [f] a.env=(D,eval f a.env)::l_ [] a.env:=by lk)(d:(R8 Υ (l_ [] a.env)).any (·.1)=D:=by lk)(j:To (.Call (.Attribute (.Name b B) "append" i) [f] [] Υ) U p.line a.env=pure D:=by lk):Ŗ a c (.Expr (.Call (.Attribute (.Name b B) "append" i) [f] [] Υ) p) (IQ A):=K0 k m o g h e n d j
structure Ű(X:C)(o:u_)(name:Str)(e:u_)(es:List u_)(apos cpos:Pos):Prop where
 base:TU o name X.env (eval o X.env)=eval o X.env
 few:((R8 cpos (l_ (e::es) X.env)).all (λx=>!x.1)&&(Tx cpos (SN [] X.env)).all (λx=>x.1.isSome)&&uk ((e::es).length+([]:List Vw).length+(if([]:List Vw).isEmpty then 0 else 1)<30))=L
 line:(apos.endLine==cpos.line)=L
 s:l_ (e::es) X.env=(D,eval e X.env)::l_ es X.env
 plain:(R8 cpos (l_ es X.env)).any (·.1)=D
def qS{d:String}{r:V->List V->Hp->VK->Prop}{g:Str->Ñ}(c:Slot "str" b d)(e:aaz (.builtin d)=pure (.type "method_descriptor"))(n:ŉ a d r)(o:∀i k j H Q,S a.K H k j->ï a H (g i k) Q->r (.str i) j H Q)(m:FE a f A)(q:FA a (y::u) μ)(h:Ű a f b y u p B):FE a (.Call (.Attribute f b p) (y::u) [] B) (fM g A μ):=FV c e n o m q h.base h.few h.line h.s h.plain
noncomputable abbrev nsM(K:d_)(x:Str):Option (Option R):=Tp K H_ x
structure Af(K:d_)(x:Str)(st:S7)(f:O):Prop where
 a:nsM K x=Z (Z (.ref f))F:∃fd,ĥ K x x st f fd
 k:SU K (.ref f)=L
def Ţ(N P:List Str)(a:TF):Bool:=uk (a.kind=.function)&&!a.isCoroutine&&!a.isGenerator&&Ĥ N&&uk (N.take P.length=P)&&P.all (kQ a)&&uk (∀y∈a.names,y.2≠.free)
def Bf{P:List Str}(h:Ţ v P ι=L):eH v P ι:=by unfold Ţ at h;simp only[pi,decide_eq_true_eq,Tu]at h;exact⟨h.1.1.1.1.1.1,h.1.1.1.1.1.2,h.1.1.1.1.2,jM h.1.1.1.2,h.1.1.2,λx a=>fR (S3.1 h.1.2 x a),h.2⟩
def LA(x:Str)(b:S7)(e:List Str):Prop:=∀(kV c f:R)(h:Option O)(d g:R)(a:List R),a.length=e.length->Xq (Uh x x (gM b) (bF b) (ai b) .none kV c f h d g) ⟨a,[]⟩=pure (e.zip a)
def aq{h:M_}(r:s.In h)(t:h.Ns H_ Η)(N g:List Str)(i:Ø)(A:Af s b τ e)(j:LA b τ g)(n:∀(f:R)(A:x_)(d:List Env)(a:g_)(H:Hp)(E:XK),Ö c (A.deeper (Uo b (ai τ) a.heap.objs.size e f))->Ħ (kY ù q o s Η P N b (ai τ) e f A d a H E).nox (bF τ) i)(p:Ρ=aQ N.length i:=by lk)(m:Ţ N g (ai τ)=L:=by lk):Has q o s Η P b (c+1) g Ρ:=let⟨_,k⟩:=A.F;⟨_,_,D6 N g i p rfl k (Bf m) n,UC r t A.a,A.k,k.binds j⟩
def bdL(x:Str)(a:S7)(n:Nat)(e b d:R)(h:Option O)(c f:R)(g:Nat->R):Sem (List (Str×R)):=Xq (Uh x x (gM a) (bF a) (ai a) .none e b d h c f) ⟨(rl n).map g,[]⟩
def bdR(a:List Str)(n:Nat)(_ _ _:R)(_:Option O)(_ _:R)(g:Nat->R):Sem (List (Str×R)):=pure (a.zip ((rl n).map g))
def GQ(a:List R):a=(rl a.length).map λi=>a.getD i .none:=by refine WR (by simp) λi b c=>?_;simp[b]
def aK(h:bdL b τ v.length=bdR v v.length:=by lk):LA b τ v:=λkV a e j c g d f=>by have q:=congrFun (congrFun (congrFun (congrFun (congrFun (congrFun (congrFun h kV) a) e) j) c) g) λi=>d.getD i .none;unfold bdL bdR at q;rw[<-f,<-GQ d]at q;exact q
end FD
namespace TS
open L2 FD
end TS
namespace FD
open L2 TS
def ix(k:Int):List Int->Nat|[]=>0|m::r=>if m=k then 0 else ix k r+1
def er(k:Int):List Int->List Int|[]=>[]|m::r=>if m=k then r else m::er k r
structure S2(X:C)(i k:Nat)(a b:O)(H:Hp)(σ:L2.St)(Hf:Hp)(ρ:Ev):Prop where
 off:∀c,c≠a->c≠b->Hf c=H c
 na:H a=U
 nb:H b=U
 ne:a≠b
 ia:σ[i]?=Z (Z (.ref a))kb:σ[k]?=Z (Z (.ref b))len:σ.length=ρ.length
 low:∀j d,j≠i->j≠k->ρ[j]?=Z (Z d)->∃v,σ[j]?=Z (Z v)/\Ô X.K H d v
 fst:∃ds xs,ρ[i]?=Z (Z (.lst ds))/\Hf a=Z (.lst xs)/\S X.K H ds xs
 snd:∃es ys,ρ[k]?=Z (Z (.lst es))/\Hf b=Z (.lst ys)/\S X.K H es ys
abbrev FnP:=Ev->Option Ev
end FD
namespace TS
open FD
def Pl{g:List R}{ks:List Int}{P:Xn->g_->Prop}(n:d.heap.get? r=Z (Se "list" E.toArray m))(ha:d.heap.get? e=Z (Se "list" #[] c))(d':r≠e)(H:E.length=g.length)(b':g.length<64)(b:Od Δ)(B:2<=g.length->Yy E ks)(hB:∀i j x y,ks[i]?=Z x->ks[j]?=Z y->Δ i j=uk (x<y))(h:∀(p:Nat->Nat)(out:Array R)(tk:Nat),out.size=g.length->(∀k,k<g.length->out[k]?=g[p k]?)->(rl g.length).map p=isortB (λi j=>!Δ j i) (rl g.length)->(∀k,k<g.length->p k<g.length)->P (.done (.ret .none)) {d with heap:=(d.heap.update r (J_ λ_=>#[])).update e (J_ λ_=>out),toks:=tk}):t_ (y_ q o) w (ksk_end e D g.toArray c (.ref r) E.toArray) P ν d:=by
 unfold ksk_end;simp only[A_,if_false];have hz:E.toArray.size<=sizeLine:=line64 (by simp;omega);have A:(E.toArray.zip g.toArray).size=g.length:=by simp[H]
 have a':∀k,k<g.length->(E.toArray.zip g.toArray)[k]?=Z (E.getD k .none,g.getD k .none):=λk n=>by
  have:k<E.length:=by omega
  have f':k<(E.zip g).length:=by simp;omega
  have a:(E.zip g)[k]?=Z (E[k],g[k]):=by rw[s_ f',Yj]
  simp[n,this,Tr,a]
 have c':g.toArray.size=g.length:=by simp
 by_cases h2:g.toArray.size<2
 ·rw[if_pos h2,if_pos h2];refine c_ (j_ ?_);rw[YC];refine c_ (j_ ?_);dsimp only;refine uL (b:=ZE general' (E.toArray.zip g.toArray) #[] 7 U) n ha d' hz (line64 (by rw[A];exact b')) rfl ?_;have:=h id ((E.toArray.zip g.toArray).map (·.2)) d.toks (by rw[Vs,A]) (λk n=>by rw[Wd,a' k n];simp[n,Tr]) (jK b (λk n=>n) (λ_ _ _ _ a=>a) (λx y i' hy=>by rw[c']at h2;omega)) (λk n=>n);exact this
 · rw[if_neg h2,if_neg h2];rw[c']at h2;have B:=B (by omega);have h':keyKind' E.toArray=pure oneType':=by match E,B,H with|[],_,hl=>simp at hl;omega|[v],_,hl=>simp at hl;omega|v1::v2::f,B,_=>exact keyKind_ints B
   rw[h'];refine c_ (j_ ?_);refine c_ (Sw (Es (Ê:=JT d d.heap) (ν:=ν) (Q:=λ_ s=>∃p',NO (E.toArray.zip g.toArray) Δ p' (WA s)/\Y9 s=U) (Ν:=id) b (λi j x y s1 E' ex ey J1=>?_) (v:=ZE oneType' (E.toArray.zip g.toArray) #[] 7 U) ⟨rfl,λ_ _=>rfl,λ_ h=>h,λ_ _ _ _ a=>a,rfl,rfl,rfl⟩ (λ_ _=>rfl) (by rw[A];omega) (by rw[A];exact b') (λp' s a1 a2=>⟨p',a1,a2⟩) d ⟨d.toks,r_ _,rfl⟩) ?_ λ_ _ a=>a)
   · have e':∀(k:Nat)(z:WK),(E.toArray.zip g.toArray)[k]?=Z z->E[k]?=Z z.1:=λk z hz=>by
      have n:k<g.length:=by have:=(Tk.mp hz).1;rwa[A]at this
      rw[a' k n]at hz;cases hz;have:k<E.length:=by omega
      simp[this,Tr]
     have gi:=e' i x ex;have gj:=e' j y ey;have li:i<ks.length:=by have:=(xy.mp gi).1;have:=B.length;omega
     have lj:j<ks.length:=by have:=(xy.mp gj).1;have:=B.length;omega
     obtain⟨t,ht⟩:=B.get i ks[i] (s_ li);obtain⟨u,hu⟩:=B.get j ks[j] (s_ lj);rw[ht]at gi;rw[hu]at gj;have c:=Sd gi;have e2:=Sd gj;rw[keyLt'_oneType,<-c,<-e2];exact oneLt_int ⟨J1,(hB i j _ _ (s_ li) (s_ lj)).symm⟩
   ·rintro⟨⟨⟩,s⟩s'⟨⟨tk,_,rfl⟩,p',F,g'⟩;dsimp only;have Fl:=F.lt;have Fi:=F.inj;have Fs:=F.so;rw[A]at Fl Fi Fs;refine uL (d:={d with heap:=d.heap,toks:=tk}) n ha d' hz (by rw[F.sz,A];exact line64 b') g' ?_;refine h p' ((WA s).map (·.2)) tk (by rw[Vs,F.sz,A]) (λk n=>?_) (jK b Fl Fi Fs) Fl;rw[Wd,F.at' k (by rw[A];exact n),a' _ (Fl k n)];simp[Fl k n,Tr]
end TS
namespace FD
open L2 TS
def iw(F:Ñ):List N->Option (List Int)|[]=>Z []|d::r=>match F [d],iw F r with|some (.ok (.int k)),Z a=>Z (k::a)|_,_=>U
def iy(c:List Int)(d:List N):List N:=(isortB (λa b=>!uk (b.1<a.1)) (c.zip d)).map Prod.snd
def wo(F:Ñ):Ñ
 |[.lst a]=>match iw F a with|some b=>if b.length<64/\Þ a=L then Z (.ok (.lst (iy b a)))else U|none=>U
 |_=>U
def kg{F:Ñ}:∀{b:List N}{a:List Int},iw F b=Z a->a.length=b.length/\∀(i:Nat)(d:N),b[i]?=Z d->∃k,a[i]?=Z k/\F [d]=Z (.ok (.int k))
 |[],a,h=>by cases h;exact⟨rfl,λi d e=>by simp at e⟩|d::b,a,h=>by
  unfold iw at h;split at h;·rename_i k n f c;cases h;obtain⟨j,g⟩:=kg c;refine⟨by simp[j],λi m e=>?_⟩;cases i with|zero=>simp at e;subst e;exact⟨k,rfl,f⟩|succ i=>exact g i m (by simpa using e)
  ·cases h
def Bg(a:List Int)(i j:Nat):Bool:=uk (a.getD i 0<a.getD j 0)
def GR(d:List Int):Od (Bg d)where
 ir:=λa=>by simp[Bg]
 tr:=λa b c h e=>by simp only[Bg,decide_eq_true_eq]at*;omega
 nt:=λa b c h=>by simp only[Bg,decide_eq_true_eq]at*;omega
def wp{a:List Int}(d:a.length=k.length):(isortB (λi j=>!Bg a j i) (rl k.length)).map (λi=>k.getD i .non)=iy a k:=by
 have e:(rl k.length).map (λi=>(a.getD i 0,k.getD i .non))=a.zip k:=by
  apply WR;·simp[d]
  · intro i c f;simp only[E_,U7]at c;have b:i<a.length:=by omega
    simp[Tr,c,b]
 unfold iy;rw[<-e,<-sort_map (g:=λi j=>!Bg a j i) (λi=>(a.getD i 0,k.getD i .non)) _ λx _ y _=>rfl,SJ];rfl
structure LB(X:C)(A':x_)(f:O)(pn:List (O×Obj))(H0:Hp)(F:Ñ):Prop where run:∀(f':List (O×Obj))(σ:L2.St)(H:Hp)(s:g_)(v:V)(u:R)(d d':N)(E:R->g_->Prop),(∀p∈pn,p∈f')->Í H0 H->Ë X f' σ H s->Ú v u->Ô X.K H d v->F [d]=Z (.ok d')->t_ (y_ X.prog X.w) A' (call (.ref f) [u]) (EP X f' σ λv' H'=>Í H H'/\Ô X.K H' d' v') E s
def nO:∀l:List Int,Þ (l.map N.int)=L|[]=>rfl|i::l=>by show(ġ (.int i)&&Þ (l.map N.int))=L;rw[nO l];rfl
def lX:∀l:List Int,je (l.map N.int)=Z l|[]=>rfl|i::l=>by show(je (l.map N.int)).map (i::·)=_;rw[lX l];rfl
def LC{pn:List (O×Obj)}{kd:List N}{ks:List Int}{P:Xn->g_->Prop}(v:LB a w e pn ω Ρ)(D':∀p∈pn,p∈H)(hS:∀b u,b≠χ->ω b=Z u->g b=Z u)(t':ω χ=U)(I:Ë a (H++[(r,Se "list" #[] c)]) Μ g d)(hk:g χ=Z (.lst []))(k':χ≠r)(rv:Î θ E)(n':S a.K g k θ)(im:Þ k=L)(y':∀(i:Nat)(m:N),k[i]?=Z m->∃f,kd[i]?=Z f/\Ρ [m]=Z (.ok f))(U':kd.length=k.length)(a1:k.length<64)(o':Þ kd=L)(hI:2<=k.length->kd=ks.map N.int)(S':∀A,A r=U->m7 a H A r)(h:∀(s':g_)(A:Hp)(p:Nat->Nat)(out:Array R)(t:Nat),Ë a H Μ A s'->A r=U->(∀b u,b≠χ->g b=Z u->A b=Z u)->s'.heap.get? r=Z (Se "list" out t)->out.size=E.length->(∀f,f<E.length->out[f]?=E[p f]?)->(rl E.length).map p=isortB (λi j=>!Bg ks j i) (rl E.length)->(∀f,f<E.length->p f<E.length)->P (.done (.ret .none)) s'):t_ (y_ a.prog a.w) w (aaS r (.ref e) D E.toArray c (.ref χ)) P ν d:=by
 have a2:k.length=E.length:=by have g1:=cb n';have g2:=rv.length;omega
 have R':E.length<64:=by omega
 unfold aaS;refine c_ (UG ?_);first|rw[ZG]|(rw[<-UL];simp only[V1])|rw[<-UL]
 refine c_ (ksk_fold (λi s'=>∃A B,Ë a (H++[(r,Se "list" #[] c)]) Μ A s'/\A χ=Z (.lst B)/\(∀b u,b≠χ->g b=Z u->A b=Z u)/\S a.K A (kd.take i) B) E 0 d ⟨g,[],I,hk,λ_ _ _ s=>s,rfl⟩ ?step ?done);case step=>
  rintro j x s' hx⟨A,B,I',d',sm,rz⟩;simp only[U1]at rz⊢;have hj:j<E.length:=(xy.mp hx).1;have m':k[j]?=Z (k[j]'(by omega)):=s_ (by omega);obtain⟨es,er,eF⟩:=y' j _ m';have q':θ[j]?=Z (θ[j]'(by have:=rv.length;omega)):=s_ (by have:=rv.length;omega);have a3:j<θ.length:=by have:=rv.length;omega
  have a0:j<k.length:=by omega
  obtain⟨u,eu,ru⟩:=rv.get q';rw[hx]at eu;cases eu;have w':∀b ys,g b=Z (.tup ys)->A b=Z (.tup ys):=λb ys q=>sm b _ (λz=>by rw[z,hk]at q;cases q) q;have rd:Ô a.K A k[j] θ[j]:=Ô.tups w' _ _ (iQ im m') (lQ n' j _ _ m' q');have Q':Í ω A:=λb u q=>sm b u (λz=>by rw[z,t']at q;cases q) (hS b u (λz=>by rw[z,t']at q;cases q) q);refine c_ (UB (Sw (v.run _ _ _ _ _ _ _ _ (λ_ _=>False) (λp hp=>RX _ (D' p hp)) Q' I' ru rd eF) (λu' s2 he=>?_) λ_ _ z=>z.elim));obtain⟨v',H2,I2,z',g',B'⟩:=he;dsimp only;have l':H2 χ=Z (.lst B):=g' _ _ d';obtain⟨z,b',n,a',E',ek⟩:=I2.lstM l';have C':B.length<=62:=by have:=cb rz;simp at this;omega
  have r':b'.length<=62:=by have:=a'.length;omega
  refine c_ (VG ek rfl ?_ (by simp;exact line64 (by omega)) (by simp;omega));have e':∀b ys,H2 b=Z (.tup ys)->(Ý H2 χ (.lst (B++[v']))) b=Z (.tup ys):=λb ys q=>by rw[al (λz=>by rw[z,l']at q;cases q)];exact q
  obtain⟨n2,c'⟩:∃n2,(s2.heap.update χ (J_ (·.push u'))).get? χ=Z (Se "list" (b'.toArray.push u') n2):=⟨_,Ua (c:="list") ek (·.push u')⟩;refine j_ ⟨rfl,Ý H2 χ (.lst (B++[v'])),B++[v'],?_,ao,λb u hb q=>?_,?_⟩
  · refine I2.write (t':=s2.toks) (x:=χ) (e:=χ) (o:=.lst (B++[v'])) (by rw[l'];trivial) (.inl rfl) (λb u hb q=>?_) ⟨_,c'⟩ ?_;·rw[SG _ _ _ _ hb];exact q
    ·refine⟨by simp;exact line64 (by omega),b'++[u'],n2,a'.append (.cons z' .nil),?_⟩;simpa[Se]using c'
  ·rw[al hb];exact g' _ _ (sm b u hb q)
  · have x':kd.take (j+1)=kd.take j++[es]:=by rw[Z0,er];rfl
    rw[x'];have g1:S a.K (Ý H2 χ (.lst (B++[v']))) (kd.take j) B:=S.tups e' _ _ (lS j o') (S.mono g' _ _ rz);exact g1.append ⟨v',[],rfl,Ô.tups e' _ _ (iQ o' er) B',rfl⟩
 case done=>
  rintro s'⟨A,B,I',d',sm,rz⟩;have h':S a.K A kd B:=by rw[Vy (by omega)]at rz;exact rz
  obtain⟨z,b',n,a',E',ek⟩:=I'.lstM d';have C':B.length=E.length:=by have:=cb h';omega
  have r':b'.length=E.length:=by have:=a'.length;omega
  refine c_ (UZ ek rfl ?_);have i':=I'.pin (r,Se "list" #[] c) (by simp);refine Pl (Δ:=Bg ks) (m:=n) ek i'.1 k' r' R' (GR ks) (λh2=>by rw[hI (by omega)]at h';exact oM (lX ks) h' a') (λi j x y ex ey=>?_) λp out tk o1 o2 o3 o4=>?_;·simp[Bg,Tr,ex,ey]
  · obtain⟨n2,c'⟩:∃n2,(s'.heap.update χ (J_ λ_=>#[])).get? χ=Z (Se "list" #[] n2):=⟨_,Ua (c:="list") ek (λ_=>(#[]:Array R))⟩;have W:=I'.write (t':=tk) (h':=s'.heap.update χ (J_ λ_=>#[])) (x:=χ) (e:=χ) (o:=.lst []) (by rw[d'];trivial) (.inl rfl) (λb u hb q=>by rw[SG _ _ _ _ hb];exact q) ⟨_,c'⟩ ⟨Sb _,[],n2,.nil,by simpa[Se]using c'⟩;have W2:=W.unpinned;have p':Ý A χ (.lst []) r=U:=by rw[al k'.symm];exact i'.2.1
    have O':(s'.heap.update χ (J_ λ_=>#[])).get? r=Z (Se "list" #[] c):=by rw[SG _ _ _ _ k'.symm];exact i'.1
    obtain⟨g0,g1,g2,g3⟩:=S' _ p';have T:=W2.turned (t':=tk) (h':=(s'.heap.update χ (J_ λ_=>#[])).update r (J_ λ_=>out)) (it:=r) (λb o hb q=>by rw[SG _ _ _ _ hb];exact q) g0 g1 g3.1 g3.2.1 g3.2.2;exact h _ _ p out _ T p' (λb u hb q=>by rw[al hb];exact sm b u hb q) (Ua O' λ_=>out) o1 o2 o3 o4
def LD{pn:List (O×Obj)}{kd:List N}{ks:List Int}{P:Xn->g_->Prop}(t:LB a w e pn ω Ρ)(m':∀p∈pn,p∈H)(hS:Í ω g)(I:Ë a H Μ g d)(ho:d.heap.get? r=Z (Se "list" E.toArray c))(e':g r=U)(B:∀y,y r=U->m7 a H y r)(rv:Î θ E)(a':S a.K g k θ)(im:Þ k=L)(i':∀(i:Nat)(n:N),k[i]?=Z n->∃f,kd[i]?=Z f/\Ρ [n]=Z (.ok f))(h':kd.length=k.length)(n':k.length<64)(l':Þ kd=L)(hI:2<=k.length->kd=ks.map N.int)(h:∀(s':g_)(y:Hp)(p:Nat->Nat)(out:Array R)(m:Nat),Ë a H Μ y s'->y r=U->Í g y->s'.heap.get? r=Z (Se "list" out m)->out.size=E.length->(∀f,f<E.length->out[f]?=E[p f]?)->(rl E.length).map p=isortB (λi j=>!Bg ks j i) (rl E.length)->(∀f,f<E.length->p f<E.length)->P (.done (.ret .none)) s'):t_ (y_ a.prog a.w) w (aaR r (.ref e) D) P ν d:=by
 have g':E.length<64:=by have g1:=cb a';have g2:=rv.length;omega
 have ha:r<d.heap.objs.size:=v_ ho;obtain⟨g0,g1,g2,g3⟩:=B _ e';unfold aaR;refine c_ (UZ ho rfl ?_);refine c_ (VG ho rfl ?_ (line64 (by simpa using g')));obtain⟨e1,c'⟩:∃e1,(d.heap.update r (J_ λ_=>(#[]:Array R))).get? r=Z (Se "list" #[] e1):=⟨_,Ua ho λ_=>#[]⟩;have I1:=I.turned (t':=d.toks) (h':=d.heap.update r (J_ λ_=>(#[]:Array R))) (it:=r) (λb o A q=>by rw[SG _ _ _ _ A];exact q) g0 g1 g3.1 g3.2.1 g3.2.2;refine c_ (aar c' rfl ?_);refine c_ (YU ?_ (line64 (by simpa using g')));refine c_ (V3 ?_);refine SL ?_;have I2:=I1.kept (t':=d.toks) (h':=(d.heap.update r (J_ λ_=>(#[]:Array R))).push (Se "tuple" E.toArray 0)) λb u q=>i_ _ q;have k':((d.heap.update r (J_ λ_=>(#[]:Array R))).push (Se "tuple" E.toArray 0)).objs.size=d.heap.objs.size+1:=by rw[size_push',X7]
 have fr:g ((d.heap.update r (J_ λ_=>(#[]:Array R))).push (Se "tuple" E.toArray 0)).objs.size=U:=I2.hok.fresh (r_ _);have I3:=I2.laid (t':=d.toks) (h':=((d.heap.update r (J_ λ_=>(#[]:Array R))).push (Se "tuple" E.toArray 0)).push (Se "list" #[] 0)) (o:=.lst []) (λb u q=>i_ _ q) (r_ _) ⟨Sb _,[],0,.nil,n_ _ rfl⟩;have b':(((d.heap.update r (J_ λ_=>(#[]:Array R))).push (Se "tuple" E.toArray 0)).push (Se "list" #[] 0)).get? r=Z (Se "list" #[] e1):=i_ _ (i_ _ c');have d':((d.heap.update r (J_ λ_=>(#[]:Array R))).push (Se "tuple" E.toArray 0)).objs.size≠r:=by rw[k'];exact Uy (SA ha)
 have I4:=I3.pinned (fp:=[r]) (λb A=>by
 have:b=r:=by simpa using A
 subst this;exact B _ (by rw[al d'.symm];exact e')) (λb A=>by
 have:b=r:=by simpa using A
 subst this;exact⟨_,b',λv z=>by cases z⟩);rw[lV b']at I4;refine LC t m' (λb u A q=>by rw[al A];exact hS b u q) (hS.free fr) I4 ao d' rv (S.mono (aG fr _) _ _ a') im i' h' n' l' hI B λs' y p out m J ja sm s o1 o2 o3 o4=>h s' y p out m J ja (λb u q=>sm b u (λz=>?_) ?_) s o1 o2 o3 o4;·rw[z,fr]at q;cases q
 ·rw[al (λz=>by rw[z,fr]at q;cases q)];exact q
def Cy{pn:List (O×Obj)}{kd:List N}{ks:List Int}(m:LB a a.A.in1.in1 e pn ω Ρ)(n':∀p∈pn,p∈H)(hS:Í ω g)(I:Ë a H Μ g d)(l':∀Q':List R->g_->Prop,(∀h' tk,(∀b o,d.heap.get? b=Z o->h'.get? b=Z o)->d.heap.objs.size<=h'.objs.size->Q' E {d with heap:=h',toks:=tk})->t_ (y_ a.prog a.w) a.A.in1 (Zf (.ref r)) Q' ν d)(rv:Î θ E)(w:S a.K g k θ)(k':∀(i:Nat)(f:N),k[i]?=Z f->∃c,kd[i]?=Z c/\Ρ [f]=Z (.ok c))(q':kd.length=k.length)(i':ks.length=k.length)(p':k.length<64)(m':Þ kd=L)(hI:2<=k.length->kd=ks.map N.int)(im:Þ k=L)(q:∀(j:O)(a':List V)(s:Hp),Í g s->s j=Z (.lst a')->S a.K s (iy ks k) a'->Ç (.ref j) s):t_ (y_ a.prog a.w) a.A (call (.builtin "sorted") [.ref r] [(b_ "key",.ref e)]) (EP a H Μ Ç) ν d:=by
 have v':k.length=θ.length:=cb w;have c':θ.length=E.length:=rv.length;have t':E.length<64:=by omega
 refine Yx aas ZX ZY (ksk_s1 _ _) ?_;unfold Tq.«sorted»;refine c_ (m:=checkCount "sorted" 1 1 _) (j_ ?_);refine c_ (l' _ λn b' up gr=>?_);refine c_ (V3 ?_ (line64 t'));have I1:=I.kept (t':=b') (h':=n.push (Se "list" E.toArray 0)) λb u z=>i_ _ (up b u z);have g':(n.push (Se "list" E.toArray 0)).get? n.objs.size=Z (Se "list" E.toArray 0):=n_ _ rfl;have r':g n.objs.size=U:=I.hok.fresh (gr);have A:∀s,s n.objs.size=U->m7 a H s n.objs.size:=λs hn=>I.fpOk (gr) hn;refine c_ (SL (wpAny_call_entry_kw Y8 ⟨_,g',rfl⟩ YH ?body (ksk_l1 _ _)));case body=>
 show t_ (y_ a.prog a.w) a.A.in1.in1 (Tq.«list.sort» ⟨[.ref n.objs.size],[(b_ "key",.ref e)]⟩) _ _ _;rw[ksk_t1];refine LD (d:={d with heap:=n.push (Se "list" E.toArray 0),toks:=b'}) m n' hS I1 g' r' A rv w im k' q' p' m' hI λs' s p out cc J ja sm h o1 o2 o3 o4=>⟨_,rfl,?_⟩;refine j_ ⟨_,rfl,?_⟩;obtain⟨g0,g1,g2,g3,g4,g5⟩:=A _ ja;have J2:=J.pinned (fp:=[n.objs.size]) (λb y=>by
  have:b=n.objs.size:=by simpa using y
  subst this;exact A _ ja) (λb y=>by
  have:b=n.objs.size:=by simpa using y
  subst this;exact⟨_,h,λv z=>by cases z⟩);rw[lV h]at J2;have hV:Î ((rl E.length).map λc=>θ.getD (p c) .non) out.toList:=by
  refine nM (by simp[o1]) λi v u t eu=>?_;have P:i<E.length:=by have:=(xy.mp eu).1;simp[o1]at this;omega
  have B:out[i]?=Z u:=by simpa using eu
  rw[o2 i P]at B;rw[O_,Us P]at t;simp only[Ub,U0]at t;have hp:p i<θ.length:=by rw[c'];exact o4 i P
  have e1:θ[p i]?=Z v:=by rw[s_ hp,<-t];simp[Tr,hp]
  obtain⟨u',e2,r2⟩:=rv.get e1;rw[e2]at B;cases B;exact r2
 have hR:S a.K s (iy ks k) ((rl E.length).map λc=>θ.getD (p c) .non):=by
  have hn:E.length=k.length:=by omega
  rw[<-wp i',<-hn,<-o3,SJ];refine nK (by simp) λi f v ed t=>?_;have P:i<E.length:=by have:=(xy.mp ed).1;simpa using this
  rw[O_,Us P]at ed t;simp only[Ub,U0,Zx]at ed t;have hp:p i<θ.length:=by rw[c'];exact o4 i P
  have d':p i<k.length:=by omega
  refine lQ (S.mono sm _ _ w) (p i) f v ?_ ?_;·rw[s_ d',<-ed];simp[Tr,d']
  ·rw[s_ hp,<-t];simp[Tr,hp]
 have e':(n.objs.size,Se "list" out cc)=(n.objs.size,BV out.toList cc):=by simp[Se,BV]
 rw[e']at J2;obtain⟨w',J3⟩:=Ë.retrack J2 hV (line64 (by simp;omega)) (λo' z=>by
  exfalso;rcases g3 with g3|g3;·exact absurd (I.ok) (λ_=>by have:=UY (h:=a.s₀.heap) (a:=n.objs.size) (RZ I.sz (gr));rw[this]at z;cases z)
  ·have:=UY (h:=a.s₀.heap) (a:=n.objs.size) g3;rw[this]at z;cases z) g5;refine⟨.ref n.objs.size,_,J3,rfl,q _ _ _ (λb u z=>?_) ao (S.mono (aG ja _) _ _ hR)⟩;exact aG ja _ b u (sm b u z)
def Cz{P:List (O×Obj)}{s:List Int}(m:LB a a.A.in1.in1 e P ω Ρ)(A:∀p∈P,p∈H)(hS:Í ω g)(I:Ë a H Μ g d)(v:∀Q':List R->g_->Prop,(∀y tk,(∀b o,d.heap.get? b=Z o->y.get? b=Z o)->d.heap.objs.size<=y.objs.size->Q' E {d with heap:=y,toks:=tk})->t_ (y_ a.prog a.w) a.A.in1 (Zf (.ref r)) Q' ν d)(rv:Î θ E)(z:S a.K g k θ)(B:iw Ρ k=Z s)(a':s.length<64)(im:Þ k=L)(q:∀(c:O)(t:List V)(w:Hp),Í g w->w c=Z (.lst t)->S a.K w (iy s k) t->Ç (.ref c) w):t_ (y_ a.prog a.w) a.A (call (.builtin "sorted") [.ref r] [(b_ "key",.ref e)]) (EP a H Μ Ç) ν d:=by obtain⟨n,u⟩:=kg B;exact Cy (kd:=s.map N.int) m A hS I v rv z (λi j h=>let⟨f,h1,h2⟩:=u i j h;⟨.int f,by rw[O_,h1];rfl,h2⟩) (by rw[E_];exact n) n (by omega) (nO s) (λ_=>rfl) im q
def uO{a b:Int}{t u:Tok}{c:R}:∀(l:List R),Z_ l->Z_ (l++[.int a t,.int b u,c])|[],_=>trivial|.int _ _::.int _ _::_::rest,h=>uO rest h
def qT{d:Pos}{v c:R}{a b:Int}{t u:Tok}:∀(l:List R),Z_ l->X4 d (l++[.int a t,.int b u,c])=Z v->X4 d l=Z v\/v=c
 |[],_,h=>by
  simp only[List.nil_append,X4]at h;split at h;·cases h;exact .inr rfl
  ·cases h|.int x _::.int y _::z::rest,f,h=>by
  simp only[List.cons_append,X4]at h⊢;split at h;·rename_i e;rw[if_pos e];exact .inl h
  ·rename_i e;rw[if_neg e];exact qT rest f h
def Ĕ(P:O)(q:Str)(H:Hp):Prop:=∃a t,H P=Z (.tbl a)/\a[0]?=Z (.str q t)
def LF(b:Obj)(q:Str):Prop:=∃a t,b.data=.fields a/\a[1]?=Z (.str q t)
abbrev FZ(a:Obj):HO:=.frz a (.ext λ_=>True)
def qU(K:d_)(j:R)(P:O):Prop:=∃e o a d i b h f c g,j=.ref e/\K.lookup e=Z o/\o.cls=.type "code"/\o.data=.fields a/\a[11]?=Z (.ref P)/\a.getD 11 .none=.ref P/\a.getD 18 .none=.str d i/\a.getD 7 .none=.int b h/\a.getD 9 .none=.bool f/\a.getD 10 .none=.int c g/\e≠P
def LG(K:d_)(b:Str->Option R):Prop:=∃a o,b "__builtins__"=Z (.ref a)/\a≠builtinsNs/\a≠H_/\K.lookup a=Z o/\o.cls=.type "module"/\o.dict=Z builtinsNs/\o.data=.plain
def Ĕ.now(h:Ĕ e b a.H₀)(I:Ë a H Μ g d):Ĕ e b g:=by obtain⟨i,t,k,j⟩:=h;obtain⟨f,c⟩:=I.base.tbls e i k;refine⟨i++f,t,c,?_⟩;have:0<i.size:=(Tk.mp j).1;rw[Array.getElem?_append_left this];exact j
def GS{w:Obj}(I:Ë a H Μ g d)(A:g e=Z (.tbl υ))(j:∀b o,b≠e->d.heap.get? b=Z o->P.get? b=Z o)(B:d.heap.objs.size<=r)(s:P.get? r=Z w)(q:ì a.prog a.w (Ý g r (FZ w)) P e (.tbl υ)):Ë a H Μ (Ý g r (FZ w)) {d with heap:=P,toks:=c}:=by
 have p:g r=U:=I.hok.fresh B;have y:∀b,g b=U->b≠e:=λb n z=>by rw[z,A]at n;cases n
 have nc:∀b o,d.heap.get? b=Z o->b≠r:=λb o f=>D_ (Q_ (v_ f) B);refine I.step (g':=d.gens) (d':=d.drawn) (ch:=[]) (λ_ z=>nomatch z) (λb o _ _ _ f n=>j b o (y b n) f) (λb o _ _ _ f n=>⟨o.slots,j b o (y b n) f⟩) (λb o _ f n=>by rw[al (nc b o f)];exact n) (λb o _ f=>?_) (λb xs f=>by rw[al (av f p)];exact f) (λb o u f=>by rw[al (av f p)];exact f) (λb qs f=>⟨#[],by rw[al (av f p),f];simp⟩) (λm hm=>?_) (λb u f=>?_) I.bare
 · by_cases k:b=e;·obtain⟨qs,e2,_⟩:=q;exact⟨_,by rw[k];exact e2⟩
   ·exact⟨o,j b o k f⟩
 ·obtain⟨o,es,ep,ho,i⟩:=hm;exact⟨o,es,ep,j _ o (y _ I.free) ho,i⟩
 · by_cases k:b=r;·subst k;rw[ao]at f;cases f;exact⟨s,trivial,⟨w,s⟩,λ_ _ _ _=>trivial⟩
   · rw[al k]at f;by_cases t:b=e;·subst t;rw[A]at f;cases f;exact q
     · refine(I.hok b u f).stay (λh v hd z=>j h v ?_ z) (λh z=>by rw[al (av z p)];exact z) λh xs z=>by rw[al (av z p)];exact z
       rcases hd with z|z;·rw[z];exact t
       ·intro E;rw[E,A]at z;cases z
def LH{n:Arguments}(I:Ë a H Μ g d)(hT:Ĕ e b a.H₀)(hC:qU a.K a.env.code e)(hB:LG a.K a.mg)(k':Vu ι a.env=pure [])(o':defaultsOf n a.env=([],[]))(hq:a.env.qual++"<lambda>"=b)(h:∀j c E q pm H' s',Ë a H Μ H' s'->Í g H'->H' c=Z (FZ E)->LF E b->s'.heap.get? j=Z (VA "<lambda>" b n f ι [] pm c q)->m7 a H H' j->Â (.ref j) s'):t_ (y_ a.prog a.w) a.A (eval (.Lambda n f ι p) a.env) Â ν d:=by
 refine PySem.W.kla_eval o' ?_;rw[hq];obtain⟨ps,t0,hP,g'⟩:=hT.now I;obtain⟨qs,i,tr,ch⟩:=I.hok e _ hP;have KX:=I.kIn;obtain⟨cc,o,vs,p',tf,B,tg,t',m',tt,l',lk,c1,c2,c3,c4,c5,c6,c7,c8,c9⟩:=hC;have m:PySem.W.CodeHd d.heap cc e:=⟨o,vs,p',tf,B,tg,t',m',tt,KX _ _ lk,c1,c2,c3,c4,c5,c6,c7,c8,c9⟩;have hg:d.heap.Ns H_ a.mg:=I.mod.glob.keeps I.bk;obtain⟨bm,ob,b1,b2,b3,b4,b5,b6,b7⟩:=hB;have w':H_≠e:=λz=>by obtain⟨o,es,ep,e',hd,_⟩:=hg;rw[z,i]at e';cases e';cases hd
 have x':bm≠e:=λz=>by have e':=KX _ _ b4;rw[z,i]at e';cases e';cases b5
 have hb:d.heap.BuiltinsAt a.mg e:=⟨bm,ob,b1,b2,b3,x',KX _ _ b4,b5,b6,b7⟩;cases hf:X4 p qs.toList with|none=>
 refine PySem.W.kla_makeFunction (mg:=a.mg) k' I.ok.glob hg l' m i tr hf w' hb λw q s P hx i' A' n' u'=>?_;obtain⟨B',E,a',t,e2,v',hd,hv⟩:=n';cases e2;have fr:g w=U:=I.hok.fresh i';have hl:(qs++#[TH p.line,TH p.col,B_ w]).toList=qs.toList++[TH p.line,TH p.col,.ref w]:=by simp
 have r':ì a.prog a.w (Ý g w (FZ E)) s e (.tbl ps):=⟨_,u',by rw[hl];exact uO _ tr,λpos v d'=>by
 rw[hl]at d';rcases qT _ tr d' with z|z;·obtain⟨r,A,y,q3,t3,b',r1,r2,r3⟩:=ch pos v z;exact⟨r,A,y,q3,t3,b',r1,by rw[al (av r2 fr)];exact r2,r3⟩
 ·exact⟨w,E,a',b,t,t0,z,ao,hd,hv,g'⟩⟩;have I':=GS (c:=P) I hP (λk o y' q'=>hx k o y' q') i' v' r';have I2:=I'.kept (t':=P) (h':=s.push (VA "<lambda>" b n f ι [] ((a.mg "__name__").getD .none) w q)) λk u z=>i_ _ z;exact h s.objs.size w E q _ _ _ I2 (aG fr _) ao ⟨a',t,hd,hv⟩ (n_ _ rfl) (I'.fpOk (r_ _) (I'.hok.fresh (r_ _)))|some v=>obtain⟨r,A,y,q3,t3,b',r1,r2,r3,r4,r5⟩:=ch p v hf;subst r1;rw[g']at r5;cases r5;refine PySem.W.kla_makeFunctionHit (mg:=a.mg) k' I.ok.glob hg l' m i tr hf hb λq s P hk z'=>?_;have I1:=I.kept (t':=P) (h':=s) hk;have I2:=I1.kept (t':=P) (h':=s.push (VA "<lambda>" b n f ι [] ((a.mg "__name__").getD .none) r q)) λk u z=>i_ _ z;exact h s.objs.size r A q _ _ _ I2 (.refl g) r2 ⟨y,t3,r3,r4⟩ (n_ _ rfl) (I1.fpOk (r_ _) (I1.hok.fresh (r_ _)))
def GT{oc:Obj}{ps:List Str}{m:Arguments}{o:R}(hr:Ö (c+1) w)(i':w.frames=a.A.frames)(S:eH v ps ι)(e':ps.length=1)(l':∀(Ζ o:R)(r:O)(u:R),Xq (Y1 "<lambda>" b m f ι [] Ζ (.ref r) o) ⟨[u],[]⟩=pure (ps.zip [u]))(hc:g r=Z (FZ oc))(a':LF oc b)(hb:∀(k:x_)(q:List Env)(s:g_)(H:Hp)(E:XK),Ö c (k.deeper (Uo b ι s.heap.objs.size e (.ref r)))->FE (kY ù a.prog a.w a.K a.mg a.base v b ι e (.ref r) k q s H E) f A)(hF:Ρ=λds=>A (ds.map Z++P_ (v.length-ds.length) U)):LB a w e [(e,VA "<lambda>" b m f ι [] Ζ r o)] g Ρ:=by
 refine⟨λf' σ H s h u d d' E g' hS I ru rd eF=>?_⟩;have p:=I.env0;have e1:ĸ a.prog a.w a.K a.mg a.base w a.stack s H:=⟨i'.trans p.frames,p.mod,p.bs,p.bsz,p.funs,p.frf,p.hok,p.bare⟩;have k':=(I.pin (e,VA "<lambda>" b m f ι [] Ζ r o) (q_ _ (g' _ (by simp)))).1;have h':s.heap.get? r=Z oc:=(I.hok r _ (hS _ _ hc)).1;obtain⟨vs,t,hd,hv⟩:=a';have c':s.heap.NoLimit:=I.nolimit;have z:∀y∈ps.zip [u],ι.names.lookup y.1=Z .local\/(ι.names.lookup y.1=Z .cell/\((SZ (s.heap.objs.size+1) ι.names []).lookup y.1).isSome=L):=λ⟨n,h⟩hy=>by
  rcases S.par n (Xa hy).1 with b|b;·exact .inl b
  ·exact .inr ⟨b,Wu _ _ _ (.inl b)⟩
 refine WP (TX (R:=CR ù a.stack a.prog a.w H s (λv' B=>Í H B/\Ô a.K B d' v') E0) ?_ λi s' P=>?_)
 · refine PySem.W.kla_callFunE hr.depth k' rfl S.co S.gen rfl ⟨r,oc,vs,t,rfl,h',hd,hv⟩ ?_;rw[l'];refine j_ (Xo S.kind z λn' he s1 x=>?_);subst he;refine⟨c'.keeps x.toInCall.keep,PySem.W.kla_codeExpr ?_⟩;have I1:Ë (kY ù a.prog a.w a.K a.mg a.base v b ι e (.ref r) w a.stack s H E0) [] (start v [h]) H s1:=p8 S hr.hd e1 (by simp[e']) (.cons ru .nil) x;refine Sw ((hb w a.stack s H E0 (hr.deeper _)).h [] s1 (start v [h]) H (λv' B=>Í H B/\Ô a.K B d' v') I1 ⟨_,j6 (k:=[d]) ⟨h,[],rfl,rd,rfl⟩,?_⟩) (λv' s' hs=>?_) λj s' hs=>hs;·rw[hF]at eF;have m':A (List.map Z [d]++P_ (v.length-[d].length) U)=Z (.ok d'):=eF;rw[m'];exactλh B j i=>⟨j,i⟩
   ·obtain⟨v2,H2,J,b',q2⟩:=hs;exact⟨v2,H2,J.os,J.bare,J.base,J.hok,b',q2⟩
 ·cases i with|error j=>exact P.elim|ok fl=>cases fl with|ret u=>exact I.after P|next=>exact SK P|brk=>exact SK P|cont=>exact SK P
def IV(n:Nat)(b:Ò):Ñ:=λa=>b (a.map Z++P_ (n-a.length) U)
def CA{P:Pos}{ps:List Str}{w:Arguments}(hT:Ĕ e b a.H₀)(hC:qU a.K a.env.code e)(hB:LG a.K a.mg)(hr:Ö c a.A)(hk:m+3<=c)(hg:Gl a "sorted")(hm:a.mg "sorted"=U)(ha:FA a [f] μ)(k:eH v ps ι)(u':ps.length=1)(hN:v.length=1)(hb:∀(d g:O)(j:x_)(e':List Env)(s:g_)(H:Hp)(E:XK),Ö m (j.deeper (Uo b ι s.heap.objs.size d (.ref g)))->FE (kY ù a.prog a.w a.K a.mg a.base v b ι d (.ref g) j e' s H E) y A)(A':∀(pm b':R)(g:O)(u:R),Xq (Y1 "<lambda>" b w y ι [] pm (.ref g) b') ⟨[u],[]⟩=pure (ps.zip [u]))(z':Vu ι a.env=pure [])(n':defaultsOf w a.env=([],[]))(hq:a.env.qual++"<lambda>"=b)(he:R8 Υ (l_ [f] a.env)=(D,eval f a.env)::R8 Υ (l_ [] a.env):=by lk)(c':(R8 Υ (l_ [f] a.env)).any (·.1)=D:=by lk)(o':(Tx Υ (SN [⟨Z "key",.Lambda w y ι P,B⟩] a.env)).all (·.1.isSome)=L:=by lk)(w':(Tx Υ (SN [⟨Z "key",.Lambda w y ι P,B⟩] a.env)).any (·.1.isNone)=D:=by lk)(v':(Tx Υ (SN [⟨Z "key",.Lambda w y ι P,B⟩] a.env)).filterMap (·.1)=[b_ "key"]:=by lk):FE a (.Call (.Name "sorted" p) [f] [⟨Z "key",.Lambda w y ι P,B⟩] Υ) (â (wo (IV 1 A)) μ):=⟨λf' s σ H Q I⟨ρ,E,o⟩=>by
 refine S_ (gg I hg hm (Ζ:=.builtin "sorted") (by decide+kernel) ?_ (by decide) (by decide));refine callWith_kw (è (ha.h Υ f' s σ H _ I ⟨ρ,E,æ.bind o λds vs H1 e1 rs o1=>(show∃ds,S a.K H1 ds vs/\ï a H1 (wo (IV 1 A) ds) Q from⟨ds,rs,o1⟩)⟩) λus s1⟨vs,H1,I1,r1,ds,rs,o1⟩=>?_) he c' o' w';refine kws_cons (LH I1 hT hC hB z' n' hq λd g oc b' pm H2 s2 I2 sm hc l' i' y'=>kws_nil ?_);rw[v'];show t_ _ _ (call (.builtin "sorted") us [(b_ "key",.ref d)]) _ _ s2;unfold wo at o1;split at o1
 · rename_i es;obtain⟨h,rfl,r⟩:=cZ rs;obtain⟨l,xs,rfl,hl,rx⟩:=r.lstE;obtain⟨u,rfl,ru⟩:=eD r1;cases(show u=B_ l from ru);split at o1
   · rename_i ks g';split at o1
     · rename_i a';obtain⟨z,t',n,rv,hz,eh⟩:=I2.lstM (sm _ _ hl);have Ip:=I2.pinned (fp:=[d]) (λi d'=>by
       have:i=d:=by simpa using d'
       subst this;exact y') (λi d'=>by
       have:i=d:=by simpa using d'
       subst this;exact⟨_,i',λh z=>by cases z⟩);rw[lV i']at Ip;have x':Ö (m+1) a.A.in1.in1:=(hr.mono hk).in1.in1;have q:=GT (a:=a) (w:=a.A.in1.in1) (g:=H2) (v:=v) (ps:=ps) (m:=w) (f:=y) (ι:=ι) (Ζ:=pm) (o:=b') (A:=A) (Ρ:=IV 1 A) x' rfl k u' A' hc l' (hb d g) (by rw[hN];rfl);have m':t'.length<64:=by obtain⟨g1,_⟩:=kg g';have g2:=cb rx;have g3:=rv.length;omega
       refine è (Cz (Ç:=Q) q (λp hp=>by
       have:p=(d,VA "<lambda>" b w y ι [] pm g b'):=by simpa using hp
       subst this;simp) (.refl H2) Ip (λQ' hQ=>lW (M:=y_ a.prog a.w) eh rfl rfl rfl (λh' up gr=>hQ h' s2.toks up (U5 gr)) (line64 m')) rv (S.mono sm _ _ rx) g' a'.1 a'.2 λt p' H' q' hL r'=>o1 _ _ (sm.trans q') ⟨t,p',rfl,hL,r'⟩) λu s3⟨h,H3,I3,s',q3⟩=>⟨h,H3,I3.unpinned,s',q3⟩
     ·exact o1.elim
   ·exact o1.elim
 ·exact o1.elim⟩
def ų(b:O)(q:Str)(K:d_)(F:Ñ)(n:Nat):Sp:=λa H Q E=>Ĕ b q H/\Ŋ K F n a H Q E
def NP(P:on)(w:z_)(K:d_)(c:Str->Option R)(a:M_)(e:O)(q:Str)(x:Str)(k:Nat)(b:List Str)(F:Ñ):Prop:=∃f d,ê P w K c a ù k f d b (ų e q K F b.length)/\c x=Z (.ref f)/\SU K (.ref f)=L/\é K d b []
structure Ś(P:on)(w:z_)(K:d_)(mg:Str->Option R)(base:M_)(Pt:O)(q:Str)(T:bS):Prop where h:∀x e,T.lookup x=Z e->NP P w K mg base Pt q x e.1 e.2.1 e.2.2
def GU:Ś q o s Η P e b []:=⟨λ_ _ h=>by cases h⟩
def uP{T:bS}(h:NP q o s Η P e b j c v Ρ)(t:Ś q o s Η P e b T):Ś q o s Η P e b ((j,c,v,Ρ)::T):=⟨λx a z=>by
 rcases gp z with⟨rfl,rfl⟩|z;·exact h
 ·exact t.h x a z⟩
def Ĕ.mono(a:Í g ω)(h:Ĕ e b g):Ĕ e b ω:=let⟨c,t,f,d⟩:=h;⟨c,t,a _ _ f,d⟩
variable{δ:Str}
def LI{CT:R->Prop}(N u:List Str)(w:Ø)(hF:Ρ=aQ N.length w)(hn:m=u.length)(Fn:ĥ s j δ τ r Ψ)(S:eH N u (ai τ))(B:CT Ψ.code)(hb:∀(n:R)(A:x_)(k:List Env)(a:g_)(H:Hp)(E:XK),CT n->Ĕ e b H->Ö c (A.deeper (Uo δ (ai τ) a.heap.objs.size r n))->Ħ (kY ù q o s Η P N δ (ai τ) r n A k a H E).nox (bF τ) w):ê q o s Η P ù (c+1) r Ψ u (ų e b s Ρ m):=by
 subst hF hn;obtain⟨oc,od,kV,d',pm,an,n,ct,c',rfl,lk,a'⟩:=Fn.ex;refine xu lk a' S (λvs H Q E h=>?_) λA k a H vs Q E hr h=>?_;·obtain⟨_,p,f,hl,_⟩:=h;rw[f.length,hl]
 ·obtain⟨ht,p,f,hl,z⟩:=h;refine⟨_,(hb n A k a H E B ht hr).h.nox,p.map Z++P_ (N.length-p.length) U,j6 f,?_⟩;unfold aQ at z;match t:w (p.map Z++P_ (N.length-p.length) U)with|none=>rw[t]at z;exact z.elim|some (.exc i)=>rw[t]at z;exact z.elim|some (.rt d)=>rw[t]at z;exactλv y g r'=>z v y g r'|some (.nx ρ)=>rw[t]at z;exactλb' y g _=>z .non y g rfl
def zk{h:M_}{t:R->Prop}(y:s.In h)(z:h.Ns H_ Η)(N g:List Str)(i:Ø)(A:Af s j τ r)(n:LA j τ g)(m:∀p,ĥ s j j τ r p->t p.code)(v:∀(d:R)(A:x_)(f:List Env)(a:g_)(H:Hp)(E:XK),t d->Ĕ e b H->Ö c (A.deeper (Uo j (ai τ) a.heap.objs.size r d))->Ħ (kY ù q o s Η P N j (ai τ) r d A f a H E).nox (bF τ) i)(w:Ρ=aQ N.length i:=by lk)(u:Ţ N g (ai τ)=L:=by lk):NP q o s Η P e b j (c+1) g Ρ:=let⟨_,k⟩:=A.F;⟨_,_,LI N g i w rfl k (Bf u) (m _ k) v,UC y z A.a,A.k,k.binds n⟩
def ctB(K:d_)(f b:O):Bool:=match K.lookup f with|some ⟨_,_,.func e,_⟩=>(match e.code with|.ref c=>(match K.lookup c with|some ⟨.type "code",_,.fields a,_⟩=>(match(a[11]?:Option R),a.getD 11 .none,a.getD 18 .none,a.getD 7 .none,a.getD 9 .none,a.getD 10 .none with|some (.ref p),.ref d,.str _ _,.int _ _,.bool _,.int _ _=>VV p b&&VV d b&&!VV c b|_,_,_,_,_,_=>D)|_=>D)|_=>D)|_=>D
def Pm(h:ctB s r e=L)(w:ĥ s b b τ r Ψ):qU s Ψ.code e:=by
 obtain⟨oc,P,kV,A,H,an,B,ct,y,a,i,z⟩:=w.ex;unfold ctB at h;rw[i]at h;dsimp only at h;split at h
 · rename_i v d;split at h
   · rename_i dd f E c;split at h;·rename_i p g a1 a2 a3 a4 a5 a6 a7 u t q o n m;simp only[pi,Tu]at h;have k:p=e:=SE h.1.1;have j:g=e:=SE h.1.2;subst k;subst j;exact⟨v,_,f,_,_,_,_,_,_,_,d,c,rfl,rfl,u,t,q,o,n,m,Uz h.2⟩
     ·cases h
   ·cases h
 ·cases h
def ctB_tab(h:s.In P)(a:ctB s r e=L):Y0 P e:=by
 unfold ctB at a;split at a
 · split at a
   · rename_i g i;split at a
     · rename_i u c j b;split at a;·rename_i p k B A z a4 y w v f t q o n m;simp only[pi,Tu]at a;have d:p=e:=SE a.1.1;subst d;exact⟨g,_,c,h _ _ b,rfl,rfl,f⟩
       ·cases a
     ·cases a
   ·cases a
 ·cases a
def bmB(K:d_):Bool:=match Tp K H_ "__builtins__"with|some (Z (.ref a))=>(match K.lookup a with|some ⟨.type "module",Z d,.plain,_⟩=>VV d builtinsNs&&!VV a builtinsNs&&!VV a H_|_=>D)|_=>D
def Pn(g:s.In P)(h:P.Ns H_ Η)(a:bmB s=L):LG s Η:=by
 unfold bmB at a;split at a
 · rename_i f e;split at a;·rename_i d i c;simp only[pi,Tu]at a;have b:d=builtinsNs:=SE a.1.1;subst b;exact⟨f,_,UC g h e,Uz a.1.2,Uz a.2,c,rfl,rfl,rfl⟩
   ·cases a
 ·cases a
def zl(k:Nat)(n:List Str)(F:Ñ)(h:NP a.prog a.w a.K a.mg a.base e b j k n F)(hT:Ĕ e b a.H₀)(hr:Ö c a.A)(hk:k<=c)(hg:Gl a j)(ha:FA a (f::u) μ)(hn:m=n.length:=by lk)(v:(j==("__debug__":Str))=D:=by lk)(he:l_ (f::u) a.env=(D,eval f a.env)::l_ u a.env:=by lk)(r:(R8 B (l_ u a.env)).any (·.1)=D:=by lk):FE a (.Call (.Name j p) (f::u) [] B) (ab F m μ):=by
 subst hn;obtain⟨g,fd,G,hm,t,hb⟩:=h;refine⟨λf' s y H Q I⟨z,E,o⟩=>ot (G.mono hk) hr hg hm t hb .nil qd ha.h v he r f' s y H Q I ⟨z,E,æ.bind o λw A H' f P i=>?_⟩⟩;show ų e b a.K F n.length (A++[]) H' Q E0;rw[Uc];refine⟨(hT.now I).mono f,?_⟩;split at i
 ·rename_i hl;refine⟨w,P,hl,?_⟩;match q:F w with|some (.ok d)=>rw[q]at i;exact i|none=>rw[q]at i;exact i.elim|some (.exc _)=>rw[q]at i;exact i.elim
 ·exact i.elim
def zm{T:bS}(s:Ś a.prog a.w a.K a.mg a.base e b T)(t:Ĕ e b a.H₀)(n:Ö c a.A)(g:(T.lookup j).map (λb=>b.2.2)=Z Ρ)(r:FA a (f::u) μ)(d:((T.lookup j).all λb=>Xk b.1 c&&VV m b.2.1.length)=L:=by lk)(o:a.env.kindOf j=Z .globalImplicit:=by lk)(k:(j==("__debug__":Str))=D:=by lk)(q:l_ (f::u) a.env=(D,eval f a.env)::l_ u a.env:=by lk)(i:(R8 B (l_ u a.env)).any (·.1)=D:=by lk):FE a (.Call (.Name j p) (f::u) [] B) (ab Ρ m μ):=by cases h:T.lookup j with|none=>rw[h]at g;cases g|some b=>rw[h]at g d;cases g;rw[VD,pi]at d;exact zl b.1 b.2.1 b.2.2 (s.h j b h) t n (SW d.1) o r (SE d.2) k q i
def zn{h:Ew}{k:Pos}{j:Arguments}(hT:Ĕ e b a.H₀)(hC:qU a.K a.env.code e)(hB:LG a.K a.mg)(hM:MA a.mg h)(hr:Ö c a.A)(ha:FA a [f] μ)(hb:∀(g d:O)(i:x_)(n:List Env)(s:g_)(H:Hp)(E:XK),Ö 1 (i.deeper (Uo b ι s.heap.objs.size g (.ref d)))->FE (kY ù a.prog a.w a.K a.mg a.base v b ι g (.ref d) i n s H E) y A)(hk:Xk 4 c=L:=by lk)(hg:a.env.kindOf (b_ "sorted")=Z .globalImplicit:=by lk)(hm:h.lookup (b_ "sorted")=Z U:=by lk)(hs:Ţ v v ι=L:=by lk)(hN:VV v.length 1=L:=by lk)(z:∀(pm P:R)(d:O)(u:R),Xq (Y1 "<lambda>" b j y ι [] pm (.ref d) P) ⟨[u],[]⟩=pure (v.zip [u]):=by intros;lk)(w:Vu ι a.env=pure []:=by lk)(o:defaultsOf j a.env=([],[]):=by lk)(hq:a.env.qual++"<lambda>"=b:=by lk)(he:R8 B (l_ [f] a.env)=(D,eval f a.env)::R8 B (l_ [] a.env):=by lk)(m:(R8 B (l_ [f] a.env)).any (·.1)=D:=by lk)(q:(Tx B (SN [⟨Z "key",.Lambda j y ι k,Υ⟩] a.env)).all (·.1.isSome)=L:=by lk)(t:(Tx B (SN [⟨Z "key",.Lambda j y ι k,Υ⟩] a.env)).any (·.1.isNone)=D:=by lk)(r:(Tx B (SN [⟨Z "key",.Lambda j y ι k,Υ⟩] a.env)).filterMap (·.1)=[b_ "key"]:=by lk):FE a (.Call (.Name "sorted" p) [f] [⟨Z "key",.Lambda j y ι k,Υ⟩] B) (â (wo (IV 1 A)) μ):=CA hT hC hB hr (SW hk) hg (hM.no hm) ha (Bf hs) (SE hN) (SE hN) hb z w o hq he m q t r
open PySem.W
structure CK(K:d_)(k:Nat)(C:O):Prop where
 n:Tp K H_ (ő k)=Z (Z (.ref C))c:ţ K C
 a:∀f∈ċ k,Ď K C f
def uQ{m:Type}:∀{a:List Str}{c:List m}{j:Nat}{f:Str}{v:m},a.Nodup->a[j]?=Z f->c[j]?=Z v->(a.zip c).lookup f=Z v
 |[],_,_,_,_,_,h,_=>by simp at h|n::a,[],j,f,v,_,_,h=>by simp at h|n::a,u::c,0,f,v,i,g,d=>by simp at g d;subst g d;simp[Vx,Sq]|n::a,u::c,j+1,f,v,i,g,d=>by
  have b:a[j]?=Z f:=by simpa using g
  have k:(f==n)=D:=beq_eq_false_iff_ne.mpr λe=>by subst e;exact(TD.mp i).1 (Sg b)
  rw[Vx,Sq,k];exact uQ (TD.mp i).2 b (by simpa using d)
def jN{d:Type}:∀{a:List Str}{c:List d}{f:Str},f∉a->(a.zip c).lookup f=U|[],_,_,_=>by simp|n::a,[],_,_=>by simp|n::a,u::c,f,h=>by have b:(f==n)=D:=beq_eq_false_iff_ne.mpr λe=>h (e▸o_);rw[Vx,Sq,b];exact jN λz=>h (m_ _ z)
def Ex:∀k,(ċ k).Nodup:=by intro k;unfold ċ;split<;>decide
def mQ(k j:Nat):N->Option (Rs N)|.obj a b=>if a=k then(match b[j]? with|some d=>Z (.ok d)|none=>U)else U|_=>U
def wq(a:CK s c e)(h:Tp s H_ (ő c)=Z (Z (.ref r))):r=e:=by have:=a.n.symm.trans h;simp at this;exact this.symm
def LJ(g:CK a.K c e)(w:(ċ c)[m]?=Z b)(B:FE a f A)(hb:TU f b a.env (eval f a.env)=eval f a.env:=by lk):FE a (.Attribute f b p) (f1 (mQ c m) A):=dr (JE B.h hb) λσ H Q z E f=>⟨z,E,ï.bind f λd v o e1 r s=>by cases d with
 |obj k y=>
 have j:ï a o (if k=c then(match y[m]? with|some d=>Z (.ok d)|none=>U)else U) Q:=s;by_cases t:k=c;·subst t;rw[if_pos rfl]at j;obtain⟨i,C',dx,vs,rfl,h,P,q,l⟩:=r.objE;cases n:y[m]? with|none=>rw[n]at j;exact j.elim|some d=>rw[n]at j;obtain⟨u,h1,h2⟩:=q.get' n;rw[wq g P]at h;exact⟨i,e,dx,_,u,rfl,h,g.c,g.a b (Sg w),uQ (Ex k) w h1,j u o (.refl o) h2⟩
 ·rw[if_neg t]at j;exact j.elim|_=>exact s.elim⟩
def MC(X:C)(o:u_)(m:Str)(d:List u_)(b a:Pos)(e:Sem Bool):Prop:=eval (.Call (.Attribute o m b) d [] a) X.env=(do
 let c<-eval o X.env
 Ym b.atName let(f,first)<-VJ [c] (Ze c m e)callWith a f first (R8 a (l_ d X.env)) (Tx a (SN [] X.env)))
def V'(k:Nat):N->Bool|.obj a _=>a==k|_=>D
def LK(h:V' c n=L):∃a,n=.obj c a:=by cases n<;>simp[V']at h;subst h;exact⟨_,rfl⟩
inductive FlC where|nx(ρ:Ev)|rt(d o:N)|exc(c:Nat)
abbrev FnC:=Ev->Option FlC
def nox(r:Option FlC):Option FlC:=match r with|some (.exc _)=>U|r=>r
def uR{y:V}:∀{a:List Str}{vs:List V}{j:Nat}{f:Str},a.Nodup->a[j]?=Z f->j<=vs.length->vs.length<=a.length->m9 f y (a.zip vs)=a.zip (if j<vs.length then vs.set j y else vs++[y])
 |[],_,_,_,_,h,_,_=>by simp at h|n::a,[],j,f,_,h,c,_=>by
  have:j=0:=by simpa using c
  subst this;simp at h;subst h;simp[m9]|n::a,u::vs,0,f,_,h,_,_=>by simp at h;subst h;simp[m9]|n::a,u::vs,j+1,f,g,h,c,m=>by
  have i:a[j]?=Z f:=by simpa using h
  have d:n≠f:=λe=>(TD.mp g).1 (e▸Sg i);have k:=uR (y:=y) (vs:=vs) (TD.mp g).2 i (by simpa using c) (by simpa using m);rw[Vx];show(if n=f then(n,y)::a.zip vs else(n,u)::m9 f y (a.zip vs))=_;rw[if_neg d,k];by_cases b:j<vs.length;·rw[if_pos b,if_pos (by simpa using b)];simp
  ·rw[if_neg b,if_neg (by simpa using b)];simp
inductive RsC where|ok(d o:N)|exc(c:Nat)
abbrev NQ(o:u_)(a:Env):Sem Bool:=do return(<-importBound o a).getD L
abbrev IW:=List (Str×Nat×Nat×(Ñ))
def GV(d:CK a.K c e)(g:FE a f A)(h:(ċ c)[m]?=Z b:=by lk)(i:TU f b a.env (eval f a.env)=eval f a.env:=by lk):FE a (.Attribute f b p) (f1 (mQ c m) A):=LJ d h g i
def cO(k:Nat)(F:Ñ)(b:Ò):Ò:=λa=>Õ (b a) λx=>if V' k x=L then(match F [x]with|some (.ok d)=>Z (.ok d)|_=>U)else U
structure Am(K:d_)(C:O)(q m:Str)(st:S7)(f:O):Prop where
 t:Fj K C m f
 F:∃fd,ĥ K m q st f fd
def BdQ(x q:Str)(b:S7)(e:List Str):Prop:=∀(kV c f:R)(h:Option O)(d g:R)(a:List R),a.length=e.length->Xq (Uh x q (gM b) (bF b) (ai b) .none kV c f h d g) ⟨a,[]⟩=pure (e.zip a)
def noB(k:Nat)(m:Str):Bool:=!(ċ k).contains m
def GW(h:noB c b=L):b∉ċ c:=λz=>by simp[noB,z]at h
def QP:Option (Option R)->Bool|some U=>L|_=>D
def ck_mk(n:Tp s H_ (ő c)=Z (Z (.ref e)))(g:VU s e Str.empty=L)(j:Wr s e=L)(d:XH s e=L)(b:Te s (.ref e) "__setattr__"=Z (Z (.builtin "object.__setattr__")))(a:((ċ c).all λf=>QP (Te s (.ref e) f))=L):CK s c e:=⟨n,⟨g,j,d,b⟩,λf i=>by
 have h:=S3.mp a f i;unfold QP at h;split at h;·assumption
 ·cases h⟩
abbrev Uv:=Sum N Nat
inductive CB where|lst(ds:List N)|obj(k:Nat)(fs:List Uv)
abbrev ä:=List CB
abbrev þ:=List (Option Uv)
def Ĉ(K:d_)(H:Hp)(m:List O):Uv->V->Prop|.inl d,v=>Ô K H d v|.inr n,v=>∃a,m[n]?=Z a/\v=.ref a
def å(K:d_)(H:Hp)(m:List O):List Uv->List V->Prop|[],a=>a=[]|d::c,a=>∃v b,a=v::b/\Ĉ K H m d v/\å K H m c b
def Į(K:d_)(H:Hp)(m:List O)(d:Hp)(a:O):CB->Prop|.lst f=>∃b,d a=Z (.lst b)/\S K H f b|.obj k fs=>∃C e c,d a=Z (.ins C e ((ċ k).zip c))/\Tp K H_ (ő k)=Z (Z (.ref C))/\å K H m fs c/\fs.length<=(ċ k).length
structure SR(K:d_)(H:Hp)(m:List O)(S:ä)(Hf:Hp):Prop where
 len:m.length=S.length
 nd:m.Nodup
 fr:∀a∈m,H a=U
 up:Í H Hf
 at':∀(n:Nat)(c:CB),S[n]?=Z c->∃a,m[n]?=Z a/\Į K H m Hf a c
structure ô(K:d_)(H:Hp)(m:List O)(σ:L2.St)(ρ:þ):Prop where
 len:σ.length=ρ.length
 at':∀(i:Nat)(d:Uv),ρ[i]?=Z (Z d)->∃v,σ[i]?=Z (Z v)/\Ĉ K H m d v
def oP{m b:List z}(p:m<+:b){n:Nat}{a:z}(h:m[n]?=Z a):b[n]?=Z a:=by obtain⟨t,rfl⟩:=p;rw[Su (xy.mp h).1];exact h
def Ĉ.mono{b:List O}(e:Í g ω)(p:Ε<+:b):∀{d:Uv}{v:V},Ĉ s g Ε d v->Ĉ s ω b d v|.inl d,v,h=>Ô.mono e d v h|.inr n,v,⟨a,h,r⟩=>⟨a,oP p h,r⟩
def å.mono{K:d_}{H f:Hp}{m c:List O}(e:Í H f)(p:m<+:c):∀{b:List Uv}{a:List V},å K H m b a->å K f c b a|[],a,h=>h|d::b,a,⟨v,g,r,h,q⟩=>⟨v,g,r,h.mono e p,å.mono e p q⟩
def å.length{K:d_}{H:Hp}{m:List O}:∀{b:List Uv}{a:List V},å K H m b a->a.length=b.length|[],a,h=>by cases(show a=[]from h);rfl|d::b,a,⟨v,c,r,_,q⟩=>by subst r;show c.length+1=b.length+1;rw[å.length q]
def å.get{K:d_}{H:Hp}{m:List O}:∀{b:List Uv}{a:List V}{i:Nat}{d:Uv},å K H m b a->b[i]?=Z d->∃v,a[i]?=Z v/\Ĉ K H m d v|[],a,i,v,h,e=>by simp at e|d::b,a,i,o,⟨c,n,r,g,q⟩,e=>by subst r;cases i with|zero=>simp at e;subst e;exact⟨c,rfl,g⟩|succ i=>obtain⟨k,j,f⟩:=å.get (i:=i) q (by simpa using e);exact⟨k,by simpa using j,f⟩
def å.set{K:d_}{H:Hp}{m:List O}:∀{b:List Uv}{a:List V}(i:Nat){d:Uv}{v:V},å K H m b a->Ĉ K H m d v->å K H m (b.set i d) (a.set i v)|[],a,i,d,v,h,_=>by cases(show a=[]from h);exact rfl|j::b,a,i,d,v,⟨f,c,r,g,q⟩,e=>by subst r;cases i with|zero=>exact⟨v,c,rfl,e,q⟩|succ i=>exact⟨f,c.set i v,rfl,g,å.set i q e⟩
def å.append{K:d_}{H:Hp}{m:List O}:∀{e c:List Uv}{a b:List V},å K H m e a->å K H m c b->å K H m (e++c) (a++b)|[],c,a,b,h,q=>by cases(show a=[]from h);exact q|d::e,c,a,b,⟨g,f,r,i,t⟩,q=>by subst r;exact⟨g,f++b,rfl,i,å.append t q⟩
variable{Ι:þ}
def ô.mono{a:List O}(E:ô s g Ε Μ Ι)(e:Í g ω)(p:Ε<+:a):ô s ω a Μ Ι:=⟨E.len,λi d h=>let⟨v,c,b⟩:=E.at' i d h;⟨v,c,b.mono e p⟩⟩
def ô.set{d:Uv}(E:ô s g Ε Μ Ι)(r:Ĉ s g Ε d Γ):ô s g Ε (Μ.set c (Z Γ)) (Ι.set c (Z d)):=by
 refine⟨by rw[SF,SF];exact E.len,λj e h=>?_⟩;by_cases b:c=j
 · subst b;have a:c<Ι.length:=by have:=(xy.mp h).1;simpa using this
   rw[Sh a]at h;cases h;exact⟨Γ,Sh (by rw[E.len];exact a),r⟩
 ·rw[Sy b]at h⊢;exact E.at' j e h
def vw1(S:ä):Uv->Option N|.inl d=>Z d|.inr n=>match S[n]? with|some (.lst a)=>Z (.lst a)|_=>U
def vwL(S:ä):List Uv->Option (List N)|[]=>Z []|u::a=>match vw1 S u,vwL S a with|some d,Z b=>Z (d::b)|_,_=>U
def vw(S:ä):Uv->Option N|.inl d=>Z d|.inr n=>match S[n]? with|some (.lst a)=>Z (.lst a)|some (.obj k fs)=>(vwL S fs).map (.obj k)|none=>U
def ć(S:ä)(a:þ):Ev:=a.map λo=>o.bind (vw S)
variable{η:ä}
def SR.lst(R:SR s g Ε η ω)(h:η[c]?=Z (.lst k))(f:Ε[c]?=Z e):Ô s ω (.lst k) (.ref e):=by obtain⟨b,a,d,j,i⟩:=R.at' c _ h;rw[f]at a;cases a;exact⟨e,d,rfl,j,S.mono R.up _ _ i⟩
def SR.vw1(R:SR s g Ε η ω):∀{u:Uv}{v:V}{d:N},Ĉ s g Ε u v->vw1 η u=Z d->Ô s ω d v|.inl d,v,i,h,e=>by cases e;exact Ô.mono R.up _ _ h|.inr n,v,i,⟨a,f,c⟩,e=>by subst c;unfold FD.vw1 at e;match b:η[n]? with|none=>simp[b]at e|some (.obj k fs)=>simp[b]at e|some (.lst j)=>simp[b]at e;subst e;exact R.lst b f
def SR.vwL{K:d_}{H j:Hp}{m:List O}{a:ä}(R:SR K H m a j):∀{c:List Uv}{b:List V}{g:List N},å K H m c b->vwL a c=Z g->S K j g b|[],b,g,h,e=>by cases e;exact h|u::c,b,g,⟨v,n,r,h,q⟩,e=>by subst r;unfold FD.vwL at e;match f:FD.vw1 a u,i:FD.vwL a c with|some d,Z k=>rw[f,i]at e;cases e;exact .cons (R.vw1 h f) (SR.vwL R q i)|none,_=>rw[f]at e;cases e|some _,U=>rw[f,i]at e;cases e
def zo{S:ä}:∀{a:List Uv}{b:List N},vwL S a=Z b->b.length=a.length|[],b,e=>by cases e;rfl|u::a,b,e=>by unfold FD.vwL at e;match f:FD.vw1 S u,c:FD.vwL S a with|some d,Z g=>rw[f,c]at e;cases e;simp[zo c]|none,_=>rw[f]at e;cases e|some _,U=>rw[f,c]at e;cases e
def SR.vw(R:SR s g Ε η ω):∀{u:Uv}{v:V}{d:N},Ĉ s g Ε u v->vw η u=Z d->Ô s ω d v|.inl d,v,z,h,e=>by cases e;exact Ô.mono R.up _ _ h|.inr n,v,z,⟨a,j,o⟩,e=>by subst o;unfold FD.vw at e;match c:η[n]? with|none=>simp[c]at e|some (.lst y)=>simp[c]at e;subst e;exact R.lst c j|some (.obj k fs)=>dsimp only at e;rw[c]at e;dsimp only at e;obtain⟨b,i,C,w,m,t,r,q,p⟩:=R.at' n _ c;rw[j]at i;cases i;match f:FD.vwL η fs with|none=>simp[f]at e|some y=>simp[f]at e;subst e;exact⟨a,C,w,m,rfl,t,r,R.vwL q f,by rw[zo f];exact p⟩
def SR.envs(R:SR s g Ε η ω)(E:ô s g Ε Μ Ι):Ù s ω Μ (ć η Ι):=by refine⟨by unfold ć;rw[E_];exact E.len,λi d h=>?_⟩;unfold ć at h;rw[O_]at h;match a:Ι[i]? with|none=>simp[a]at h|some U=>simp[a]at h|some (Z u)=>simp[a]at h;obtain⟨v,c,b⟩:=E.at' i u a;exact⟨v,c,R.vw b h⟩
def pl:N->Bool|.scr _=>L|d=>ġ d
def SR.cell(R:SR s g Ε η ω){a:O}(h:a∈Ε):(∃c,ω a=Z (.lst c))\/∃C e fs,ω a=Z (.ins C e fs):=by
 obtain⟨n,f⟩:=List.getElem?_of_mem h;have j:n<η.length:=by rw[<-R.len];exact(xy.mp f).1
 obtain⟨b,i,q⟩:=R.at' n _ (s_ j);rw[f]at i;cases i;match o:η[n],q with|.lst p,q=>obtain⟨c,d,_⟩:=q;exact .inl ⟨c,d⟩|.obj k fs,q=>obtain⟨C,e,m,d,_⟩:=q;exact .inr ⟨C,e,_,d⟩
def SR.grow{f:Hp}(R:SR s g Ε η ω)(e:Í ω f):∃y,Í g y/\SR s y Ε η f/\∀d v,pl d=L->Ô s f d v->Ô s y d v:=by
 have A:∀b u,g b=Z u->b∉Ε:=λb u h z=>by rw[R.fr b z]at h;cases h
 have t:Í g λb=>if b∈Ε then U else f b:=λb u h=>by simp only[A b u h,if_false];exact e b u (R.up b u h)
 have keep:∀b o,(∀i,o≠.lst i)->(∀C p fs,o≠.ins C p fs)->f b=Z o->(λb=>if b∈Ε then U else f b) b=Z o:=λb o m j h=>by
  have:b∉Ε:=λz=>by
   rcases R.cell z with⟨i,q⟩|⟨C,p,fs,q⟩;·exact m i (Sd (h.symm.trans (e _ _ q)))
   ·exact j C p fs (Sd (h.symm.trans (e _ _ q)))
  simp only[this,if_false];exact h
 refine⟨λb=>if b∈Ε then U else f b,t,⟨R.len,R.nd,λa h=>by simp[h],λb u h=>?_,λn c h=>?_⟩,λd v hp r=>?_⟩
 · by_cases E:b∈Ε;·simp[E]at h
   ·simpa[E]using h
 ·obtain⟨a,ha,q⟩:=R.at' n c h;refine⟨a,ha,?_⟩;match c,q with|.lst ds,⟨i,m,j⟩=>exact⟨i,e _ _ m,S.mono t _ _ j⟩|.obj k fs,⟨C,p,H,m,j,h3,h4⟩=>exact⟨C,p,H,e _ _ m,j,h3.mono t (I_ Ε),h4⟩
 · by_cases B:∃w,d=.scr w;·obtain⟨w,rfl⟩:=B;obtain⟨a,P,q⟩:∃a,v=.ref a/\ū s f a (w.map V.int):=r;exact⟨a,P,q.imp (λ⟨o,h⟩=>⟨o,keep a _ (by simp) (by simp) h⟩) id⟩
   · have hi:ġ d=L:=by cases d<;>first|exact hp|exact absurd ⟨_,rfl⟩ B
     exact Ô.tups (λb ys h=>keep b _ (by simp) (by simp) h) d v hi r
inductive Ru(α:Type)where|ok(a:α)(S:ä)|exc(c:Nat)(S:ä)
abbrev û:=ä->þ->Option (Ru Uv)
abbrev oQ:=ä->þ->Option (Ru Bool)
abbrev lY:=ä->þ->Option (Ru (List Uv))
def XU(X:C)(c:Nat)(H:Hp)(m:List O)(S:ä):Prop:=∀g f d b a s e,Í H d->m<+:b->SR X.K d b S a->Ë X g f a s->JP X a c e s->X.xe e s
def OU(X:C)(H:Hp)(m:List O)(r:Option (Ru z))(Q:z->Hp->List O->Hp->Prop):Prop:=match r with|none=>False|some (.exc c S)=>XU X c H m S|some (.ok a S)=>∀d b e,Í H d->m<+:b->SR X.K d b S e->Q a d b e
def mM(o:Option (Ru z))(k:z->ä->Option (Ru Χ)):Option (Ru Χ):=match o with|none=>U|some (.exc c S)=>Z (.exc c S)|some (.ok a S)=>k a S
def tU(X:C)(f:û):TE:=λc e Q=>∃H m S b,SR X.K H m S e/\ô X.K H m c b/\OU X H m (f S b) λu g d a=>∀v,Ĉ X.K g d u v->Q v a
def tUB(X:C)(f:oQ):TT:=λd e Q=>∃H m S c,SR X.K H m S e/\ô X.K H m d c/\OU X H m (f S c) λb _ _ a=>Q b a
def tUA(X:C)(f:lY):TA:=λd h Q=>∃H m S b,SR X.K H m S h/\ô X.K H m d b/\OU X H m (f S b) λe i g a=>∀c,å X.K i g e c->Q c a
structure UE(X:C)(e:u_)(f:û):Prop where h:PE X e (tU X f)
structure UT(X:C)(e:u_)(f:oQ):Prop where h:PT X e (tUB X f)
structure UW(X:C)(e:u_)(f:oQ):Prop where h:PW X e (tUB X f)
structure UA(X:C)(es:List u_)(f:lY):Prop where h:PA X es (tUA X f)
def XU.mono{b:List O}(h:XU a c g Ε η)(e:Í g ω)(p:Ε<+:b):XU a c ω b η:=λj d n i m s x k f=>h j d n i m s x (e.trans k) (p.trans f)
def OU.mono{d:List O}{r:Option (Ru z)}{Q:z->Hp->List O->Hp->Prop}(h:OU a g Ε r Q)(e:Í g ω)(p:Ε<+:d):OU a ω d r Q:=by match r,h with|none,h=>exact h|some (.exc c S),h=>exact XU.mono h e p|some (.ok b S),h=>exactλm i k j f=>h m i k (e.trans j) (p.trans f)
def OU.bind{o:Option (Ru z)}{k:z->ä->Option (Ru Χ)}{Q:Χ->Hp->List O->Hp->Prop}{P:z->Hp->List O->Hp->Prop}(h:OU a g Ε (mM o k) Q)(n:∀b S f d e,Í g f->Ε<+:d->SR a.K f d S e->OU a f d (k b S) Q->P b f d e):OU a g Ε o P:=by match o,h with|none,h=>exact h|some (.exc c S),h=>exact h|some (.ok b S),h=>exactλp m e j i R=>n b S p m e j i R (OU.mono h j i)
def XU.xw(h:XU a c g Ε η)(R:SR a.K g Ε η ω):XW a c ω:=λd b k s e i I q=>by obtain⟨m,f,j,_⟩:=R.grow i;exact h d b m Ε k s e f (I_ Ε) j I q
def aD(f:Ò):û:=λS a=>match f (ć S a)with|none=>U|some (.exc c)=>Z (.exc c S)|some (.ok d)=>if pl d=L then Z (.ok (.inl d) S)else U
def gq(f:ë):oQ:=λS a=>match f (ć S a)with|none=>U|some (.exc c)=>Z (.exc c S)|some (.ok d)=>Z (.ok d S)
def GX(i:FE a f A):UE a f (aD A):=⟨λj s h u Q I⟨H,m,S,g,R,E,o⟩=>by refine i.h j s h u Q I ⟨ć S g,R.envs E,?_⟩;unfold aD at o;match e:A (ć S g)with
 |none=>rw[e]at o;exact o.elim|some (.exc c)=>rw[e]at o;exact XU.xw o R|some (.ok d)=>
 rw[e]at o;dsimp only at o;by_cases b:pl d=L;·rw[if_pos b]at o;intro v t n r;obtain⟨w,k,q,p⟩:=R.grow n;exact o w m t k (I_ m) q v (p d v b r)
 ·rw[if_neg b]at o;exact o.elim⟩
def GY(h:FT a f Ο):UT a f (gq Ο):=⟨λi s g q Q I⟨H,m,S,e,R,E,o⟩=>by refine h.h i s g q Q I ⟨ć S e,R.envs E,?_⟩;unfold gq at o;match b:Ο (ć S e)with|none=>rw[b]at o;exact o.elim|some (.exc c)=>rw[b]at o;exact XU.xw o R|some (.ok d)=>rw[b]at o;intro p k;obtain⟨r,j,n,_⟩:=R.grow k;exact o r m p j (I_ m) n⟩
def UW.ut{p:oQ}(h:UW a f p):UT a f p:=⟨h.h _⟩
def iS(i:Nat):û:=λS a=>match a[i]? with|some (Z u)=>Z (.ok u S)|_=>U
def LL(i:Nat)(h:PE a f (DJ i)):UE a f (iS i):=⟨λk s d c Q I⟨H,m,S,e,R,E,o⟩=>by refine h k s d c Q I ?_;unfold iS at o;match b:e[i]? with|none=>rw[b]at o;exact o.elim|some U=>rw[b]at o;exact o.elim|some (Z u)=>rw[b]at o;obtain⟨v,j,g⟩:=E.at' i u b;exact⟨v,j,o H m c (.refl H) (I_ m) R v g⟩⟩
def lZ:lY:=λS _=>Z (.ok [] S)
def bw(f:û)(g:lY):lY:=λS a=>mM (f S a) λu c=>mM (g c a) λb S2=>Z (.ok (u::b) S2)
def LM:UA a [] lZ:=⟨λd e s c b Q I⟨H,m,S,f,R,E,o⟩=>xq d e s c b Q I (o H m b (.refl H) (I_ m) R [] rfl)⟩
variable{Φ:û}
def GZ{h:lY}(B:UE a f Φ)(A:UA a u h)(z:l_ (f::u) a.env=(D,eval f a.env)::l_ u a.env:=by lk):UA a (f::u) (bw Φ h):=⟨λn P s j Hf Q I⟨H,m,S,d,R,E,o⟩=>oq B.h A.h z n P s j Hf Q I ⟨H,m,S,d,R,E,OU.bind o λb S1 H1 y a' e1 q R1 w v r=>⟨H1,y,S1,d,R1,E.mono e1 q,OU.bind w λus S2 i g c e2 p R2 t e k=>t i g c (.refl i) (I_ g) R2 (v::e) ⟨v,e,rfl,r.mono e2 p,k⟩⟩⟩⟩
def kT(g:N->N->Option (Rs N))(f:û)(h:Ò):û:=λS e=>mM (f S e) λu a=>match vw a u,h (ć a e)with|some d,Z (.ok i)=>(match g d i with|some (.ok (.bl b))=>Z (.ok (.inl (.bl b)) a)|_=>U)|some _,Z (.exc c)=>Z (.exc c a)|_,_=>U
def opP{r:R2}{b:N->N->Option (Rs N)}(hg:ę a r b)(R:SR a.K g Ε η ω)(E:ô a.K g Ε Μ Ι)(o:OU a g Ε (kT b Φ A η Ι) λu H' m' s=>∀v,Ĉ a.K H' m' u v->Ç v s):G' r (tU a Φ) (tF a A) Μ ω Ç:=⟨g,Ε,η,Ι,R,E,OU.bind o λu m H1 t a' e1 p1 i e v r=>by refine⟨ć m Ι,i.envs (E.mono e1 p1),?_⟩;match h:vw m u,j:A (ć m Ι)with|none,_=>simp[h]at e;exact e.elim|some d,U=>simp[h,j]at e;exact e.elim|some d,Z (.exc c)=>simp only[h,j]at e;exact XU.xw e i|some d,Z (.ok z)=>simp only[h,j]at e;intro H Hg y P;refine hg d z v H Hg _ (Ô.mono y _ _ (i.vw r h)) P ?_;match f:b d z with|some (.ok (.bl k))=>rw[f]at e;intro w q p n;obtain⟨B,e2,R2,dn⟩:=i.grow (y.trans p);exact e B t q e2 (I_ t) R2 w (show Ô a.K B (.bl k) w from n)|none=>rw[f]at e;exact e.elim|some (.exc _)=>rw[f]at e;exact e.elim|some (.ok .non)=>rw[f]at e;exact e.elim|some (.ok (.int _))=>rw[f]at e;exact e.elim|some (.ok (.str _))=>rw[f]at e;exact e.elim|some (.ok (.tup _))=>rw[f]at e;exact e.elim|some (.ok (.lst _))=>rw[f]at e;exact e.elim|some (.ok (.scr _))=>rw[f]at e;exact e.elim|some (.ok (.exn _))=>rw[f]at e;exact e.elim|some (.ok (.obj _ _))=>rw[f]at e;exact e.elim⟩
def G0{b:J'}{r:R2}{g:N->N->Option (Rs N)}(d:õ a (So b) r)(h:ę a r g)(j:UE a f Φ)(i:FE a y A)(e:R5 b y=D):UE a (.Compare f [b] [y] p) (kT g Φ A):=⟨λk s c n Q I⟨H,m,S,q,R,E,o⟩=>xi d j.h i.h e k s c n Q I (opP h R E o)⟩
def QQ(S:ä):Uv->Option (Ru Bool)|.inl (.bl b)=>Z (.ok b S)|_=>U
def uB(f:û):oQ:=λS a=>mM (f S a) λu b=>QQ b u
def zp{u:Uv}{Q:Bool->Hp->List O->Hp->Prop}(r:Ĉ a.K g Ε u Γ)(R:SR a.K g Ε η ω)(o:OU a g Ε (QQ η u) Q):∃k,Γ=.bl k/\Q k g Ε ω:=by match u,r,o with|.inr n,_,o=>exact o.elim|.inl d,r,o=>cases d with|bl b=>exact⟨b,r,o g Ε ω (.refl g) (I_ Ε) R⟩|_=>exact o.elim
def LN(h:UE a f Φ)(g:∀b,isTrue f a.env b=(do let v<-b;Ym f.pos;VJ [v] (truthy v)):=by intro _;lk):UT a f (uB Φ):=⟨λi s c k Q I⟨H,m,S,d,R,E,o⟩=>DK h.h g i s c k Q I ⟨H,m,S,d,R,E,OU.bind o λu w y q n t p j e v r=>zp r j e⟩⟩
def zq{b:J'}{r:R2}{g:N->N->Option (Rs N)}(e:õ a (So b) r)(i:ę a r g)(k:UE a f Φ)(j:FE a y A)(h:R5 b y=D):UT a (.Compare f [b] [y] p) (uB (kT g Φ A)):=⟨λn s c t Q I⟨H,m,S,z,R,E,o⟩=>xj e k.h j.h h n s c t Q I (opP i R E (OU.bind o λu S1 H1 P w e1 B q d v r=>zp r q d))⟩
def ŵ(p q:oQ):oQ:=λS a=>mM (p S a) λb c=>if b=L then Z (.ok L c)else q c a
def LO{b:oQ}(c:UT a f b):UW a (.BoolOp .Or [f] p) b:=⟨DM c.h⟩
def LP{b q:oQ}(v:UT a f b)(t:UW a (.BoolOp .Or (y::u) p) q):UW a (.BoolOp .Or (f::y::u) p) (ŵ b q):=⟨λn w s j B Q I⟨H,m,S,h,R,E,o⟩=>Jq v.h t.h n w s j B Q I ⟨H,m,S,h,R,E,OU.bind o λk A e d g z r i c=>by cases k with|true=>rw[if_pos rfl]at c⊢;exact c e d g (.refl e) (I_ d) i|false=>rw[if_neg (by simp)]at c⊢;exact⟨e,d,A,h,i,E.mono z r,c⟩⟩⟩
def CF(g:Ε.Nodup)(h:Ε[c]?=Z e)(i:Ε[m]?=Z e):c=m:=by
 obtain⟨l,a⟩:=xy.mp h;obtain⟨d,f⟩:=xy.mp i;have b:=UN.mp g;rcases XQ c m with z|z|z;·exact(b c m l d z (a.trans f.symm)).elim
 ·exact z
 ·exact(b m c d l z (f.trans a.symm)).elim
def Į.ne{b:O}{o:HO}{c:CB}(h:Į s g Ε ω e c)(f:e≠b):Į s g Ε (Ý ω b o) e c:=by match c,h with|.lst n,⟨i,d,a⟩=>exact⟨i,by rw[al f];exact d,a⟩|.obj k fs,⟨C,m,j,d,a⟩=>exact⟨C,m,j,by rw[al f];exact d,a⟩
def Į.pre{a:List O}{c:CB}(h:Į s g Ε ω e c)(p:Ε<+:a):Į s g a ω e c:=by match c,h with|.lst n,h=>exact h|.obj k fs,⟨C,m,b,j,i,f,d⟩=>exact⟨C,m,b,j,i,f.mono (.refl g) p,d⟩
def SR.put{o:HO}{a:CB}(R:SR s g Ε η ω)(d:Ε[c]?=Z e)(n:Į s g Ε (Ý ω e o) e a):SR s g Ε (η.set c a) (Ý ω e o):=by
 have k:e∈Ε:=Sg d;refine⟨by rw[SF];exact R.len,R.nd,R.fr,λb u h=>?_,λi p h=>?_⟩
 · have:b≠e:=λz=>by rw[z,R.fr e k]at h;cases h
   rw[al this];exact R.up b u h
 · by_cases f:c=i
   · subst f;have m:c<η.length:=by rw[<-R.len];exact(xy.mp d).1
     rw[Sh m]at h;cases h;exact⟨e,d,n⟩
   ·rw[Sy f]at h;obtain⟨b,j,q⟩:=R.at' i p h;exact⟨b,j,q.ne λz=>f (CF R.nd d (z▸j))⟩
def SR.fresh(R:SR s g Ε η ω)(a:ω e=U):e∉Ε/\g e=U:=by
 refine⟨λz=>?_,?_⟩;·rcases R.cell z with⟨b,q⟩|⟨C,c,fs,q⟩<;>·rw[a]at q;cases q
 ·cases h:g e with|none=>rfl|some u=>have:=R.up e u h;rw[a]at this;cases this
def SR.push{o:HO}{c:CB}(R:SR s g Ε η ω)(k:ω e=U)(p:Į s g (Ε++[e]) (Ý ω e o) e c):SR s g (Ε++[e]) (η++[c]) (Ý ω e o):=by
 obtain⟨d,j⟩:=R.fresh k;refine⟨by simp[R.len],?_,λa h=>?_,λb u h=>?_,λn t h=>?_⟩
 · rw[Z2];refine⟨R.nd,by simp,λa h b r=>?_⟩;have:b=e:=by simpa using r
   subst this;exactλz=>d (z▸h)
 · rcases Sr.mp h with h|h;·exact R.fr a h
   · have:a=e:=by simpa using h
     subst this;exact j
 · have:b≠e:=λz=>by rw[z,j]at h;cases h
   rw[al this];exact R.up b u h
 · by_cases f:n<η.length;·rw[Su f]at h;obtain⟨a,i,q⟩:=R.at' n t h;refine⟨a,by rw[Su (by rw[R.len];exact f)];exact i,(q.ne (b:=e) λ(z:a=e)=>d (by rw[<-z];exact Sg i)).pre (XC Ε [e])⟩
   · have m:n=η.length:=by have:=(xy.mp h).1;simp at this;omega
     subst m;rw[Sn (r_ _),WC]at h;cases h;exact⟨e,by rw[<-R.len,Sn (r_ _),WC];rfl,p⟩
def ins:List Uv->Option (List N)|[]=>Z []|.inl d::a=>(ins a).map (d::·)|.inr _::_=>U
inductive š where|nx(ρ:þ)(S:ä)|rt(u:Uv)(S:ä)|exc(c:Nat)(S:ä)
abbrev cu:=ä->þ->Option š
def OV(X:C)(H:Hp)(m:List O)(r:Option š)(a:tZ):Prop:=match r with|none=>False|some (.exc c S)=>XU X c H m S|some (.rt u S)=>∀v d b e,Í H d->m<+:b->SR X.K d b S e->Ĉ X.K d b u v->a.rt v e|some (.nx g S)=>∀f d b e,Í H d->m<+:b->SR X.K d b S e->ô X.K d b f g->a.nx f e
def tVU(X:C)(f:cu):TS:=λa c d=>∃H m S b,SR X.K H m S d/\ô X.K H m c b/\OV X H m (f S b) a
structure US(X:C)(st:S7)(f:cu):Prop where h:PS X st (tVU X f)
structure ļ(X:C)(st:List S7)(f:cu):Prop where h:ĺ X st (tVU X f)
def Ey(o:Option (Ru z))(k:z->ä->Option š):Option š:=match o with|none=>U|some (.exc c S)=>Z (.exc c S)|some (.ok a S)=>k a S
def sqV(o:Option š)(k:ä->þ->Option š):Option š:=match o with|some (.nx a S)=>k S a|o=>o
def OV.mono{m:List O}{b:tZ}{r:Option š}(h:OV a g Ε r b)(e:Í g ω)(p:Ε<+:m):OV a ω m r b:=by match r,h with|none,h=>exact h|some (.exc c S),h=>exact XU.mono h e p|some (.rt u S),h=>exactλv k f j i d=>h v k f j (e.trans i) (p.trans d)|some (.nx n S),h=>exactλv k f j i d=>h v k f j (e.trans i) (p.trans d)
def OU.bindV{d:tZ}{o:Option (Ru z)}{k:z->ä->Option š}{P:z->Hp->List O->Hp->Prop}(h:OV a g Ε (Ey o k) d)(p:∀b S i e f,Í g i->Ε<+:e->SR a.K i e S f->OV a i e (k b S) d->P b i e f):OU a g Ε o P:=by match o,h with|none,h=>exact h|some (.exc c S),h=>exact h|some (.ok b S),h=>exactλq n f m j R=>p b S q n f m j R (OV.mono h m j)
def wS:cu:=λS a=>Z (.nx a S)
def dt(f g:cu):cu:=λS a=>sqV (f S a) g
def jO(i:Nat)(f:û):cu:=λS a=>Ey (f S a) λu b=>Z (.nx (a.set i (Z u)) b)
def l0(f:û):cu:=λS a=>Ey (f S a) λ_ b=>Z (.nx a b)
def oR(f:û):cu:=λS a=>Ey (f S a) λu b=>Z (.rt u b)
def ň(p:oQ)(f g:cu):cu:=λS a=>Ey (p S a) λb c=>if b=L then f c a else g c a
def Po(f:Ø):cu:=λS a=>match f (ć S a)with|some (.exc c)=>Z (.exc c S)|_=>U
def G9:ļ a [] wS:=⟨λe s c d b I⟨H,m,S,f,R,E,o⟩=>se e s c d b I (o c H m d (.refl H) (I_ m) R E)⟩
def Ha{F:cu}(b:US a τ F):ļ a [τ] F:=⟨sf b.h⟩
def CG{F G:cu}(n:US a τ F)(k:ļ a Ä G):ļ a (τ::Ä) (dt F G):=⟨λp s h t b I⟨H,m,S,g,R,E,o⟩=>by refine kX n.h k.h p s h t b I ⟨H,m,S,g,R,E,?_⟩;unfold dt sqV at o;match d:F S g with|none=>rw[d]at o;exact o.elim|some (.exc c e)=>rw[d]at o;exact o|some (.rt u e)=>rw[d]at o;exact o|some (.nx f e)=>rw[d]at o;exactλy v j z q i r w=>⟨v,j,e,f,r,w,OV.mono o q i⟩⟩
def LQ(i:Nat){x:Str}(z:a.N.Nodup)(t:a.N[i]?=Z x)(n:ľ a.env.scope x)(y:UE a f Φ)(q:To f (Z (.Name x B)) p.line a.env=pure D:=by lk)(w:a.fn x=L\/a.env.scope.names.lookup x=Z .local:=by first|exact .inl rfl|exact .inr rfl|assumption):US a (.Assign [.Name x B] f p) (jO i Φ):=⟨λA s g Hf b I⟨H,m,S,h,R,E,o⟩=>ua z t n y.h q w A s g Hf b I ⟨H,m,S,h,R,E,OU.bindV o λu S1 e d c P j R1 k v r=>k _ e d c (.refl e) (I_ d) R1 ((E.mono P j).set r)⟩⟩
def Hb(n:UE a f Φ)(k:To f U p.line a.env=pure D:=by lk):US a (.Expr f p) (l0 Φ):=⟨λq s g y b I⟨H,m,S,h,R,E,o⟩=>sh n.h k q s g y b I ⟨H,m,S,h,R,E,OU.bindV o λu z e d c t i w j v r=>j _ e d c (.refl e) (I_ d) w (E.mono t i)⟩⟩
def LR(j:UE a f Φ):US a (.Return (Z f) p) (oR Φ):=⟨λk s g q b I⟨H,m,S,h,R,E,o⟩=>w6 j.h k s g q b I ⟨H,m,S,h,R,E,OU.bindV o λu y e d c w t n i v r=>i v e d c (.refl e) (I_ d) n r⟩⟩
def Pp{j:List S7}{b:oQ}{F G:cu}(u:UT a f b)(w:ļ a Ä F)(v:ļ a j G):US a (.If f Ä j p) (ň b F G):=⟨λy s t z c I⟨H,m,S,e,R,E,o⟩=>Fd u.h w.h v.h y s t z c I ⟨H,m,S,e,R,E,OU.bindV o λk n r h A i g q d=>by cases k with|true=>rw[if_pos rfl]at d⊢;exact⟨r,h,n,e,q,E.mono i g,d⟩|false=>rw[if_neg (by simp)]at d⊢;exact⟨r,h,n,e,q,E.mono i g,d⟩⟩⟩
def LS(h:FS a τ Τ):US a τ (Po Τ):=⟨λi s g j b I⟨H,m,S,f,R,E,o⟩=>by refine h.h i s g j b I ⟨ć S f,R.envs E,?_⟩;unfold Po at o;match e:Τ (ć S f)with|none=>rw[e]at o;exact o.elim|some (.rt d)=>rw[e]at o;exact o.elim|some (.nx _)=>rw[e]at o;exact o.elim|some (.exc c)=>rw[e]at o;exact XU.xw o R⟩
def oU(k j:Nat)(w:Uv)(a:List Uv):Option (List Uv):=if j<a.length then Z (a.set j w)else if j=a.length/\a.length<(ċ k).length then Z (a++[w])else U
def qV(k j:Nat)(o f:û):cu:=λS a=>Ey (f S a) λw d=>Ey (o d a) λu S2=>match u with|.inr n=>(match S2[n]? with|some (.obj c fs)=>if c=k then(match oU k j w fs with|some b=>Z (.nx a (S2.set n (.obj k b)))|none=>U)else U|_=>U)|_=>U
def LU{g:û}(i:CK a.K c e)(b':(ċ c)[m]?=Z b)(ho:UE a y g)(he:UE a f Φ)(hs:To f (Z (.Attribute y b B)) p.line a.env=pure D:=by lk):US a (.Assign [.Attribute y b B] f p) (qV c m g Φ):=⟨λf' s σ Hf o I⟨H,j,S,ρ,R,E,y⟩=>JF ho.h he.h hs f' s σ Hf o I ⟨H,j,S,ρ,R,E,OU.bindV y λw S1 H1 m1 h' e1 p1 R1 o1 h ry=>⟨H1,m1,S1,ρ,R1,E.mono e1 p1,OU.bindV o1 λu S2 H2 m2 g' e2 p2 R2 z v r=>by match u,r,z with
 |.inl d,_,z=>exact z.elim|.inr n,⟨k,ha,hv⟩,z=>subst hv;dsimp only at z;match P:S2[n]? with
 |none=>rw[P]at z;exact z.elim|some (.lst ds)=>rw[P]at z;exact z.elim|some (.obj k' fs)=>
 rw[P]at z;dsimp only at z;by_cases hk:k'=c
 · subst hk;rw[if_pos rfl]at z;obtain⟨q,c',C',dx,vs,h1,h2,h3,h4⟩:=R2.at' n _ P;rw[ha]at c';cases c';rw[wq i h2]at h1;have lv:=h3.length;refine⟨k,e,dx,_,rfl,h1,i.c,i.a b (Sg b'),?_,?_⟩
   · have:(ċ k').length<1000:=by unfold ċ;split<;>decide
     rw[List.length_zip];omega
   ·match t:oU k' m w fs with
     |none=>rw[t]at z;exact z.elim|some e'=>
     rw[t]at z;dsimp only at z;have a':Ĉ a.K H2 m2 w h:=ry.mono e2 p2;refine z σ H2 m2 _ (.refl H2) (I_ m2) (R2.put ha ⟨e,dx,if m<vs.length then vs.set m h else vs++[h],?_,by rw[<-wq i h2];exact h2,?_,?_⟩) ((E.mono e1 p1).mono e2 p2)
     · rw[ao];unfold oU at t;have d':m<=vs.length:=by
        by_cases hj:m<fs.length;·omega
        · rw[if_neg hj]at t;by_cases A:m=fs.length/\fs.length<(ċ k').length;·omega
          ·rw[if_neg A]at t;cases t
       rw[uR (Ex k') b' d' (by omega)]
     · unfold oU at t;by_cases hj:m<fs.length;·rw[if_pos hj]at t;cases t;rw[if_pos (by omega)];exact h3.set m a'
       · rw[if_neg hj]at t;by_cases A:m=fs.length/\fs.length<(ċ k').length;·rw[if_pos A]at t;cases t;rw[if_neg (by omega)];exact h3.append ⟨h,[],rfl,a',rfl⟩
         ·rw[if_neg A]at t;cases t
     · unfold oU at t;by_cases hj:m<fs.length;·rw[if_pos hj]at t;cases t;rw[SF];exact h4
       · rw[if_neg hj]at t;by_cases A:m=fs.length/\fs.length<(ċ k').length;·rw[if_pos A]at t;cases t;rw[SV];simp;omega
         ·rw[if_neg A]at t;cases t
 ·rw[if_neg hk]at z;exact z.elim⟩⟩⟩
def Hc(b:List Nat)(a:þ):þ:=b.foldl (λr j=>r.set j U) a
def ô.fgt1(j:Nat)(E:ô s g Ε Μ Ι):ô s g Ε Μ (Ι.set j U):=by
 refine⟨by rw[SF];exact E.len,λi d h=>?_⟩;by_cases a:j=i
 · subst a;by_cases b:j<Ι.length;·rw[Sh b]at h;cases h
   ·rw[Ue (by rw[SF];omega)]at h;cases h
 ·rw[Sy a]at h;exact E.at' i d h
def ô.fgt{H:Hp}{m:List O}{K:d_}{c:L2.St}:∀(b:List Nat){a:þ},ô K H m c a->ô K H m c (Hc b a)|[],_,E=>E|j::b,a,E=>ô.fgt b (E.fgt1 j)
abbrev Ā:=ä->List Uv->Option (Ru Uv)
def kh{b:List Uv}(r:å s g Ε b θ):ô s g Ε (L2.start v θ) (b.map Z++P_ (v.length-b.length) U):=by
 have f:=r.length;refine⟨by unfold L2.start;rw[SV,SV,E_,E_,Ud,Ud,f],λi d h=>?_⟩;by_cases e:i<b.length
 ·rw[Su (by simpa using e),O_]at h;match c:b[i]? with|none=>rw[c]at h;cases h|some u=>rw[c]at h;cases h;obtain⟨a,k,j⟩:=r.get c;refine⟨a,?_,j⟩;unfold L2.start;rw[Su (by rw[E_,f];exact e),O_,k];rfl
 ·rw[Sn (by simpa using e)]at h;have:=Sg h;rw[List.mem_replicate]at this;cases this.2
def oV(F:Ā)(n:Nat)(c:lY):û:=λS b=>mM (c S b) λa d=>if a.length=n then F d a else U
def ie(k:Nat)(F:Ā)(n:Nat)(g:û)(f:lY):û:=λS a=>mM (g S a) λu d=>match u with|.inr c=>(match d[c]? with|some (.obj e _)=>if e=k then mM (f d a) λb S2=>(if b.length=n then F S2 (.inr c::b)else U)else U|_=>U)|_=>U
def sU(k:Nat)(F:Ā)(n:Nat)(d:lY):û:=λS c=>mM (d S c) λb a=>if b.length=n then mM (F (a++[.obj k []]) (.inr a.length::b)) λu S2=>(match u with|.inl .non=>Z (.ok (.inr a.length) S2)|_=>U)else U
abbrev wt:=List (Str×Nat×Nat×Ā)
def NR(n:Nat)(b:cu):Ñ:=λa=>match b [] ((a.map λd=>Z (.inl d))++P_ (n-a.length) U)with|some (.rt (.inl d) _)=>Z (.ok d)|_=>U
def uS{K:d_}{H:Hp}{m:List O}:∀{c:List N}{a:List V},S K H c a->å K H m (c.map .inl) a|[],a,r=>r|d::c,a,r=>by obtain⟨v,b,e,g,f⟩:∃v b,a=v::b/\Ô K H d v/\S K H c b:=r;exact⟨v,b,e,g,uS f⟩
def Hd(h:PE a f (DJ c)):UE a f (iS c):=LL c h
def He(i:UE a f Φ)(j:Ĥ a.N=L:=by lk)(g:a.N[c]?=Z b:=by lk)(d:kQ a.env.scope b=L:=by lk)(h:a.fn b=L:=by lk)(e:To f (Z (.Name b B)) p.line a.env=pure D:=by lk):US a (.Assign [.Name b B] f p) (jO c Φ):=LQ c (jM j) g (fR d) i e (.inl h)
def Hh{g:û}(d:CK a.K m e)(j:UE a f g)(k:UE a y Φ)(h:(ċ m)[c]?=Z b:=by lk)(i:To y (Z (.Attribute f b B)) p.line a.env=pure D:=by lk):US a (.Assign [.Attribute f b B] y p) (qV m c g Φ):=LU d h j k i
def LV(b:a.A.units+64<cLine)(e:UE a f Φ)(d:FE a y A)(c:R5 .Eq y=D:=by lk):UE a (.Compare f [.Eq] [y] p) (kT ß Φ A):=G0 (FY b) F0 e d c
def LW(b:a.A.units+64<cLine)(e:UE a f Φ)(d:FE a y A)(c:R5 .NotEq y=D:=by lk):UT a (.Compare f [.NotEq] [y] p) (uB (kT č Φ A)):=zq (Ku b) Kv e d c
structure Lk(J:It)(a c:Int)(n:Nat):Prop where
 go:∀i H,i<n->J.go i H
 yld:∀i H x H',J.yld i H x H'->H'=H/\x=.int (a+(i:Int)*c)stop:∀i H,n<=i->J.stop i H
abbrev FnI:=Ev->Option (Int×Int×Nat)
structure UI(X:C)(tg iter:u_)(w:FnI):Prop where h:PI X tg iter λσ H R=>∃ρ a c n,Ù X.K H σ ρ/\w ρ=Z (a,c,n)/\∀J H',Í H H'->Lk J a c n->R J H'
abbrev okR(n:Int):Prop:=-(2^62)<=n/\n<2^62
def iU1(b:á):FnI:=λa=>match b a with|some (.ok [.int n])=>if okR n then Z (0,1,n.toNat)else U|_=>U
def Pq(a:Int)(n:Nat):Lk (T' a n) a 1 n:=⟨λ_ _ h=>h,λi H x b⟨h,e⟩=>⟨h,by rw[e,Int.mul_one]⟩,λ_ _ h=>h⟩
def Ry(m:Gl a "range")(k:a.mg "range"=U)(o:FA a [y] μ)(i:l_ [y] a.env=[(D,eval y a.env)]:=by lk):UI a f (.Call (.Name "range" p) [y] [] B) (iU1 μ):=⟨λr s d H R I⟨e,A,z,w,E,b,q⟩=>by
 refine pU m k o.h i r s d H R I ⟨e,E,?_⟩;unfold iU1 at b;split at b
 · rename_i n j;rw[j];split at b;·rename_i c;cases b;intro u P t h;obtain⟨v,rfl,g⟩:=cZ h;exact⟨n,by rw[show v=.int n from g],c.1,c.2,q _ _ t (Pq 0 _)⟩
   ·cases b
 ·cases b⟩
def mR(i:Nat)(d:List Nat)(F:cu)(a c:Int):Nat->Nat->ä->þ->Option š|0,_,S,b=>Z (.nx (Hc d b) S)|n+1,k,S,b=>match F S ((Hc d b).set i (Z (.inl (.int (a+(k:Int)*c)))))with|some (.nx e f)=>mR i d F a c n (k+1) f e|o=>o
def wu(i:Nat)(d:List Nat)(w:FnI)(F:cu):cu:=λS b=>match w (ć S b)with|some (a,c,n)=>mR i d F a c n 0 S b|none=>U
def Hi{w:FnI}{F:cu}(i:Nat)(A:List Nat)(hp:Wf (y_ a.prog a.w) a.A a.env a.xe)(hc:a.calm=L)(hi:UI a f y w)(hn:PG a f (w8 i))(hb:ļ a Ä F)(e':∀x,Sj y a.env x=pure x:=by intro _;lk):US a (.For f y Ä [] p) (wu i A w F):=⟨λf' s σ Hf e I⟨H,m,S,ρ,R,E,o⟩=>by unfold wu at o;match hq:w (ć S ρ)with
 |none=>rw[hq]at o;exact o.elim|some (b,c,n)=>
 rw[hq]at o;dsimp only at o;refine uc hp hc hi.h hn hb.h e' f' s σ Hf e I ⟨ć S ρ,b,c,n,R.envs E,hq,λJ Hg eg d=>?_⟩;obtain⟨H0,e0,R0,_⟩:=R.grow eg;refine⟨λk q P a'=>q=n-k/\k<=n/\∃v z S' j,SR a.K v z S' a'/\ô a.K v z P j/\OV a v z (mR i A F b c (n-k) k S' j) e,⟨n,by simp,Sb _,H0,m,S,ρ,R0,E.mono e0 (I_ m),by simpa using o.mono e0 (I_ m)⟩,?_⟩;rintro k q P a'⟨rfl,hk,v,z,S',j,R',E',h⟩;by_cases b':k<n;·refine .inr ⟨d.go k _ b',λB c'=>∃H2 m2 S2 t,SR a.K H2 m2 S2 c'/\ô a.K H2 m2 B t/\OV a H2 m2 (mR i A F b c (n-(k+1)) (k+1) S2 t) e,λB c' q=>⟨n-(k+1),by omega,rfl,b',q⟩,λx H2 g=>?_⟩;obtain⟨rfl,rfl⟩:=d.yld k _ x H2 g;rw[show n-k=(n-(k+1))+1 by omega]at h;unfold mR at h;show tVU a F _ _ _;refine⟨v,z,S',(Hc A j).set i (Z (.inl (.int (b+(k:Int)*c)))),R',(ô.fgt A E').set (show Ô a.K v (.int (b+(k:Int)*c)) (.int (b+(k:Int)*c))from rfl),?_⟩;match u:F S' ((Hc A j).set i (Z (.inl (.int (b+(k:Int)*c)))))with|none=>rw[u]at h;exact h|some (.exc c _)=>rw[u]at h;exact h|some (.rt r _)=>rw[u]at h;exact h|some (.nx t S2)=>rw[u]at h;exactλB H3 m3 g' e3 p3 R3 E3=>⟨H3,m3,S2,t,R3,E3,OV.mono h e3 p3⟩
 · have d':k=n:=by omega
   subst d';rw[WC]at h;exact .inl ⟨d.stop k _ (r_ _),h P v z a' (.refl v) (I_ z) R' (ô.fgt A E')⟩⟩
def IX(p:oQ):oQ:=λS a=>mM (p S a) λb c=>Z (.ok (!b) c)
def Hj{b:oQ}(j:UT a f b):UT a (.UnaryOp .Not f p) (IX b):=⟨λn s g r Q I⟨H,m,S,h,R,E,o⟩=>DN j.h n s g r Q I ⟨H,m,S,h,R,E,OU.bind o λk v e d c u t q i=>i e d c (.refl e) (I_ d) q⟩⟩
def CH{w:FnI}{V:cu}{e:List Nat}(h:Wf (y_ a.prog a.w) a.A a.env a.xe)(j:UI a (.Name b B) f w)(n:ļ a Ä V)(m:a.calm=L:=by lk)(o:Ĥ a.N=L:=by lk)(g:a.N[c]?=Z b:=by lk)(i:kQ a.env.scope b=L:=by lk)(k:a.fn b=L:=by lk)(d:∀b,Sj f a.env b=pure b:=by intro _;lk):US a (.For (.Name b B) f Ä [] p) (wu c e w V):=Hi c e h m j (ii (jM o) g (fR i) (.inl k)) n d
def l4(n:Nat)(c:cu):Ā:=λS b=>match c S (b.map Z++P_ (n-b.length) U)with|some (.nx _ a)=>Z (.ok (.inl .non) a)|some (.rt u a)=>Z (.ok u a)|_=>U
def NX(F:Ā):Prop:=∀S a c b,F S a≠Z (.exc c b)
variable{Á:Ā}
def zr{b:cu}(h:Á=l4 c b):NX Á:=λS d a e z=>by subst h;unfold l4 at z;split at z<;>cases z
def Ŧ(K:d_)(F:Ā)(n:Nat):Sp:=λe g Q _=>∃H m S b,SR K H m S g/\å K H m b e/\b.length=n/\match F S b with|some (.ok u f)=>∀v d c a,Í H d->m<+:c->SR K d c f a->Ĉ K d c u v->Q v a|_=>False
def zt(N B:List Str)(fb:cu)(hF:Á=l4 N.length fb)(hn:m=B.length)(Fn:ĥ s b j τ e Ψ)(Sc:eH N B (ai τ))(hb:∀(t:R)(A:x_)(n:List Env)(d:g_)(H:Hp)(E:XK),Ö c (A.deeper (Uo j (ai τ) d.heap.objs.size e t))->ļ (kY ù q o s Η P N j (ai τ) e t A n d H E).nox (bF τ) fb):ê q o s Η P ù (c+1) e Ψ B (Ŧ s Á m):=by
 subst hF hn;obtain⟨oc,od,kV,d',pm,an,t,ct,c',rfl,lk,a'⟩:=Fn.ex;refine xu lk a' Sc (λvs H Q E h=>?_) λA n d Hf vs Q E hr h=>?_;·obtain⟨H,g,S,y,i,r,hl,_⟩:=h;rw[r.length,hl]
 ·obtain⟨H,g,S,y,i,r,hl,a⟩:=h;refine⟨_,(hb t A n d Hf E hr).h.nox,H,g,S,y.map Z++P_ (N.length-y.length) U,i,kh r,?_⟩;unfold l4 at a;match z:fb S (y.map Z++P_ (N.length-y.length) U)with|none=>rw[z]at a;exact a.elim|some (.exc k S1)=>rw[z]at a;exact a.elim|some (.rt u S1)=>rw[z]at a;exactλv H' m' w f p R' r'=>a v H' m' w f p R' r'|some (.nx ρ S1)=>rw[z]at a;exactλb' H' m' w f p R' _=>a .non H' m' w f p R' rfl
def qW(s:NX Á){H n:Hp}{m:List O}{S:ä}{f:List Uv}{j:List V}{Q:VK}(R:SR a.K H m S n)(q:å a.K H m f j)(t:f.length=c)(o:OU a H m (Á S f) λu i g d=>∀v,Ĉ a.K i g u v->Q v d):Ŧ a.K Á c j n Q E0:=by refine⟨H,m,S,f,R,q,t,?_⟩;match h:Á S f with|none=>rw[h]at o;exact o.elim|some (.ok u k)=>rw[h]at o;exactλv i g d e p w r=>o i g d e p w v r|some (.exc b k)=>exact(s S f b k h).elim
def zu{n:lY}(z:NX Á)(G:ê a.prog a.w a.K a.mg a.base ù c e Ψ v (Ŧ a.K Á m))(A:Ö c a.A)(hg:Gl a b)(P:a.mg b=Z (.ref e))(hk:SU a.K (.ref e)=L)(hb:é a.K Ψ v [])(ha:UA a (f::u) n)(j:(b==("__debug__":Str))=D:=by lk)(he:l_ (f::u) a.env=(D,eval f a.env)::l_ u a.env:=by lk)(i:(R8 B (l_ u a.env)).any (·.1)=D:=by lk):UE a (.Call (.Name b p) (f::u) [] B) (oV Á m n):=⟨λf' s q Hf Q I⟨H,d,S,r,R,E,o⟩=>ot G A hg P hk hb .nil qd ha.h j he i f' s q Hf Q I ⟨H,d,S,r,R,E,OU.bind o λw S1 H1 m1 k e1 p1 R1 g t y=>by
 show Ŧ a.K Á m (t++[]) k Q E0;rw[Uc];by_cases h:w.length=m;·rw[if_pos h]at g;exact qW z R1 y h g
 ·rw[if_neg h]at g;exact g.elim⟩⟩
structure CI(P:on)(w:z_)(K:d_)(mg:Str->Option R)(base:M_)(k:Nat)(C:O)(m:Str)(lv n:Nat)(F:Ā):Prop where
 c:CK K k C
 nx:NX F
 h:m∉ċ k
 f:∃f fd ps,Fj K C m f/\ê P w K mg base ù lv f fd ps (Ŧ K F (n+1))/\é K fd ps []
def zv{q:Nat}{gs:lY}{pl:Sem Bool}(h:CI a.prog a.w a.K a.mg a.base c e b ψ m Á)(hr:Ö q a.A)(hk:ψ<=q)(ho:UE a f Φ)(P:UA a (y::u) gs)(ht:MC a f b (y::u) B p pl)(he:l_ (y::u) a.env=(D,eval y a.env)::l_ u a.env:=by lk)(a':(R8 p (l_ u a.env)).any (·.1)=D:=by lk):UE a (.Call (.Attribute f b B) (y::u) [] p) (ie c Á m Φ gs):=by have nx:=h.nx;obtain⟨k,fd,ps,hm,G,hb⟩:=h.f;refine⟨λf' s σ Hf Q I⟨H,j,S,ρ,R,E,f⟩=>xt (z:=pl) ho.h h.c.c hm (G.mono hk) hr hb .nil qd P.h he a' ht f' s σ Hf Q I ⟨H,j,S,ρ,R,E,OU.bind f λi S1 H1 m1 c' e1 p1 R1 o v r=>?_⟩⟩;match i,r,o with
 |.inl d,_,o=>exact o.elim|.inr n',⟨g,P,hv⟩,o=>subst hv;dsimp only at o;match A:S1[n']? with
 |none=>rw[A]at o;exact o.elim|some (.lst ds)=>rw[A]at o;exact o.elim|some (.obj k' fs)=>
 rw[A]at o;dsimp only at o;by_cases t:k'=c
 · subst t;rw[if_pos rfl]at o;obtain⟨n,w,C',dx,vs,h1,h2,h3,h4⟩:=R1.at' n' _ A;rw[P]at w;cases w;rw[wq h.c h2]at h1;refine⟨g,dx,_,rfl,h1,jN h.h,H1,m1,S1,ρ,R1,E.mono e1 p1,OU.bind o λus S2 H2 m2 b' e2 p2 R2 z ws rs=>?_⟩;show Ŧ a.K Á (m+1) (.ref g::(ws++[])) b' Q E0;rw[Uc];by_cases hl:us.length=m;·rw[if_pos hl]at z;exact qW nx (f:=.inr n'::us) R2 ⟨.ref g,ws,rfl,⟨g,oP p2 P,rfl⟩,rs⟩ (by rw[SD,hl]) z
   ·rw[if_neg hl]at z;exact z.elim
 ·rw[if_neg t]at o;exact o.elim
structure LX(P:on)(w:z_)(K:d_)(mg:Str->Option R)(base:M_)(k:Nat)(C:O)(lv n:Nat)(F:Ā):Prop where
 c:CK K k C
 nx:NX F
 g:mg (ő k)=Z (.ref C)f:∃f fd ps,Mk K C f/\ê P w K mg base ù lv f fd ps (Ŧ K F (n+1))/\é K fd ps []
def zw{q:Nat}{gs:lY}(h:LX a.prog a.w a.K a.mg a.base c e ψ m Á)(a':Ö q a.A)(hk:ψ+1<=q)(hg:Gl a (ő c))(A:UA a (f::u) gs)(d':(ő c==("__debug__":Str))=D)(he:l_ (f::u) a.env=(D,eval f a.env)::l_ u a.env:=by lk)(b':(R8 B (l_ u a.env)).any (·.1)=D:=by lk):UE a (.Call (.Name (ő c) p) (f::u) [] B) (sU c Á m gs):=by
 have nx:=h.nx;obtain⟨j,fd,ps,M,G,hb⟩:=h.f;refine⟨λf' s σ Hf Q I⟨H,i,S,ρ,R,E,o⟩=>Fm M G (a'.mono hk) hg h.g hb .nil qd A.h d' he b' f' s σ Hf Q I ⟨H,i,S,ρ,R,E,OU.bind o λus S1 H1 y h' e1 p1 R1 w vs rs=>?_⟩⟩;by_cases z:us.length=m
 · rw[if_pos z]at w;intro b P A c' t;obtain⟨H2,e2,R2,_⟩:=R1.grow (aG c' (.own b));have e':Ý h' P (.own b) b=U:=by rw[al (by first|exact t|exact Vg t)];exact A
   have R3:=R2.push (o:=.ins e P []) (c:=.obj c []) e' ⟨e,P,[],by rw[ao];simp,h.c.n,rfl,Sb _⟩;have k:(y++[b])[S1.length]?=Z b:=by rw[<-R1.len,Sn (r_ _),WC];rfl
   show Ŧ a.K Á (m+1) (.ref b::(vs++[])) _ _ E0;rw[Uc];refine qW nx (f:=.inr S1.length::us) R3 ⟨.ref b,vs,rfl,⟨b,k,rfl⟩,rs.mono e2 (XC y [b])⟩ (by rw[SD,z]) (OU.bind (w.mono e2 (XC y [b])) λg S4 H4 m4 g' e4 p4 R4 n v r=>?_);match g,r,n with|.inr _,_,n=>exact n.elim|.inl d,r,n=>cases d with|non=>exact⟨r,n H4 m4 g' (.refl H4) (I_ m4) R4 (.ref b) ⟨b,oP p4 k,rfl⟩⟩|_=>exact n.elim
 ·rw[if_neg z]at w;exact w.elim
structure Hk(P:on)(w:z_)(K:d_)(mg:Str->Option R)(base:M_)(x:Str)(lv n:Nat)(F:Ā):Prop where
 nx:NX F
 f:∃f fd ps,ê P w K mg base ù lv f fd ps (Ŧ K F n)/\mg x=Z (.ref f)/\SU K (.ref f)=L/\é K fd ps []
structure Ez(P:on)(w:z_)(K:d_)(mg:Str->Option R)(base:M_)(T:wt):Prop where h:∀x e,T.lookup x=Z e->Hk P w K mg base x e.1 e.2.1 e.2.2
structure Ļ(P:on)(w:z_)(K:d_)(mg:Str->Option R)(base:M_)(k:Nat)(C:O)(T:wt):Prop where h:∀m e,T.lookup m=Z e->CI P w K mg base k C m e.1 e.2.1 e.2.2
def CL:Ez q o s Η P []:=⟨λ_ _ h=>by cases h⟩
def zx{T:wt}(h:Hk q o s Η P b c m Á)(t:Ez q o s Η P T):Ez q o s Η P ((b,c,m,Á)::T):=⟨λb e z=>by
 rcases gp z with⟨rfl,rfl⟩|z;·exact h
 ·exact t.h b e z⟩
def Hl:Ļ q o s Η P c e []:=⟨λ_ _ h=>by cases h⟩
def la{T:wt}(h:CI q o s Η P c e b m ψ Á)(t:Ļ q o s Η P c e T):Ļ q o s Η P c e ((b,m,ψ,Á)::T):=⟨λx a z=>by
 rcases gp z with⟨rfl,rfl⟩|z;·exact h
 ·exact t.h x a z⟩
def CM{h:M_}(u:s.In h)(v:h.Ns H_ Η)(N f:List Str)(i:cu)(A:Af s b τ e)(j:LA b τ f)(t:∀(g:R)(A:x_)(d:List Env)(a:g_)(H:Hp)(E:XK),Ö c (A.deeper (Uo b (ai τ) a.heap.objs.size e g))->ļ (kY ù q o s Η P N b (ai τ) e g A d a H E).nox (bF τ) i)(k:Á=l4 N.length i:=by lk)(p:Ţ N f (ai τ)=L:=by lk)(r:m=f.length:=by lk):Hk q o s Η P b (c+1) m Á:=let⟨_,n⟩:=A.F;⟨zr k,_,_,f,zt N f i k r n (Bf p) t,UC u v A.a,A.k,n.binds j⟩
def lb(d:CK s c e)(N g:List Str)(i:cu)(A:Am s e j b τ r)(k:BdQ b j τ g)(w:∀(h:R)(A:x_)(f:List Env)(a:g_)(H:Hp)(E:XK),Ö m (A.deeper (Uo j (ai τ) a.heap.objs.size r h))->ļ (kY ù q o s Η P N j (ai τ) r h A f a H E).nox (bF τ) i)(n:Á=l4 N.length i:=by lk)(t:Ţ N g (ai τ)=L:=by lk)(u:ψ+1=g.length:=by lk)(v:noB c b=L:=by lk):CI q o s Η P c e b (m+1) ψ Á:=let⟨_,p⟩:=A.F;⟨d,zr n,GW v,_,_,g,A.t,zt N g i n u p (Bf t) w,p.binds k⟩
def Hm{h:M_}(y:s.In h)(z:h.Ns H_ Η)(d:CK s c e)(M:Mk s e r)(N g:List Str)(j:cu)(A:∃w,ĥ s "__init__" b τ r w)(k:BdQ "__init__" b τ g)(v:∀(i:R)(A:x_)(f:List Env)(a:g_)(H:Hp)(E:XK),Ö m (A.deeper (Uo b (ai τ) a.heap.objs.size r i))->ļ (kY ù q o s Η P N b (ai τ) r i A f a H E).nox (bF τ) j)(n:Á=l4 N.length j:=by lk)(t:Ţ N g (ai τ)=L:=by lk)(u:ψ+1=g.length:=by lk):LX q o s Η P c e (m+1) ψ Á:=let⟨_,p⟩:=A;⟨d,zr n,UC y z d.n,_,_,g,M,zt N g j n u p (Bf t) v,p.binds k⟩
def CN{T:wt}{o:lY}(n:Ez a.prog a.w a.K a.mg a.base T)(r:Ö m a.A)(h:(T.lookup b).map (λq=>q.2.2)=Z Á)(y:UA a (f::u) o)(g:((T.lookup b).all λq=>Xk q.1 m&&VV c q.2.1)=L:=by lk)(t:a.env.kindOf b=Z .globalImplicit:=by lk)(k:(b==("__debug__":Str))=D:=by lk)(v:l_ (f::u) a.env=(D,eval f a.env)::l_ u a.env:=by lk)(i:(R8 p (l_ u a.env)).any (·.1)=D:=by lk):UE a (.Call (.Name b B) (f::u) [] p) (oV Á c o):=by cases e:T.lookup b with|none=>rw[e]at h;cases h|some q=>rw[e]at h g;cases h;rw[VD,pi]at g;obtain rfl:=SE g.2;obtain⟨d,A,z,G,s,j,w⟩:=(n.h b q e).f;exact zu (n.h b q e).nx (G.mono (SW g.1)) r (Ĩ t) s j w y k v i
def CO{T:wt}{j:lY}(t:Ļ a.prog a.w a.K a.mg a.base c e T)(n:Ö ψ a.A)(g:(T.lookup b).map (λq=>q.2.2)=Z Á)(o:UE a f Φ)(s:UA a (y::u) j)(d:((T.lookup b).all λq=>Xk q.1 ψ&&VV m q.2.1)=L:=by lk)(k:MC a f b (y::u) B p (NQ f a.env):=by delta MC;lk)(r:l_ (y::u) a.env=(D,eval y a.env)::l_ u a.env:=by lk)(i:(R8 p (l_ u a.env)).any (·.1)=D:=by lk):UE a (.Call (.Attribute f b B) (y::u) [] p) (ie c Á m Φ j):=by cases h:T.lookup b with|none=>rw[h]at g;cases g|some q=>rw[h]at g d;cases g;rw[VD,pi]at d;obtain rfl:=SE d.2;exact zv (t.h b q h) n (SW d.1) o s k r i
def CP{d:Nat}{n:lY}(h:LX a.prog a.w a.K a.mg a.base c e ψ m Á)(g:Ö d a.A)(s:UA a (f::u) n)(k:ő c=b:=by lk)(o:Xk (ψ+1) d=L:=by lk)(q:a.env.kindOf b=Z .globalImplicit:=by lk)(j:(b==("__debug__":Str))=D:=by lk)(r:l_ (f::u) a.env=(D,eval f a.env)::l_ u a.env:=by lk)(i:(R8 p (l_ u a.env)).any (·.1)=D:=by lk):UE a (.Call (.Name b B) (f::u) [] p) (sU c Á m n):=by subst k;exact zw h g (SW o) (Ĩ q) s j r i
def NS(f g:û):û:=λS a=>mM (f S a) λu b=>match u with|.inl (.bl L)=>g b a|.inl (.bl D)=>Z (.ok (.inl (.bl D)) b)|_=>U
def LY{b:BoolOp}(h:UE a f Φ):UE a (.BoolOp b [f] p) Φ:=⟨DO h.h⟩
def LZ{g:û}(z:UE a f Φ)(w:UE a (.BoolOp .And (y::u) p) g):UE a (.BoolOp .And (f::y::u) p) (NS Φ g):=⟨λA s q Hf Q I⟨H,m,S,k,R,E,o⟩=>DP z.h w.h A s q Hf Q I ⟨H,m,S,k,R,E,OU.bind o λb P i h j B t n e v r=>by match b,r,e with|.inr _,_,e=>exact e.elim|.inl d,r,e=>cases d with
 |bl c=>cases c with|true=>exact⟨L,r,DW ⟨i,h,P,k,n,E.mono B t,e⟩⟩|false=>exact⟨D,r,DV (e i h j (.refl i) (I_ h) n (.bl D) rfl)⟩
 |_=>exact e.elim⟩⟩
structure Pr(P:on)(w:z_)(K:d_)(mg:Str->Option R)(base:M_)(k:Nat)(C:O)(m:Str)(lv:Nat)(F:Ñ):Prop where
 c:CK K k C
 h:m∉ċ k
 f:∃f fd ps,Fj K C m f/\ê P w K mg base ù lv f fd ps (Ŋ K F 1)/\é K fd ps []
structure Ő(P:on)(w:z_)(K:d_)(mg:Str->Option R)(base:M_)(k:Nat)(C:O)(T:IW):Prop where h:∀m e,T.lookup m=Z e->Pr P w K mg base k C m e.1 e.2.2
def Hn:Ő q o s Η P c e []:=⟨λ_ _ h=>by cases h⟩
def uT{T:IW}(h:Pr q o s Η P c e b m Ρ)(t:Ő q o s Η P c e T):Ő q o s Η P c e ((b,m,ψ,Ρ)::T):=⟨λx a z=>by
 rcases gp z with⟨rfl,rfl⟩|z;·exact h
 ·exact t.h x a z⟩
def zy(d:CK s c e)(N g:List Str)(i:Ø)(A:Am s e j b τ r)(k:BdQ b j τ g)(v:∀(h:R)(A:x_)(f:List Env)(a:g_)(H:Hp)(E:XK),Ö m (A.deeper (Uo j (ai τ) a.heap.objs.size r h))->Ħ (kY ù q o s Η P N j (ai τ) r h A f a H E).nox (bF τ) i)(w:Ρ=aQ N.length i:=by lk)(p:Ţ N g (ai τ)=L:=by lk)(t:1=g.length:=by lk)(u:noB c b=L:=by lk):Pr q o s Η P c e b (m+1) Ρ:=let⟨_,n⟩:=A.F;⟨d,GW u,_,_,g,A.t,D6 N g i w t n (Bf p) v,n.binds k⟩
def CQ{T:IW}(hT:Ő a.prog a.w a.K a.mg a.base c e T)(P:Ö m a.A)(n:(T.lookup b).map (λq=>q.2.2)=Z Ρ)(ho:FE a f A)(s:((T.lookup b).all λq=>Xk q.1 m)=L:=by lk)(z:MC a f b [] B p (NQ f a.env):=by delta MC;lk):FE a (.Call (.Attribute f b B) [] [] p) (cO c Ρ A):=by cases o:T.lookup b with|none=>rw[o]at n;cases n|some q=>
 rw[o]at n s;cases n;rw[VD]at s;have h:=hT.h b q o;obtain⟨i,fd,ps,hm,G,hb⟩:=h.f;refine dr (Br (m:=NQ f a.env) ho.h h.c.c hm (G.mono (SW s)) P hb .nil qd z) λσ H Q y E f=>⟨y,E,ï.bind f λd v H1 e1 r k=>?_⟩;by_cases t:V' c d=L;·rw[if_pos t]at k;dsimp only at k;obtain⟨w,rfl⟩:=LK t;obtain⟨g,C',dx,vs,rfl,u,hn,qq,l⟩:=r.objE;rw[wq h.c hn]at u;refine⟨g,dx,_,rfl,u,jN h.h,?_⟩;show Ŋ a.K q.2.2 1 [.ref g] H1 Q E0;refine⟨[.obj c w],.cons r .nil,rfl,?_⟩;match n:q.2.2 [.obj c w]with|none=>rw[n]at k;exact k.elim|some (.ok d')=>rw[n]at k;exact k|some (.exc j)=>rw[n]at k;exact k.elim
 ·rw[if_neg t]at k;exact k.elim
def SR.tbl{K:d_}{H t:Hp}{m:List O}{f:ä}{i:O}{o:Array R}(d:SR K H m f t)(h:t i=Z (.tbl o)):Í H (Ý H i (.tbl o))/\SR K (Ý H i (.tbl o)) m f t:=by
 have A:∀a∈m,a≠i:=λa j z=>by subst z;rcases d.cell j with⟨v,q⟩|⟨C,w,fs,q⟩<;>(rw[q]at h;cases h)
 have p:Í H (Ý H i (.tbl o)):=λb u g=>by
  by_cases e:b=i;·subst e;rw[ao];exact h.symm.trans (d.up _ _ g)
  ·rw[al e];exact g
 refine⟨p,d.len,d.nd,λa j=>by rw[al (A a j)];exact d.fr a j,λb u g=>?_,λn c B=>?_⟩
 · by_cases e:b=i;·subst e;rw[ao]at g;exact h.trans g
   ·rw[al e]at g;exact d.up _ _ g
 ·obtain⟨a,j,q⟩:=d.at' n c B;refine⟨a,j,?_⟩;match c,q with|.lst ds,⟨v,s,r⟩=>exact⟨v,s,S.mono p _ _ r⟩|.obj k fs,⟨C,w,y,s,r,P,E⟩=>exact⟨C,w,y,s,r,P.mono p (I_ m),E⟩
def IY(c:O)(q:Str)(K:d_)(F:Ā)(n:Nat):Sp:=λb a Q E=>Ĕ c q a/\Ŧ K F n b a Q E
def zC(N B:List Str)(fb:cu)(hF:Á=l4 N.length fb)(hn:m=B.length)(Fn:ĥ s j δ τ r Ψ)(Sc:eH N B (ai τ))(hb:∀(t:R)(A:x_)(n:List Env)(a:g_)(H:Hp)(E:XK),Ĕ e b H->Ö c (A.deeper (Uo δ (ai τ) a.heap.objs.size r t))->ļ (kY ù q o s Η P N δ (ai τ) r t A n a H E).nox (bF τ) fb):ê q o s Η P ù (c+1) r Ψ B (IY e b s Á m):=by
 subst hF hn;obtain⟨oc,od,kV,d',pm,an,t,ct,c',rfl,lk,a'⟩:=Fn.ex;refine xu lk a' Sc (λvs H Q E h=>?_) λA n a Hf vs Q E hr h=>?_;·obtain⟨_,H,g,S,y,i,d,hl,_⟩:=h;rw[d.length,hl]
 ·obtain⟨hT,H,g,S,y,i,d,hl,b⟩:=h;refine⟨_,(hb t A n a Hf E hT hr).h.nox,H,g,S,y.map Z++P_ (N.length-y.length) U,i,kh d,?_⟩;unfold l4 at b;match z:fb S (y.map Z++P_ (N.length-y.length) U)with|none=>rw[z]at b;exact b.elim|some (.exc k S1)=>rw[z]at b;exact b.elim|some (.rt u S1)=>rw[z]at b;exactλv H' m' w f p R' r'=>b v H' m' w f p R' r'|some (.nx ρ S1)=>rw[z]at b;exactλb' H' m' w f p R' _=>b .non H' m' w f p R' rfl
def zD{y:lY}(nx:NX Á)(G:ê a.prog a.w a.K a.mg a.base ù c r Ψ v (IY e b a.K Á m))(hT:Ĕ e b a.H₀)(hr:Ö c a.A)(hg:Gl a j)(hm:a.mg j=Z (.ref r))(hk:SU a.K (.ref r)=L)(hb:é a.K Ψ v [])(ha:UA a (f::u) y)(k:(j==("__debug__":Str))=D:=by lk)(he:l_ (f::u) a.env=(D,eval f a.env)::l_ u a.env:=by lk)(i:(R8 B (l_ u a.env)).any (·.1)=D:=by lk):UE a (.Call (.Name j p) (f::u) [] B) (oV Á m y):=⟨λf' s A Hf Q I⟨H,d,S,P,R,E,o⟩=>by
 obtain⟨q,t,h1,h2⟩:=hT.now I;obtain⟨w,R'⟩:=R.tbl h1;have T0:Ĕ e b (Ý H e (.tbl q)):=⟨q,t,ao,h2⟩;refine ot G hr hg hm hk hb .nil qd ha.h k he i f' s A Hf Q I ⟨_,d,S,P,R',E.mono w (I_ d),OU.bind (o.mono w (I_ d)) λus S1 H1 m1 n e1 p1 z g vs rs=>?_⟩;show IY e b a.K Á m (vs++[]) n Q E0;rw[Uc];by_cases h:us.length=m;·rw[if_pos h]at g;exact⟨(T0.mono e1).mono z.up,qW nx z rs h g⟩
 ·rw[if_neg h]at g;exact g.elim⟩
structure zE(P:on)(w:z_)(K:d_)(mg:Str->Option R)(base:M_)(Pt:O)(q:Str)(k:Nat)(C:O)(m:Str)(lv n:Nat)(F:Ā):Prop where
 c:CK K k C
 nx:NX F
 h:m∉ċ k
 f:∃f fd ps,Fj K C m f/\ê P w K mg base ù lv f fd ps (IY Pt q K F (n+1))/\é K fd ps []
def zF{z:Nat}{gs:lY}{pl:Sem Bool}(h:zE a.prog a.w a.K a.mg a.base e b c r j ψ m Á)(hT:Ĕ e b a.H₀)(hr:Ö z a.A)(hk:ψ<=z)(ho:UE a f Φ)(ha:UA a (y::u) gs)(ht:MC a f j (y::u) B p pl)(he:l_ (y::u) a.env=(D,eval y a.env)::l_ u a.env:=by lk)(a':(R8 p (l_ u a.env)).any (·.1)=D:=by lk):UE a (.Call (.Attribute f j B) (y::u) [] p) (ie c Á m Φ gs):=by have nx:=h.nx;obtain⟨o,fd,ps,hm,G,hb⟩:=h.f;refine⟨λf' s σ Hf Q I⟨H,g,S,ρ,R,E,f⟩=>?_⟩;obtain⟨ts,t,h1,h2⟩:=hT.now I;obtain⟨sm,R'⟩:=R.tbl h1;have T0:Ĕ e b (Ý H e (.tbl ts)):=⟨ts,t,ao,h2⟩;refine xt (z:=pl) ho.h h.c.c hm (G.mono hk) hr hb .nil qd ha.h he a' ht f' s σ Hf Q I ⟨_,g,S,ρ,R',E.mono sm (I_ g),OU.bind (f.mono sm (I_ g)) λk S1 H1 m1 c' e1 p1 R1 w v n=>?_⟩;have E:=E.mono sm (I_ g);match k,n,w with
 |.inl d,_,w=>exact w.elim|.inr n',⟨i,ha,hv⟩,w=>subst hv;dsimp only at w;match hs:S1[n']? with
 |none=>rw[hs]at w;exact w.elim|some (.lst ds)=>rw[hs]at w;exact w.elim|some (.obj k' fs)=>
 rw[hs]at w;dsimp only at w;by_cases A:k'=c
 · subst A;rw[if_pos rfl]at w;obtain⟨q,P,C',dx,vs,h1,h2,h3,h4⟩:=R1.at' n' _ hs;rw[ha]at P;cases P;rw[wq h.c h2]at h1;refine⟨i,dx,_,rfl,h1,jN h.h,H1,m1,S1,ρ,R1,E.mono e1 p1,OU.bind w λus S2 H2 m2 b' e2 p2 R2 o2 ws rs=>?_⟩;show IY e b a.K Á (m+1) (.ref i::(ws++[])) b' Q E0;rw[Uc];by_cases hl:us.length=m;·rw[if_pos hl]at o2;exact⟨((T0.mono e1).mono e2).mono R2.up,qW nx (f:=.inr n'::us) R2 ⟨.ref i,ws,rfl,⟨i,oP p2 ha,rfl⟩,rs⟩ (by rw[SD,hl]) o2⟩
   ·rw[if_neg hl]at o2;exact o2.elim
 ·rw[if_neg A]at w;exact w.elim
structure CS(P:on)(w:z_)(K:d_)(mg:Str->Option R)(base:M_)(Pt:O)(q:Str)(x:Str)(lv n:Nat)(F:Ā):Prop where
 nx:NX F
 f:∃f fd ps,ê P w K mg base ù lv f fd ps (IY Pt q K F n)/\mg x=Z (.ref f)/\SU K (.ref f)=L/\é K fd ps []
def CU{h:M_}(w:s.In h)(y:h.Ns H_ Η)(N f:List Str)(i:cu)(A:Af s j τ r)(k:LA j τ f)(v:∀(g:R)(A:x_)(d:List Env)(a:g_)(H:Hp)(E:XK),Ĕ e b H->Ö m (A.deeper (Uo j (ai τ) a.heap.objs.size r g))->ļ (kY ù q o s Η P N j (ai τ) r g A d a H E).nox (bF τ) i)(n:Á=l4 N.length i:=by lk)(t:Ţ N f (ai τ)=L:=by lk)(u:c=f.length:=by lk):CS q o s Η P e b j (m+1) c Á:=let⟨_,p⟩:=A.F;⟨zr n,_,_,f,zC N f i n u p (Bf t) v,UC w y A.a,A.k,p.binds k⟩
def CV(d:CK s c χ)(N g:List Str)(i:cu)(A:Am s χ δ j τ r)(k:BdQ j δ τ g)(w:∀(h:R)(A:x_)(f:List Env)(a:g_)(H:Hp)(E:XK),Ĕ e b H->Ö ψ (A.deeper (Uo δ (ai τ) a.heap.objs.size r h))->ļ (kY ù q o s Η P N δ (ai τ) r h A f a H E).nox (bF τ) i)(n:Á=l4 N.length i:=by lk)(t:Ţ N g (ai τ)=L:=by lk)(u:m+1=g.length:=by lk)(v:noB c j=L:=by lk):zE q o s Η P e b c χ j (ψ+1) m Á:=let⟨_,p⟩:=A.F;⟨d,zr n,GW v,_,_,g,A.t,zC N g i n u p (Bf t) w,p.binds k⟩
def CW{k:lY}(h:CS a.prog a.w a.K a.mg a.base e b j m c Á)(w:Ĕ e b a.H₀)(n:Ö ψ a.A)(v:UA a (f::u) k)(q:Xk m ψ=L:=by lk)(r:a.env.kindOf j=Z .globalImplicit:=by lk)(i:(j==("__debug__":Str))=D:=by lk)(s:l_ (f::u) a.env=(D,eval f a.env)::l_ u a.env:=by lk)(d:(R8 B (l_ u a.env)).any (·.1)=D:=by lk):UE a (.Call (.Name j p) (f::u) [] B) (oV Á c k):=let⟨_,_,_,G,o,g,t⟩:=h.f;zD h.nx (G.mono (SW q)) w n (Ĩ r) o g t v i s d
def CY{d:Nat}{i:lY}(h:zE a.prog a.w a.K a.mg a.base e b c r j ψ m Á)(v:Ĕ e b a.H₀)(n:Ö d a.A)(o:UE a f Φ)(t:UA a (y::u) i)(q:Xk ψ d=L:=by lk)(k:MC a f j (y::u) B p (NQ f a.env):=by delta MC;lk)(s:l_ (y::u) a.env=(D,eval y a.env)::l_ u a.env:=by lk)(g:(R8 p (l_ u a.env)).any (·.1)=D:=by lk):UE a (.Call (.Attribute f j B) (y::u) [] p) (ie c Á m Φ i):=zF h v n (SW q) o t k s g
def Ho(N B:List Str)(fb:cu)(hF:Ρ=NR N.length fb)(hn:c=B.length)(Fn:ĥ s j δ τ r Ψ)(Sc:eH N B (ai τ))(hb:∀(u:R)(A:x_)(t:List Env)(a:g_)(H:Hp)(E:XK),Ĕ e b H->Ö m (A.deeper (Uo δ (ai τ) a.heap.objs.size r u))->ļ (kY ù q o s Η P N δ (ai τ) r u A t a H E).nox (bF τ) fb):ê q o s Η P ù (m+1) r Ψ B (ų e b s Ρ c):=by
 subst hF hn;obtain⟨oc,od,kV,c',pm,an,u,ct,b',rfl,lk,a'⟩:=Fn.ex;refine xu lk a' Sc (λvs H Q E h=>?_) λA t a H vs Q E hr h=>?_;·obtain⟨_,y,f,hl,_⟩:=h;rw[f.length,hl]
 ·obtain⟨hT,y,f,hl,z⟩:=h;have g:=kh (v:=N) (uS (m:=[]) f);rw[SJ,E_]at g;refine⟨_,(hb u A t a H E hT hr).h.nox,H,[],[],_,⟨rfl,List.nodup_nil,(λ_ z=>by cases z),.refl H,(λ_ _ z=>by simp at z)⟩,g,?_⟩;unfold NR at z;have e0:(y.map λd=>Z (VT d:Uv))=y.map (Z∘VT):=rfl;rw[e0]at z;match w:fb [] (y.map (Z∘VT)++P_ (N.length-y.length) U)with|none=>rw[w]at z;exact z.elim|some (.exc n S)=>rw[w]at z;exact z.elim|some (.nx ρ S)=>rw[w]at z;exact z.elim|some (.rt (.inr _) S)=>rw[w]at z;exact z.elim|some (.rt (.inl d) S)=>rw[w]at z;exactλv H' m' Hf k p i r'=>z v Hf (k.trans i.up) (Ô.mono i.up _ _ r')
def Hq(d:UE a f Φ)(c:FE a y A)(b:R5 .IsNot y=D:=by lk):UT a (.Compare f [.IsNot] [y] p) (uB (kT kP Φ A)):=zq sk xO d c b
def zI{mb:Str->Option R}{CX:Ľ}{sp:Sp}{ns:List Int}(KX:s.In d.heap)(i':d.heap.Ns H_ Η)(w:d.heap.Ns builtinsNs mb)(w':∀j:Str,j≠"__name__"->mb j=TC j)(o':d.heap.NoLimit)(hg:d.gens=#[])(ha:d.heap.get? r=Z {cls:=.type "list",data:=.seq E.toArray})(hi:Yy E ns)(hl:ns.length<=sizeLine)(hr:Ö c Zg)(c':d.heap.get? χ=Z {cls:=.none,data:=.fields #[]})(v':Y0 d.heap χ)(y':s.lookup χ=U)(F:∀a':M_,s.In a'->a'.Ns H_ Η->ê q o s Η a' CX c e Ψ [j] sp)(g':∀(t:g_)(u:R),ZV t Ψ ⟨[u],[]⟩ [(j,u)])(u':∀H:Hp,ū s H r (ns.map V.int)->Ĕ χ b H->sp [.ref r] H (λv _=>v=.bl L) λ_ _ _=>False)(A':∀H f P,CX [] H d (λ_ _ _=>False) f P->False):Vf (y_ q o) Zg (.call (.ref e) ⟨[.ref r],[]⟩) (λk P=>k=.ok (.ret (.bool L))/\OldK d.heap P.heap/\P.os=d.os/\XO P.gens) d:=by
 have rv:=jz hi;have n':=hi.length;have k':r≠χ:=λz=>by rw[z,c']at ha;cases ha
 have f':∀H:Hp,H χ=Z (.tbl #[.str b 0])->(∀a,a≠χ->H a=U\/∃g xs,H a=Z (.frz g (.lst xs)))->ū s H r (ns.map V.int)->đ q o H d.heap->(∀a,H a≠U->a=r\/a=χ)->(H r≠U->s.lookup r=U)->Vf (y_ q o) Zg (.call (.ref e) ⟨[.ref r],[]⟩) (λk P=>k=.ok (.ret (.bool L))/\OldK d.heap P.heap/\P.os=d.os/\XO P.gens) d:=by
  intro H hT hO hS h' hA hK;have A:∀{a:O}{g:Obj},d.heap.get? a=Z g->H a=U->(Bj d.heap H).get? a=Z g:=λf n=>Bk f n;have t':∀{a:O}{g:Obj}{es:Array DictEntry}{ep:Nat},d.heap.get? a=Z g->g.data=.dict es ep->H a=U:=λ{a g es ep}f p=>by cases i:H a with|none=>rfl|some u=>
    rcases hA a (by rw[i];simp)with rfl|rfl;·rw[ha]at f;cases f;have d':Data.seq E.toArray _=UP es ep:=p;cases d'
    ·rw[c']at f;cases f;have d':Ul #[]=UP es ep:=p;cases d'
  have b':∀{a:O}{m:Str->Option R},d.heap.Ns a m->(Bj d.heap H).Ns a m:=λ{a m}⟨g,es,ep,f,p,k⟩=>⟨g,es,ep,A f (t' f p),p,k⟩;have l':s.In (Bj d.heap H):=λa g f=>A (KX a g f) (by cases i:H a with|none=>rfl|some u=>
    rcases hA a (by rw[i];simp)with rfl|rfl;·rw[hK (by rw[i];simp)]at f;cases f
    ·rw[y']at f;cases f);have hM:Mod s Η (Bj d.heap H):=⟨l',b' i',⟨mb,b' w,w'⟩,let⟨mc,h1,h2⟩:=o';⟨mc,b' h1,h2⟩⟩;have e0:ĸ q o s Η (Bj d.heap H) Zg [] d H:=⟨rfl,hM,λa g f=>E7 f,Xj (wY _ _),trivial,λa w=>absurd (show a∈([]:List O)from w) (by simp),h',.of_eq hg⟩;refine TX ((F _ l' (b' i')).run Zg [] d H ⟨[.ref r],[]⟩ [.ref r] [.ref r] _ _ hr e0 (g' d (.ref r)) (.cons rfl .nil) (u' H hS ⟨_,0,hT,rfl⟩)) λk P h=>?_;cases k with|error f=>exact(A' H f P h).elim|ok fl=>cases fl with|next=>exact SK h|brk=>exact SK h|cont=>exact SK h|ret u=>
    obtain⟨v,H',os,p',un,e',r',i⟩:=h;have q':v=.bl L:=i;subst q';obtain rfl:u=R9 L:=r';have kp:∀a g,a≠χ->d.heap.get? a=Z g->P.heap.get? a=Z g:=λa g B f=>by cases i:H a with|none=>exact un.keep a g f i (by intro z;exact absurd (show a∈([]:List O)from z) (by simp)) (by simp)|some u=>
      rcases hO a B with z|⟨ob,xs,z⟩;·rw[i]at z;cases z
      ·have z2:=un.frzs a ob _ z;obtain⟨e1,_⟩:=h' a _ z;obtain⟨e2,_⟩:=e' a _ z2;rw[f]at e1;cases e1;exact e2
    obtain⟨B',x'⟩:=un.tbls χ _ hT;obtain⟨qs,m',_⟩:=e' χ _ x';refine⟨rfl,⟨λa g f=>?_,λa g f=>?_⟩,os,p'⟩
    · by_cases B:a=χ;·subst B;rw[c']at f;cases f;exact .inr (.inl ⟨v',rfl,#[],qs,rfl,by rw[m'];simp⟩)
      ·exact .inl (kp a g B f)
    · by_cases B:a=χ;·subst B;exact⟨_,m'⟩
      ·exact⟨g,kp a g B f⟩
 have ŝ:∀H:Hp,ì q o H d.heap χ (.tbl #[.str b 0]):=λH=>⟨#[],c',trivial,λpos v hv=>by cases hv⟩;cases hk:s.lookup r with
 |some g=>
  have f:=KX r g hk;rw[ha]at f;cases f;refine f' (λa=>if a=χ then Z (.tbl #[.str b 0])else U) (if_pos rfl) (λa w=>.inl (if_neg w)) (.inr ⟨_,E.toArray,_,hk,rfl,rfl,rfl,by rw[G_,n'];exact hl,by simpa using rv⟩) (λa u z=>?_) (λa z=>?_) λz=>absurd (if_neg k') z
  · by_cases w:a=χ;·have z':=(if_pos w).symm.trans z;cases z';subst w;exact ŝ _
    ·have z':=(if_neg w).symm.trans z;cases z'
  · by_cases w:a=χ;·exact .inr w
    ·exact absurd (if_neg w) z|none=>
  refine f' (λa=>if a=χ then Z (.tbl #[.str b 0])else if a=r then Z (.frz {cls:=.type "list",data:=.seq E.toArray} (.lst (ns.map V.int)))else U) (if_pos rfl) (λa w=>?_) (.inl ⟨{cls:=.type "list",data:=.seq E.toArray},(if_neg k').trans (if_pos rfl)⟩) (λa u z=>?_) (λa z=>?_) λ_=>hk
  · by_cases y:a=r;·exact .inr ⟨_,_,by rw[if_neg w,if_pos y]⟩
    ·exact .inl (by rw[if_neg w,if_neg y])
  · by_cases w:a=χ;·have z':=(if_pos w).symm.trans z;cases z';subst w;exact ŝ _
    · have z1:=(if_neg w).symm.trans z;by_cases y:a=r;·have z':=(if_pos y).symm.trans z1;cases z';subst y;exact⟨ha,by rw[E_];exact hl,E,_,rv,ha⟩
      ·have z':=(if_neg y).symm.trans z1;cases z'
  · by_cases w:a=χ;·exact .inr w
    · by_cases y:a=r;·exact .inl y
      ·exact absurd (by rw[if_neg w,if_neg y]) z
def CZ{l:YG}{XP:(Str->Option R)->M_->Prop}{P:z_->M_->Prop}{d:DefRec}{K:W7->d_}{CX:z_->Ľ}{sp:z_->Sp}(hn:l.most=Z c)(b':c<=sizeLine)(d':d.params.defaults=[])(hr:Ö m Zg)(hY:∀(w:z_)(h:M_),P w h->(K w.params).In h)(e':∀(w:z_)(h:M_),P w h->h.get? e=Z {cls:=.none,data:=.fields #[]}/\Y0 h e/\(K w.params).lookup e=U)(F:∀(w:z_)(r:Str->Option R)(A:O)(h:M_),(K w.params).In h->h.Ns H_ r->r d.name=Z (.ref A)->∃E:SO,(∀(s:g_)(u:R),ZV s E ⟨[u],[]⟩ [(b,u)])/\∀k:M_,(K w.params).In k->k.Ns H_ r->ê l.prog w (K w.params) r k (CX w) m A E [b] (sp w))(a':∀(w:z_)(H:Hp)(a:O)(z:List Int),z.length<=c->ū (K w.params) H a (z.map V.int)->Ĕ e j H->sp w [.ref a] H (λi _=>i=.bl L) λ_ _ _=>False)(f':∀(w:z_)(H:Hp)(s:g_)(g:R)(B:g_),CX w [] H s (λ_ _ _=>False) g B->False):aaV q v XP P l.row.toRowW d [] (λf vs=>aaF f vs):=by refine Att.attach_call hn d' λw g' t r mb A o pm cd i' a vs z G Y ho hd h' c' y p n hg=>?_;have KX:=hY w _ Y;obtain⟨E,hb,hF⟩:=F w r A _ KX G.T.g c';obtain⟨t1,t2,t3⟩:=e' w _ Y;exact zI KX G.T.g G.T.b G.T.builtins G.T.nolimit hg y p (RZ n b') hr t1 t2 t3 hF hb (λH hS hT=>a' w H a z n hS hT) λH g B=>f' w H t g B
def C0{g:Ø}(h:Ο ζ=Z (.ok L)):aY Ο Τ g ζ=Τ ζ:=by unfold aY;rw[h];rfl
def aR{p:z->Bool}{l:List z}(h:l.all p=L){x:z}(a:x∈l):p x=L:=S3.mp h x a
end FD
variable{δ:Str}{Ι:FD.þ}{η:FD.ä}{Φ:FD.û}{Á:FD.Ā}
namespace G
open L2 FD
def Ï(i:Nat):S7:=p9_.main.body.getD i (.Pass ⟨0,0,0,0⟩)
section
variable{X:C}{a b c o e:u_}{es:List u_}{fa fb fc fo:Ò}{ga:á}{pos p pt apos cpos:Pos}
def L0(d:FE X a fa)(c:FE X b fb):FE X (.BinOp a .Add b pos) (I cH fa fb):=vY ŷ Ki d c
def L1(d:FE X a fa)(c:FE X b fb):FE X (.BinOp a .Add b pos) (I gJ fa fb):=vY KS KT d c
def L3(d:FE X a fa)(c:FE X b fb):FE X (.BinOp a .Sub b pos) (I xM fa fb):=vY JA OB d c
def L4(d:FE X a fa)(c:FE X b fb):FE X (.BinOp a .Mult b pos) (I lJ fa fb):=vY JB OC d c
def L5(d:FE X a fa)(c:FE X b fb):FE X (.BinOp a .Mod b pos) (I jx fa fb):=vY JC OD d c
def Hr(d:FE X a fa)(c:FE X b fb):FE X (.BinOp a .FloorDiv b pos) (I jF fa fb):=vY Fe Kj d c
def L6(c:X.A.units+64<cLine)(f:FE X a fa)(e:FE X b fb)(d:R5 .Eq b=D:=by lk):FT X (.Compare a [.Eq] [b] pos) (fB (I ß fa fb)):=jA (FY c) F0 f e d
def L7(c:X.A.units+64<cLine)(f:FE X a fa)(e:FE X b fb)(d:R5 .NotEq b=D:=by lk):FT X (.Compare a [.NotEq] [b] pos) (fB (I č fa fb)):=jA (Ku c) Kv f e d
def L8(e:FE X a fa)(d:FE X b fb)(c:R5 .Lt b=D:=by lk):FT X (.Compare a [.Lt] [b] pos) (fB (I ltX fa fb)):=jA Kw Kx e d c
def L9(e:FE X a fa)(d:FE X b fb)(c:R5 .Gt b=D:=by lk):FT X (.Compare a [.Gt] [b] pos) (fB (I ű fa fb)):=jA Oi (OF _) e d c
def Ma(e:FE X a fa)(d:FE X b fb)(c:R5 .Is b=D:=by lk):FT X (.Compare a [.Is] [b] pos) (fB (I Ą fa fb)):=jA DS Kl e d c
def Hs(e:FE X a fa)(d:FE X b fb)(c:R5 .IsNot b=D:=by lk):FT X (.Compare a [.IsNot] [b] pos) (fB (I kP fa fb)):=jA sk xO e d c
def Ht(c:X.A.units<cLine)(f:FE X a fa)(e:FE X b fb)(d:R5 .Eq b=D:=by lk):FT X (.Compare a [.Eq] [b] pos) (fB (I NF fa fb)):=jA (OJ c) OK f e d
def Mb(e:FE X a fa)(d:FE X b fb)(c:R5 .In b=D:=by lk):FT X (.Compare a [.In] [b] pos) (fB (I ō fa fb)):=jA QF QG e d c
def zJ(c:X.A.units+64<cLine)(f:FE X a fa)(e:FE X b fb)(d:R5 .NotIn b=D:=by lk):FT X (.Compare a [.NotIn] [b] pos) (fB (I kJ fa fb)):=jA (BS c) BU f e d
def Mc(c:X.A.units+64<cLine)(f:FE X a fa)(e:FE X b fb)(d:R5 .Eq b=D:=by lk):FE X (.Compare a [.Eq] [b] pos) (I ß fa fb):=lI (FY c) F0 f e d
def Md(e:FE X a fa)(d:FE X b fb)(c:R5 .Lt b=D:=by lk):FE X (.Compare a [.Lt] [b] pos) (I ltX fa fb):=lI Kw Kx e d c
def Me(e:FE X a fa)(d:FE X b fb)(c:R5 .LtE b=D:=by lk):FE X (.Compare a [.LtE] [b] pos) (I ī fa fb):=lI O1 O2 e d c
def Mf(e:FE X a fa)(d:FE X b fb)(c:R5 .Is b=D:=by lk):FE X (.Compare a [.Is] [b] pos) (I Ą fa fb):=lI DS Kl e d c
def Hu(e:FE X a fa)(d:FE X b fb)(c:R5 .IsNot b=D:=by lk):FE X (.Compare a [.IsNot] [b] pos) (I kP fa fb):=lI sk xO e d c
def Mg(e:FE X a fa)(d:FE X b fb)(c:R5 .In b=D:=by lk):FE X (.Compare a [.In] [b] pos) (I ō fa fb):=lI QF QG e d c
def zK(e:FE X a fa)(d:FE X b fb)(c:R5 .NotIn b=D:=by lk):FE X (.Compare a [.NotIn] [b] pos) (I qh fa fb):=lI Ņ xQ e d c
def Mh(g:X.mg "isinstance"=U)(f:X.mg "int"=U)(i:FE X a fa)(h:X.env.kindOf (b_ "isinstance")=Z .globalImplicit:=by lk)(e:X.env.kindOf (b_ "int")=Z .globalImplicit:=by lk)(c:l_ [a,.Name (b_ "int") pt] X.env=(D,eval a X.env)::l_ [.Name (b_ "int") pt] X.env:=by lk)(b:l_ [.Name (b_ "int") pt] X.env=(D,eval (.Name (b_ "int") pt) X.env)::l_ [] X.env:=by lk)(d:(R8 pos (l_ [.Name (b_ "int") pt] X.env)).any (·.1)=D:=by lk):FE X (.Call (.Name "isinstance" p) [a,.Name (b_ "int") pt] [] pos) (f1 (i7 oJ) fa):=um (T:="int") Gk K3 (by decide+kernel) (by lk) h g e f i c b d
def Mi(g:X.mg "isinstance"=U)(f:X.mg "str"=U)(i:FE X a fa)(h:X.env.kindOf (b_ "isinstance")=Z .globalImplicit:=by lk)(e:X.env.kindOf (b_ "str")=Z .globalImplicit:=by lk)(c:l_ [a,.Name (b_ "str") pt] X.env=(D,eval a X.env)::l_ [.Name (b_ "str") pt] X.env:=by lk)(b:l_ [.Name (b_ "str") pt] X.env=(D,eval (.Name (b_ "str") pt) X.env)::l_ [] X.env:=by lk)(d:(R8 pos (l_ [.Name (b_ "str") pt] X.env)).any (·.1)=D:=by lk):FE X (.Call (.Name "isinstance" p) [a,.Name (b_ "str") pt] [] pos) (f1 (i7 qi) fa):=um (T:="str") FQ Kr (by decide+kernel) (by lk) h g e f i c b d
def C1(g:X.mg "isinstance"=U)(f:X.mg "tuple"=U)(i:FE X a fa)(h:X.env.kindOf (b_ "isinstance")=Z .globalImplicit:=by lk)(e:X.env.kindOf (b_ "tuple")=Z .globalImplicit:=by lk)(c:l_ [a,.Name (b_ "tuple") pt] X.env=(D,eval a X.env)::l_ [.Name (b_ "tuple") pt] X.env:=by lk)(b:l_ [.Name (b_ "tuple") pt] X.env=(D,eval (.Name (b_ "tuple") pt) X.env)::l_ [] X.env:=by lk)(d:(R8 pos (l_ [.Name (b_ "tuple") pt] X.env)).any (·.1)=D:=by lk):FE X (.Call (.Name "isinstance" p) [a,.Name (b_ "tuple") pt] [] pos) (f1 (i7 sy) fa):=um (T:="tuple") FR BG (by decide+kernel) (by lk) h g e f i c b d
def Hv(g:X.mg "isinstance"=U)(f:X.mg "bool"=U)(i:FE X a fa)(h:X.env.kindOf (b_ "isinstance")=Z .globalImplicit:=by lk)(e:X.env.kindOf (b_ "bool")=Z .globalImplicit:=by lk)(c:l_ [a,.Name (b_ "bool") pt] X.env=(D,eval a X.env)::l_ [.Name (b_ "bool") pt] X.env:=by lk)(b:l_ [.Name (b_ "bool") pt] X.env=(D,eval (.Name (b_ "bool") pt) X.env)::l_ [] X.env:=by lk)(d:(R8 pos (l_ [.Name (b_ "bool") pt] X.env)).any (·.1)=D:=by lk):FE X (.Call (.Name "isinstance" p) [a,.Name (b_ "bool") pt] [] pos) (f1 (i7 dH) fa):=um (T:="bool") BE FX (by decide+kernel) (by lk) h g e f i c b d
def oW(a:FE X o fo)(b:FA X (e::es) ga)(h:Ű X o "startswith" e es apos cpos:=by exact⟨by lk,by lk,by lk,by lk,by lk⟩):FE X (.Call (.Attribute o "startswith" apos) (e::es) [] cpos) (fM (qj Sk) fo ga):=qS PySem.F.slot_str_startswith PySem.F.type_str_startswith OH Eb a b h
def sV(a:FE X o fo)(b:FA X (e::es) ga)(h:Ű X o "endswith" e es apos cpos:=by exact⟨by lk,by lk,by lk,by lk,by lk⟩):FE X (.Call (.Attribute o "endswith" apos) (e::es) [] cpos) (fM (qj Xh) fo ga):=qS PySem.F.slot_str_endswith PySem.F.type_str_endswith OI Eb a b h
def C2(a:FE X o fo)(b:FA X (e::es) ga)(h:Ű X o "split" e es apos cpos:=by exact⟨by lk,by lk,by lk,by lk,by lk⟩):FE X (.Call (.Attribute o "split" apos) (e::es) [] cpos) (fM (g9) fo ga):=qS Wn PySem.F.type_str_split BH F1 a b h
def Hw(a:FE X o fo)(b:FA X (e::es) ga)(h:Ű X o "join" e es apos cpos:=by exact⟨by lk,by lk,by lk,by lk,by lk⟩):FE X (.Call (.Attribute o "join" apos) (e::es) [] cpos) (fM (v7) fo ga):=qS PySem.F.slot_str_join PySem.F.type_str_join F2 Kz a b h
def qX(a:FE X o fo)(b:FA X (e::es) ga)(h:Ű X o "partition" e es apos cpos:=by exact⟨by lk,by lk,by lk,by lk,by lk⟩):FE X (.Call (.Attribute o "partition" apos) (e::es) [] cpos) (fM (oF) fo ga):=qS X9 PySem.F.type_str_partition F3 KC a b h
def C3(a:FE X o fo)(b:FA X (e::es) ga)(h:Ű X o "strip" e es apos cpos:=by exact⟨by lk,by lk,by lk,by lk,by lk⟩):FE X (.Call (.Attribute o "strip" apos) (e::es) [] cpos) (fM (lK) fo ga):=qS PySem.F.slot_str_strip PySem.F.type_str_strip BO F9 a b h
def C4(a:FE X o fo)(b:FA X (e::es) ga)(h:Ű X o "rfind" e es apos cpos:=by exact⟨by lk,by lk,by lk,by lk,by lk⟩):FE X (.Call (.Attribute o "rfind" apos) (e::es) [] cpos) (fM (NE aa0) fo ga):=qS PySem.F.slot_str_rfind PySem.F.type_str_rfind BF Kq a b h
def Mj(a:FE X o fo)(b:FA X (e::es) ga)(h:Ű X o "index" e es apos cpos:=by exact⟨by lk,by lk,by lk,by lk,by lk⟩):FE X (.Call (.Attribute o "index" apos) (e::es) [] cpos) (fM KU fo ga):=qS PySem.F.slot_str_index PySem.F.type_str_index KW OR a b h
def dN{x:Str}(h:FE X (.Name x p) fa):FE X (.Name x p) fa:=h
def dC{k:Const}{n:Nat}(h:FE X (.Constant k n p) fa):FE X (.Constant k n p) fa:=h
def dA(h:FA X es ga):FA X es ga:=h
def dK{x:Str}{a:List Vw}(h:FE X (.Call (.Name x p) es a pos) fa):FE X (.Call (.Name x p) es a pos) fa:=h
def dM{x:Str}{a:List Vw}(h:FE X (.Call (.Attribute o x p) es a pos) fa):FE X (.Call (.Attribute o x p) es a pos) fa:=h
def dB{c:Operator}(h:FE X (.BinOp a c b pos) fa):FE X (.BinOp a c b pos) fa:=h
def dQ{b:List J'}(h:FE X (.Compare a b es pos) fa):FE X (.Compare a b es pos) fa:=h
def dT{fb:ë}(h:FT X a fb):FT X a fb:=h
def dW{fb:ë}(h:FW X a fb):FW X a fb:=h
def dE(h:FE X a fa):FE X a fa:=h
def dSs{a:List S7}{f:Ø}(h:Ħ X a f):Ħ X a f:=h
def dS{a:S7}{f:Ø}(h:FS X a f):FS X a f:=h
end
set_option hygiene false
local macro_rules|`(tactic|walk_at$y:str)=>do
 let A:=fun(c:Char)=>match c.toNat with|63=>`(?_)|108=>`(by lk)|114=>`(by room)|107=>`(by kernel_rfl!)|97=>`(by assumption)|100=>`(#v[])|_=>`(_)
 let B:=fun(f:Char->Lean.MacroM Lean.Term)(u:List String)=>do
  let a<-(u.getD 1 "").toList.toArray.mapM f
  pure (Lean.Syntax.mkApp (Lean.mkIdent (u.getD 0 "").toName) a)
 let C:=fun(c:Char)=>do
  match ("g Ĩ l|m DY ??|v J0 ??|j sS llll|e LP ??".splitOn "|").find? (fun s=>s.front==c) with
  |none=>A c
  |some s=>
   let u:=s.splitOn " "
   let e<-B A u.tail
   if (u.getD 0 "").length==2 then `(by with_unfolding_all exact $e) else pure e
 let l:=y.getString.splitOn "|"
 if l.length==1 then
  let a<-("dN|Os _lk|Ot _lk|Pf rk|Pg rk;dC|JU|JW|Ou|JV;dA|DZ|xG ??;dK|~a|Cr rrk?|zm rrrk?|yt ?lg?g??|wc lg?g??|zi rrrk?|Kn g??|BI g??|B7 g??|Gz g??|Ko lg??|GB lg??|Li lg??|K5 lg??|K7 lg??|Mh ???|Mi ???|C1 ???|Hv ???;dM|oW ??|sV ??|C2 ??|Hw ??|qX ??|C3 ??|C4 ??|Mj ??|BN ??|BK ??|CQ rrk?;dB|L0 ??|L1 ??|L3 ??|L4 ??|L5 ??|Hr ??;dQ|Mc ???|Md ??|Me ??|Mf ??|Hu ??|Mg ??|zK ??;dT|L6 ???|L7 ???|L8 ??|L9 ??|Ma ??|Hs ??|Ht ???|Mb ??|zJ ???|FW.ft m|FW.ft v|J4 ?|JX ?;dW|DY ??|J0 ??|Fy ?|JZ ?;dE|Lz ??|Ka ?|J9 ?|J5 ?|J6 ??|Ov ??|J7 ?|Kk ?|Ow ???|Km ???|Ga ???|Ph ???|Pk ???|GV r?;dSs|Fz|FB ?|Cu ??|Bx ??;dS|Kb ?|Oy ???|By|FF ?|Pj ???k|GL ?|KI l??|GN ???|Cv ???;|Hq ??|FM|FN ?|Cs|Ct ?|~b|xI g??|xJ g??|Kf ?|BM g??|Gx g??|FI.toG ?|Cw ?|KG|Gg|Gh ?|BW ??|KZ ?|OZ l???|GP ?j|B6 lj??|GM ?|GO ???;+|~c|MA.no al|Ö.units a|Ö.units0 a|PassesOwn.never|PassesOwn.leaving;|G9|Ha ?|CG ??|He ?|Hb ?|LR ?|Pp ???|CH ???|Ry g??|Hj ?|Hh r??|LS ?|GX ?|Hd j|LM|GZ ??|LV ???|LW ???|GY ?|UW.ut e|LP ??|LO ?|LN ?|CO rrk??|CN rrk?|CP rr?|CY rrr??|CW rrr?|LY ?|LZ ??".splitOn ";").toArray.mapM fun t=>do
   let w:=Lean.Syntax.mkStrLit t
   let w<-`(tactic|walk_at$w:str)
   match (t.splitOn "|").getD 0 "" with
   |"+"=>pure w|""=>`(tactic|with_reducible $w:tactic)
   |d=>
    let d:=Lean.mkIdent d.toName
    `(tactic|with_reducible((fail_if_success(fail_if_success refine $d ?_));$w:tactic))
  `(tactic|(first $[|$a:tactic]*)<;>walk_at"x")
 else
  let a<-l.tail.toArray.mapM fun s=>match s with
   |"~a"=>`(tactic|refine zn (v:=["note"]) (by room) (by room) (by room) (by room) (by room) ?_ ?_)|"~b"=>`(tactic|intro _ _ _ _)|"~c"=>`(tactic|assumption)
   |_=>do
   let e<-B C (s.splitOn " ")
   `(tactic|refine $e)
  `(tactic|first $[|$a:tactic]*)
set_option hygiene true
local macro_rules|`(tactic|fin2)=>`(tactic|(intros;(conv=>arg 2;whnf);walk_at"x"))
def CC:Ew:=[cN "all",cN "any",cN "bool",cN "enumerate",cN "int",cN "isinstance",cN "len",cN "max",cN "min",cN "range",cN "set",cN "sorted",cN "str",cN "tuple",cN "zip",cI "ASK_HOUSE" 1,cI "ASK_ORIGIN" 3,cI "ASK_PARTS" 4,cI "ASK_PATH" 2,cI "ASK_SAFE" 0,cS "FIGURES" "0123456789",cI "GIVEN_HOUSE" 2,cI "GIVEN_LASTS" 5,cI "GIVEN_NAME" 0,cI "GIVEN_PARTS" 8,cI "GIVEN_PATH" 3,cI "GIVEN_REACH" 7,cI "GIVEN_SAFE" 6,cI "GIVEN_UNTIL" 4,cI "GIVEN_WORTH" 1,cS "LABEL_SIGNS" "abcdefghijklmnopqrstuvwxyz0123456789-",cI "LARGEST_ROOM" 20,cI "LAST_MOMENT" 9999,cI "LONGEST_LABEL" 8,cI "LONGEST_NOTE_NAME" 10,cI "LONGEST_PATH" 20,cI "LONGEST_WORTH" 12,cI "MOST_FIGURES" 4,cI "MOST_LABELS" 5,cI "MOST_NOTES" 20,cI "MOST_RULES" 8,cI "NOTE_ENDS" 5,cI "NOTE_EXACT" 3,cI "NOTE_HOUSE" 2,cI "NOTE_MADE" 8,cI "NOTE_NAME" 0,cS "NOTE_NAME_SIGNS" "abcdefghijklmnopqrstuvwxyzABCDEFGHIJKLMNOPQRSTUVWXYZ0123456789-_",cI "NOTE_PARTS" 10,cI "NOTE_PATH" 4,cI "NOTE_REACH" 7,cI "NOTE_SAFE" 6,cI "NOTE_USED" 9,cI "NOTE_WORTH" 1,cS "NO_WORTH_SIGNS" ";,=",cS "PATH_SIGNS" "abcdefghijklmnopqrstuvwxyz0123456789-_./"]
def qL:Str:="sent.<locals>.<lambda>"
section
variable{P:on}{w:z_}{K:d_}{mg:Str->Option R}{base h:M_}{f:O}{Pt:O}(XI:K.In h)(Gn:h.Ns H_ mg)(M:MA mg CC)(bi:LG K mg){Ca:O}(cka:CK K 0 Ca)
include XI Gn M bi cka
def T0:bS:=[]
def TL0:bS:=[]
def TW0:wt:=[]
def Ps:IW:=[]
def Pu:wt:=[]
def aS:Ø:=(aI (aY (ÿ (bX (fB (f1 (i7 oJ) (Y 0)))) (fB (f1 (i7 dH) (Y 0)))) (aJ (fC (.bl D))) í) (aJ (ij (I ī (Y 1) (Y 0)) (I ī (Y 0) (Y 2)))))
def aE:Ñ:=aQ 3 aS
def T1:bS:=("is_whole_number",1,["thing","least","most"],aE)::T0
theorem jP(A:Af K "is_whole_number" (Ï 11) f)(t:HA P w K mg base T0):HA P w K mg base T1:=ah (aq XI Gn ["thing","least","most"] ["thing","least","most"] aS A aK (by delta aS;fin2)) t
def gQ:Ø:=(aY (bX (fB (ab aE 3 (dP (Y 0) (X 0) (X 20))))) gh í)
def bN:Ñ:=aQ 1 gQ
def T2:bS:=("need_room",2,["thing"],bN)::T1
theorem qY(A:Af K "need_room" (Ï 121) f)(t:HA P w K mg base T1):HA P w K mg base T2:=ah (aq XI Gn ["thing"] ["thing"] gQ A aK (by delta gQ;fin2)) t
def iz:Ø:=(aI (aY (bX (fB (f1 (i7 qi) (Y 0)))) (aJ (fC (.bl D))) í) (aI (aY (ÿ (fB (I ltX (â gZ (az (Y 0))) (Y 2))) (fB (I ű (â gZ (az (Y 0))) (Y 3)))) (aJ (fC (.bl D))) í) (aJ (â mO (az (bY [("signs",1)] (cV (Y 0)) U (I ō (Y 0) (Y 1))))))))
def dj:Ñ:=aQ 4 iz
def T3:bS:=("is_text_of",1,["thing","signs","least","most"],dj)::T2
theorem oX(A:Af K "is_text_of" (Ï 10) f)(t:HA P w K mg base T2):HA P w K mg base T3:=ah (aq XI Gn ["thing","signs","least","most"] ["thing","signs","least","most"] iz A aK (by delta iz;fin2)) t
def ki:Ø:=(aI (aY (bX (fB (ab dj 4 (iZ (Y 0) (Ð "abcdefghijklmnopqrstuvwxyz0123456789-") (X 1) (X 8))))) (aJ (fC (.bl D))) í) (aJ (ij (NC (fM (qj Sk) (Y 0) (az (Ð "-")))) (NC (fM (qj Xh) (Y 0) (az (Ð "-")))))))
def nQ:Ñ:=aQ 1 ki
def T4:bS:=("is_label",2,["thing"],nQ)::T3
theorem sW(A:Af K "is_label" (Ï 19) f)(t:HA P w K mg base T3):HA P w K mg base T4:=ah (aq XI Gn ["thing"] ["thing"] ki A aK (by delta ki;fin2)) t
def l7:Ø:=(aI (aY (bX (fB (f1 (i7 qi) (Y 0)))) (aJ (fC (.bl D))) í) (aI (bW 1 (fM (g9) (Y 0) (az (Ð ".")))) (aI (aY (ÿ (fB (I ű (â gZ (az (Y 1))) (X 5))) (bX (fB (â mO (az (bY [] (cV (Y 1)) U (ab nQ 1 (az (Y 0))))))))) (aJ (fC (.bl D))) í) (aJ (NC (ab dj 4 (iZ (I Ì (Y 1) (f1 D7 (X 1))) (Ð "0123456789") (X 1) (X 8))))))))
def bC:Ñ:=aQ 2 l7
def T5:bS:=("is_name",3,["thing"],bC)::T4
theorem ww(A:Af K "is_name" (Ï 20) f)(t:HA P w K mg base T4):HA P w K mg base T5:=ah (aq XI Gn ["thing","parts"] ["thing"] l7 A aK (by delta l7;fin2)) t
def l8:Ø:=(aI (aY (bX (fB (f1 (i7 qi) (Y 0)))) (aJ (fC (.bl D))) í) (aI (aY (fB (fM (qj Sk) (Y 0) (az (Ð "*.")))) (aJ (ab bC 1 (az (wQ (Y 0) (cY (X 2)) fL)))) í) (aI (aY (fB (fM (qj Sk) (Y 0) (az (Ð "!")))) (aJ (ij (I ō (Ð ".") (Y 0)) (ab bC 1 (az (wQ (Y 0) (cY (X 1)) fL))))) í) (aJ (ab bC 1 (az (Y 0)))))))
def qZ:Ñ:=aQ 1 l8
def T6:bS:=("is_rule",4,["thing"],qZ)::T5
theorem wx(A:Af K "is_rule" (Ï 21) f)(t:HA P w K mg base T5):HA P w K mg base T6:=ah (aq XI Gn ["thing"] ["thing"] l8 A aK (by delta l8;fin2)) t
def kj:Ø:=(aI (aY (ÿ (bX (fB (f1 (i7 sy) (Y 0)))) (fB (I ű (â gZ (az (Y 0))) (X 8)))) (aJ (fC (.bl D))) í) (aI (aY (bX (fB (â mO (az (bY [] (cV (Y 0)) U (ab qZ 1 (az (Y 0)))))))) (aJ (fC (.bl D))) í) (aJ (â mO (az (bY [("thing",0)] (λa=>Õ ((bt (X 1) (â gZ (az (Y 0)))) a) Be) U (I ltX (I Ì (Y 1) (I xM (Y 0) (X 1))) (I Ì (Y 1) (Y 0)))))))))
def cp:Ñ:=aQ 1 kj
def T7:bS:=("is_table",5,["thing"],cp)::T6
theorem sX(A:Af K "is_table" (Ï 22) f)(t:HA P w K mg base T6):HA P w K mg base T7:=ah (aq XI Gn ["thing"] ["thing"] kj A aK (by delta kj;fin2)) t
def el:Ø:=(aY (bX (fB (ab cp 1 (az (Y 0))))) gh í)
def aL:Ñ:=aQ 1 el
def T8:bS:=("need_table",6,["thing"],aL)::T7
theorem oY(A:Af K "need_table" (Ï 24) f)(t:HA P w K mg base T7):HA P w K mg base T8:=ah (aq XI Gn ["thing"] ["thing"] el A aK (by delta el;fin2)) t
def bT:cu:=(dt (l0 (aD (ab aL 1 (az (Y 1))))) (dt (l0 (aD (ab bN 1 (az (Y 2))))) (dt (l0 (aD (ab bN 1 (az (Y 3))))) (dt (qV 0 0 (iS 0) (aD (Y 1))) (dt (qV 0 1 (iS 0) (aD (Y 2))) (dt (qV 0 2 (iS 0) (aD (Y 3))) (dt (qV 0 3 (iS 0) (aD (jC dZ))) (qV 0 4 (iS 0) (aD (X 0))))))))))
def ba:Ā:=l4 4 bT
theorem jo(A:∃b,ĥ K "__init__" "Keeper.__init__" (cF (Ï 130) 0) f b)(a:Mk K Ca f)(t:HA P w K mg base T8):LX P w K mg base 0 Ca 7 3 ba:=Hm XI Gn cka a ["self","table","each","most"] ["self","table","each","most"] bT A aK (by delta bT;fin2)
def fg:Ø:=(aJ (f1 (mQ 0 4) (Y 0)))
def cy:Ñ:=aQ 1 fg
def Pv:IW:=("clock",1,0,cy)::Ps
theorem mf(A:Am K Ca "Keeper.clock" "clock" (cF (Ï 130) 2) f)(a:Ő P w K mg base 0 Ca Ps):Ő P w K mg base 0 Ca Pv:=uT (zy cka ["self"] ["self"] fg A aK (by delta fg;fin2)) a
def gR:Ø:=(aJ (Ě (I ß (Y 0) (Y 1)) (fM (qj Xh) (Y 0) (az (I cH (Ð ".") (Y 1))))))
def aB:Ñ:=aQ 2 gR
def T9:bS:=("lies_within",1,["one","other"],aB)::T8
theorem mS(A:Af K "lies_within" (Ï 25) f)(t:HA P w K mg base T8):HA P w K mg base T9:=ah (aq XI Gn ["one","other"] ["one","other"] gR A aK (by delta gR;fin2)) t
def C5:Ø:=(aJ (jC (dP (I Ì (Y 0) (X 0)) (I Ì (Y 0) (X 2)) (I Ì (Y 0) (X 4)))))
def eJ:Ñ:=aQ 1 C5
def T10:bS:=("key",1,["note"],eJ)::T9
theorem Ml(A:Af K "key" (Ï 95) f)(t:HA P w K mg base T9):HA P w K mg base T10:=ah (aq XI Gn ["note"] ["note"] C5 A aK (by delta C5;fin2)) t
def bU:Ø:=(aI (bW 1 (bP 1 [] (cV (Y 0)) (gN 0) U (ab eJ 1 (az (Y 0))))) (aJ (I ß (â lL (az (Y 1))) (â gZ (az (Y 1))))))
def cw:Ñ:=aQ 2 bU
def T11:bS:=("has_no_key_twice",2,["notes"],cw)::T10
theorem jp(A:Af K "has_no_key_twice" (Ï 103) f)(t:HA P w K mg base T10):HA P w K mg base T11:=ah (aq XI Gn ["notes","keys"] ["notes"] bU A aK (by delta bU;fin2)) t
def iA:Ø:=(aJ (â mO (az (bY [("notes",0)] (λa=>Õ ((bt (X 1) (â gZ (az (Y 0)))) a) Be) U (I ī (I Ì (I Ì (Y 1) (I xM (Y 0) (X 1))) (X 8)) (I Ì (I Ì (Y 1) (Y 0)) (X 8)))))))
def fT:Ñ:=aQ 1 iA
def T12:bS:=("is_by_made",1,["notes"],fT)::T11
theorem oZ(A:Af K "is_by_made" (Ï 102) f)(t:HA P w K mg base T11):HA P w K mg base T12:=ah (aq XI Gn ["notes"] ["notes"] iA A aK (by delta iA;fin2)) t
def dL:Ø:=(aJ (ab aE 3 (dP (Y 0) (X 0) (X 9999))))
def bc:Ñ:=aQ 1 dL
def T13:bS:=("is_moment",2,["thing"],bc)::T12
theorem q8(A:Af K "is_moment" (Ï 45) f)(t:HA P w K mg base T12):HA P w K mg base T13:=ah (aq XI Gn ["thing"] ["thing"] dL A aK (by delta dL;fin2)) t
def bh:Ø:=(aJ (Ě (I Ą (Y 0) (fC .non)) (ab bc 1 (az (Y 0)))))
def aC:Ñ:=aQ 1 bh
def T14:bS:=("is_moment_or_none",3,["thing"],aC)::T13
theorem jc(A:Af K "is_moment_or_none" (Ï 46) f)(t:HA P w K mg base T13):HA P w K mg base T14:=ah (aq XI Gn ["thing"] ["thing"] bh A aK (by delta bh;fin2)) t
def fY:Ø:=(aJ (ab dj 4 (iZ (Y 0) (Ð "abcdefghijklmnopqrstuvwxyzABCDEFGHIJKLMNOPQRSTUVWXYZ0123456789-_") (X 1) (X 10))))
def aN:Ñ:=aQ 1 fY
def T15:bS:=("is_note_name",2,["thing"],aN)::T14
theorem mh(A:Af K "is_note_name" (Ï 66) f)(t:HA P w K mg base T14):HA P w K mg base T15:=ah (aq XI Gn ["thing"] ["thing"] fY A aK (by delta fY;fin2)) t
def mi:Ø:=(aJ (ij (ab dj 4 (iZ (Y 0) (Ð "abcdefghijklmnopqrstuvwxyz0123456789-_./") (X 1) (X 20))) (fM (qj Sk) (Y 0) (az (Ð "/")))))
def cj:Ñ:=aQ 1 mi
def T16:bS:=("is_path",2,["thing"],cj)::T15
theorem wy(A:Af K "is_path" (Ï 34) f)(t:HA P w K mg base T15):HA P w K mg base T16:=ah (aq XI Gn ["thing"] ["thing"] mi A aK (by delta mi;fin2)) t
def kl:Ø:=(aJ (Ě (I ß (Y 0) (Ð "any")) (I ß (Y 0) (Ð "near"))))
def dO:Ñ:=aQ 1 kl
def T17:bS:=("is_reach",1,["thing"],dO)::T16
theorem sY(A:Af K "is_reach" (Ï 68) f)(t:HA P w K mg base T16):HA P w K mg base T17:=ah (aq XI Gn ["thing"] ["thing"] kl A aK (by delta kl;fin2)) t
def gS:Ø:=(aJ (ij (f1 (i7 sy) (Y 0)) (I ß (â gZ (az (Y 0))) (Y 1))))
def bH:Ñ:=aQ 2 gS
def T18:bS:=("is_tuple_of",1,["thing","parts"],bH)::T17
theorem mT(A:Af K "is_tuple_of" (Ï 12) f)(t:HA P w K mg base T17):HA P w K mg base T18:=ah (aq XI Gn ["thing","parts"] ["thing","parts"] gS A aK (by delta gS;fin2)) t
def kn:Ø:=(aI (aY (ÿ (bX (fB (f1 (i7 qi) (Y 0)))) (fB (I ű (â gZ (az (Y 0))) (X 12)))) (aJ (fC (.bl D))) í) (aJ (â mO (az (bY [] (cV (Y 0)) U (ij (I ī (Ð "!") (Y 0)) (ij (I ī (Y 0) (Ð "~")) (I qh (Y 0) (Ð ";,=")))))))))
def bM:Ñ:=aQ 1 kn
def T19:bS:=("is_worth",1,["thing"],bM)::T18
theorem sZ(A:Af K "is_worth" (Ï 67) f)(t:HA P w K mg base T18):HA P w K mg base T19:=ah (aq XI Gn ["thing"] ["thing"] kn A aK (by delta kn;fin2)) t
def jQ:Ø:=(aI (aY (bX (fB (ab bH 2 (bt (Y 0) (X 10))))) (aJ (fC (.bl D))) í) (aI (aY (ÿ (bX (fB (ab bc 1 (az (I Ì (Y 0) (X 8)))))) (bX (fB (ab bc 1 (az (I Ì (Y 0) (X 9))))))) (aJ (fC (.bl D))) í) (aJ (â mO (az (ib (aO (ab aN 1 (az (I Ì (Y 0) (X 0)))) (aO (ab bM 1 (az (I Ì (Y 0) (X 1)))) (aO (ab bC 1 (az (I Ì (Y 0) (X 2)))) (v3 (f1 (i7 dH) (I Ì (Y 0) (X 3))) (ab cj 1 (az (I Ì (Y 0) (X 4)))) (ab aC 1 (az (I Ì (Y 0) (X 5)))) (f1 (i7 dH) (I Ì (Y 0) (X 6))) (ab dO 1 (az (I Ì (Y 0) (X 7)))) (I ī (I Ì (Y 0) (X 8)) (I Ì (Y 0) (X 9)))))))))))))
def fj:Ñ:=aQ 1 jQ
def T20:bS:=("is_note",4,["thing"],fj)::T19
theorem wz(A:Af K "is_note" (Ï 90) f)(t:HA P w K mg base T19):HA P w K mg base T20:=ah (aq XI Gn ["thing"] ["thing"] jQ A aK (by delta jQ;fin2)) t
def jR:Ø:=(aI (aY (ÿ (bX (fB (f1 (i7 sy) (Y 0)))) (fB (I ű (â gZ (az (Y 0))) (X 20)))) (aJ (fC (.bl D))) í) (aI (aY (bX (fB (â mO (az (bY [] (cV (Y 0)) U (ab fj 1 (az (Y 0)))))))) (aJ (fC (.bl D))) í) (aJ (ij (ab fT 1 (az (Y 0))) (ab cw 1 (az (Y 0)))))))
def gT:Ñ:=aQ 1 jR
def T21:bS:=("is_jar",5,["thing"],gT)::T20
theorem zL(A:Af K "is_jar" (Ï 101) f)(t:HA P w K mg base T20):HA P w K mg base T21:=ah (aq XI Gn ["thing"] ["thing"] jR A aK (by delta jR;fin2)) t
def iT:Ø:=(aY (bX (fB (ab gT 1 (az (Y 0))))) gh í)
def bj:Ñ:=aQ 1 iT
def T22:bS:=("need_jar",6,["thing"],bj)::T21
theorem td(A:Af K "need_jar" (Ï 104) f)(t:HA P w K mg base T21):HA P w K mg base T22:=ah (aq XI Gn ["thing"] ["thing"] iT A aK (by delta iT;fin2)) t
def gU:Ø:=(aY (bX (fB (ab bC 1 (az (Y 0))))) gh í)
def fk:Ñ:=aQ 1 gU
def T23:bS:=("need_name",4,["thing"],fk)::T22
theorem q9(A:Af K "need_name" (Ï 23) f)(t:HA P w K mg base T22):HA P w K mg base T23:=ah (aq XI Gn ["thing"] ["thing"] gU A aK (by delta gU;fin2)) t
def fm:Ø:=(aI (cG (ab bj 1 (az (Y 0)))) (aI (cG (ab fk 1 (az (Y 1)))) (aJ (â hJ (az (bY [("house",1)] (cV (Y 0)) (Z (bX (fB (ab aB 2 (bt (I Ì (Y 0) (X 2)) (Y 1)))))) (Y 0)))))))
def fq:Ñ:=aQ 2 fm
def T24:bS:=("forgotten",7,["jar","house"],fq)::T23
theorem rf(A:Af K "forgotten" (Ï 107) f)(t:HA P w K mg base T23):HA P w K mg base T24:=ah (aq XI Gn ["jar","house"] ["jar","house"] fm A aK (by delta fm;fin2)) t
def cm:cu:=(dt (jO 2 (aD (ab fq 2 (bt (f1 (mQ 0 3) (Y 0)) (Y 1))))) (dt (jO 3 (aD (I xM (â gZ (az (f1 (mQ 0 3) (Y 0)))) (â gZ (az (Y 2)))))) (dt (qV 0 3 (iS 0) (aD (Y 2))) (oR (aD (Y 3))))))
def bQ:Ā:=l4 4 cm
def Pw:wt:=("forget",8,1,bQ)::Pu
theorem ko(A:Am K Ca "Keeper.forget" "forget" (cF (Ï 130) 7) f)(t:HA P w K mg base T24)(a:Ļ P w K mg base 0 Ca Pu):Ļ P w K mg base 0 Ca Pw:=la (lb cka ["self","house","left","gone"] ["self","house"] cm A aK (by delta cm;fin2)) a
def aU:cu:=(ň (gq (fB (I ltX (Y 1) (f1 (mQ 0 4) (Y 0))))) (Po gh) wS)
def aV:Ā:=l4 2 aU
def Px:wt:=("need_no_earlier",1,1,aV)::Pw
theorem fN(A:Am K Ca "Keeper.need_no_earlier" "need_no_earlier" (cF (Ï 130) 3) f)(a:Ļ P w K mg base 0 Ca Pw):Ļ P w K mg base 0 Ca Px:=la (lb cka ["self","now"] ["self","now"] aU A aK (by delta aU;fin2)) a
def cJ:Ø:=(aI (bW 1 (fM (g9) (Y 0) (az (Ð ".")))) (aJ (bY [("parts",1)] (λa=>Õ ((az (â gZ (az (Y 1)))) a) Oz) U (fM (v7) (Ð ".") (az (wQ (Y 1) (cY (Y 0)) fL))))))
def cK:Ñ:=aQ 2 cJ
def T25:bS:=("ends_longest_first",1,["name"],cK)::T24
theorem iB(A:Af K "ends_longest_first" (Ï 26) f)(t:HA P w K mg base T24):HA P w K mg base T25:=ah (aq XI Gn ["name","parts"] ["name"] cJ A aK (by delta cJ;fin2)) t
def du:Ø:=(aJ (I Ì (fM (oF) (Y 0) (az (Ð "."))) (X 2)))
def dv:Ñ:=aQ 1 du
def T26:bS:=("behind_first_dot",1,["end"],dv)::T25
theorem jq(A:Af K "behind_first_dot" (Ï 27) f)(t:HA P w K mg base T25):HA P w K mg base T26:=ah (aq XI Gn ["end"] ["end"] du A aK (by delta du;fin2)) t
def fZ:Ø:=(aI (aY (fB (I ō (Y 1) (Y 0))) (aJ (fC (.bl L))) í) (aJ (ij (I ō (Ð ".") (Y 1)) (I ō (I cH (Ð "*.") (ab dv 1 (az (Y 1)))) (Y 0)))))
def jg:Ñ:=aQ 2 fZ
def T27:bS:=("is_told_open",2,["table","end"],jg)::T26
theorem mj(A:Af K "is_told_open" (Ï 28) f)(t:HA P w K mg base T26):HA P w K mg base T27:=ah (aq XI Gn ["table","end"] ["table","end"] fZ A aK (by delta fZ;fin2)) t
def gu:Ø:=(aY (fB (I ō (I cH (Ð "!") (Y 3)) (Y 0))) (aJ (ab dv 1 (az (Y 3)))) í)
def gx:Ø:=(aY (fB (ab jg 2 (bt (Y 0) (Y 3)))) (aJ (Y 3)) í)
def fu:Ø:=(aI (bW 2 (ab cK 1 (az (Y 1)))) (aI (D4 3 [] (cV (Y 2)) gu) (aI (D4 3 [3] (cV (Y 2)) gx) (aJ (I Ì (Y 2) (f1 D7 (X 1)))))))
def cz:Ñ:=aQ 4 fu
def T28:bS:=("find_open_end",3,["table","name"],cz)::T27
theorem kU(A:Af K "find_open_end" (Ï 29) f)(t:HA P w K mg base T27):HA P w K mg base T28:=ah (aq XI Gn ["table","name","ends","end"] ["table","name"] fu A aK (by delta fu gu gx;fin2)) t
def gc:Ø:=(aI (bW 2 (ab cz 2 (bt (Y 0) (Y 1)))) (aI (bW 3 (ab cK 1 (az (Y 1)))) (aI (bW 4 (fML OL (Y 3) (az (Y 2)))) (aI (aY (fB (I ß (Y 4) (X 0))) (aJ (fC .non)) í) (aJ (I Ì (Y 3) (I xM (Y 4) (X 1))))))))
def bV:Ñ:=aQ 5 gc
def T29:bS:=("find_own_end",4,["table","name"],bV)::T28
theorem mo(A:Af K "find_own_end" (Ï 30) f)(t:HA P w K mg base T28):HA P w K mg base T29:=ah (aq XI Gn ["table","name","end","ends","place"] ["table","name"] gc A aK (by delta gc;fin2)) t
def gy:Ø:=(aI (bW 2 (ab bV 2 (bt (Y 0) (I Ì (Y 1) (X 2))))) (aI (aY (fB (I Ą (Y 2) (fC .non))) (aJ (I Ì (Y 1) (X 2))) í) (aJ (Y 2))))
def bz:Ñ:=aQ 3 gy
def T30:bS:=("group_of",5,["table","note"],bz)::T29
theorem tj(A:Af K "group_of" (Ï 122) f)(t:HA P w K mg base T29):HA P w K mg base T30:=ah (aq XI Gn ["table","note","own"] ["table","note"] gy A aK (by delta gy;fin2)) t
def uU:Ø:=(aJ (jC (bt (I Ì (Y 0) (X 6)) (I Ì (Y 0) (X 9)))))
def nR:Ñ:=aQ 1 uU
def T31:bS:=("rank",1,["note"],nR)::T30
theorem Hx(A:Af K "rank" (Ï 127) f)(t:HA P w K mg base T30):HA P w K mg base T31:=ah (aq XI Gn ["note"] ["note"] uU A aK (by delta uU;fin2)) t
def gz:Ø:=(aI (bW 2 (â (wj nR) (az (Y 0)))) (aJ (i9 (Y 2) fL (cY (â K4 (bt (I xM (â gZ (az (Y 0))) (Y 1)) (X 0)))))))
def eW:Ñ:=aQ 3 gz
def T32:bS:=("too_many",4,["notes","room"],eW)::T31
theorem tq(A:Af K "too_many" (Ï 126) f)(t:HA P w K mg base T31):HA P w K mg base T32:=ah (aq XI Gn ["notes","room","in_order"] ["notes","room"] gz A aK (by delta gz;fin2)) t
def iC:Ø:=(aJ (â hJ (az (bY [("dropped",1)] (cV (Y 0)) (Z (fB (I kJ (Y 0) (Y 1)))) (Y 0)))))
def gA:Ñ:=aQ 2 iC
def T33:bS:=("without",1,["notes","dropped"],gA)::T32
theorem wA(A:Af K "without" (Ï 128) f)(t:HA P w K mg base T32):HA P w K mg base T33:=ah (aq XI Gn ["notes","dropped"] ["notes","dropped"] iC A aK (by delta iC;fin2)) t
def jr:Ø:=(aI (bW 6 (bP 1 [("table",0),("group",5)] (cV (Y 1)) (gN 0) (Z (fB (I ß (ab bz 2 (bt (Y 1) (Y 0))) (Y 2)))) (Y 0))) (bW 4 (ab gA 2 (bt (Y 4) (ab eW 2 (bt (Y 6) (Y 2)))))))
def zM:Ø:=(aI (bW 4 (Y 1)) (aI (D4 5 [5,6] (cV (â jk (az (bY [("table",0)] (cV (Y 1)) U (ab bz 2 (bt (Y 1) (Y 0))))))) jr) (aJ (ab gA 2 (bt (Y 4) (ab eW 2 (bt (Y 4) (Y 3))))))))
def o5:Ñ:=aQ 7 zM
def T34:bS:=("fit",6,["table","notes","each","most"],o5)::T33
theorem Mm(A:Af K "fit" (Ï 125) f)(t:HA P w K mg base T33):HA P w K mg base T34:=ah (aq XI Gn ["table","notes","each","most","left","group","members"] ["table","notes","each","most"] zM A aK (by delta zM jr;fin2)) t
def da:Ø:=(aJ (ab dj 4 (iZ (Y 0) (Ð "0123456789") (X 1) (X 4))))
def db:Ñ:=aQ 1 da
def T35:bS:=("is_written_moment",2,["text"],db)::T34
theorem jd(A:Af K "is_written_moment" (Ï 71) f)(t:HA P w K mg base T34):HA P w K mg base T35:=ah (aq XI Gn ["text"] ["text"] da A aK (by delta da;fin2)) t
def gf:Ø:=(aI (aY (fB (I ß (Y 0) (Ð "safe"))) (aJ (jC (bt (X 6) (fC (.bl L))))) í) (aI (aY (fB (ab dO 1 (az (Y 0)))) (aJ (jC (bt (X 7) (Y 0)))) í) (aI (bW 1 (fM (oF) (Y 0) (az (Ð " ")))) (aI (bW 2 (I Ì (Y 1) (X 0))) (aI (bW 3 (I Ì (Y 1) (X 2))) (aI (aY (kB (fB (I ß (Y 2) (Ð "for"))) (fB (ab bC 1 (az (Y 3))))) (aJ (jC (bt (X 2) (Y 3)))) í) (aI (aY (kB (fB (I ß (Y 2) (Ð "under"))) (fB (ab cj 1 (az (Y 3))))) (aJ (jC (bt (X 3) (Y 3)))) í) (aI (aY (kB (fB (I ß (Y 2) (Ð "until"))) (fB (ab db 1 (az (Y 3))))) (aJ (jC (bt (X 4) (â NL (az (Y 3)))))) í) (aI (aY (kB (fB (I ß (Y 2) (Ð "lasts"))) (fB (ab db 1 (az (Y 3))))) (aJ (jC (bt (X 5) (â NL (az (Y 3)))))) í) (aJ (fC .non)))))))))))
def bK:Ñ:=aQ 4 gf
def T36:bS:=("what_is_told",4,["part"],bK)::T35
theorem mq(A:Af K "what_is_told" (Ï 72) f)(t:HA P w K mg base T35):HA P w K mg base T36:=ah (aq XI Gn ["part","pieces","word","rest"] ["part"] gf A aK (by delta gf;fin2)) t
def bp:k8:=(oH (pS 5 (ab bK 1 (az (Y 4)))) (oIf (fB (I kP (Y 5) (fC .non))) (uy (I Ì (Y 5) (X 0)) (I Ì (Y 5) (X 1))) OY))
def et:Ø:=(aI (aY (bX (fB (f1 (i7 qi) (Y 0)))) gh í) (aI (bW 1 (bP 1 [] (cV (fM (g9) (Y 0) (az (Ð ";")))) (gN 0) U (fM (lK) (Y 0) (az (Ð " "))))) (aI (bW 2 (fM (oF) (I Ì (Y 1) (X 0)) (az (Ð "=")))) (aI (aY (ÿ (fB (I ß (I Ì (Y 2) (X 1)) (Ð ""))) (ÿ (bX (fB (ab aN 1 (az (I Ì (Y 2) (X 0)))))) (bX (fB (ab bM 1 (az (I Ì (Y 2) (X 2)))))))) gh í) (Eh 3 (aO (I Ì (Y 2) (X 0)) (aO (I Ì (Y 2) (X 2)) (v3 (fC .non) (fC .non) (fC .non) (fC .non) (fC (.bl D)) (Ð "any")))) (oH (Gj 4 [4,5] (cV (wQ (Y 1) (cY (X 1)) fL)) bp) (Gf 3 (â hJ (az (Y 3))))))))))
def aP:Ñ:=aQ 6 et
def T37:bS:=("read_given",5,["text"],aP)::T36
theorem o6(A:Af K "read_given" (Ï 73) f)(t:HA P w K mg base T36):HA P w K mg base T37:=ah (aq XI Gn ["text","parts","first","given","part","told"] ["text"] et A aK (by delta et bp;fin2)) t
def iD:Ø:=(aI (aY (fB (I Ą (I Ì (Y 0) (X 5)) (fC .non))) (aJ (I Ì (Y 0) (X 4))) í) (aJ (â NK (bt (I cH (Y 1) (I Ì (Y 0) (X 5))) (X 9999)))))
def iE:Ñ:=aQ 2 iD
def T38:bS:=("end_for",1,["given","now"],iE)::T37
theorem wB(A:Af K "end_for" (Ï 93) f)(t:HA P w K mg base T37):HA P w K mg base T38:=ah (aq XI Gn ["given","now"] ["given","now"] iD A aK (by delta iD;fin2)) t
def fw:Ø:=(aI (aY (fB (I Ą (I Ì (Y 1) (X 2)) (fC .non))) (aJ (I Ì (Y 0) (X 1))) í) (aJ (I Ì (Y 1) (X 2))))
def fz:Ñ:=aQ 2 fw
def T39:bS:=("house_for",1,["ask","given"],fz)::T38
theorem rg(A:Af K "house_for" (Ï 91) f)(t:HA P w K mg base T38):HA P w K mg base T39:=ah (aq XI Gn ["ask","given"] ["ask","given"] fw A aK (by delta fw;fin2)) t
def jS:Ø:=(aJ (I ß (ab cz 2 (bt (Y 0) (Y 1))) (Y 1)))
def fA:Ñ:=aQ 2 jS
def T40:bS:=("is_open",4,["table","house"],fA)::T39
theorem wC(A:Af K "is_open" (Ï 86) f)(t:HA P w K mg base T39):HA P w K mg base T40:=ah (aq XI Gn ["table","house"] ["table","house"] jS A aK (by delta jS;fin2)) t
def gC:Ø:=(aI (bW 3 (I Ì (Y 2) (X 2))) (aI (aY (fB (I Ą (Y 3) (fC .non))) (aJ (fC (.bl L))) í) (aJ (ij (I ß (Y 3) (I Ì (Y 1) (X 1))) (ab fA 2 (bt (Y 0) (Y 3)))))))
def cB:Ñ:=aQ 4 gC
def T41:bS:=("is_exact",5,["table","ask","given"],cB)::T40
theorem tu(A:Af K "is_exact" (Ï 87) f)(t:HA P w K mg base T40):HA P w K mg base T41:=ah (aq XI Gn ["table","ask","given","house"] ["table","ask","given"] gC A aK (by delta gC;fin2)) t
def gV:Ø:=(aI (aY (bX (fB (ab bH 2 (bt (Y 0) (X 4))))) (aJ (fC (.bl D))) í) (aJ (â mO (az (ib (iZ (f1 (i7 dH) (I Ì (Y 0) (X 0))) (ab bC 1 (az (I Ì (Y 0) (X 1)))) (ab cj 1 (az (I Ì (Y 0) (X 2)))) (Ě (I Ą (I Ì (Y 0) (X 3)) (fC .non)) (ab bC 1 (az (I Ì (Y 0) (X 3)))))))))))
def dU:Ñ:=aQ 1 gV
def T42:bS:=("is_ask",4,["thing"],dU)::T41
theorem zN(A:Af K "is_ask" (Ï 48) f)(t:HA P w K mg base T41):HA P w K mg base T42:=ah (aq XI Gn ["thing"] ["thing"] gV A aK (by delta gV;fin2)) t
def iU:Ø:=(aY (bX (fB (ab dU 1 (az (Y 0))))) gh í)
def cq:Ñ:=aQ 1 iU
def T43:bS:=("need_ask",5,["thing"],cq)::T42
theorem tz(A:Af K "need_ask" (Ï 49) f)(t:HA P w K mg base T42):HA P w K mg base T43:=ah (aq XI Gn ["thing"] ["thing"] iU A aK (by delta iU;fin2)) t
def iV:Ø:=(aI (aY (bX (fB (ab bH 2 (bt (Y 0) (X 8))))) (aJ (fC (.bl D))) í) (aJ (â mO (az (ib (aO (ab aN 1 (az (I Ì (Y 0) (X 0)))) (aO (ab bM 1 (az (I Ì (Y 0) (X 1)))) (v3 (Ě (I Ą (I Ì (Y 0) (X 2)) (fC .non)) (ab bC 1 (az (I Ì (Y 0) (X 2))))) (Ě (I Ą (I Ì (Y 0) (X 3)) (fC .non)) (ab cj 1 (az (I Ì (Y 0) (X 3))))) (ab aC 1 (az (I Ì (Y 0) (X 4)))) (ab aC 1 (az (I Ì (Y 0) (X 5)))) (f1 (i7 dH) (I Ì (Y 0) (X 6))) (ab dO 1 (az (I Ì (Y 0) (X 7))))))))))))
def gD:Ñ:=aQ 1 iV
def T44:bS:=("is_given",4,["thing"],gD)::T43
theorem tE(A:Af K "is_given" (Ï 69) f)(t:HA P w K mg base T43):HA P w K mg base T44:=ah (aq XI Gn ["thing"] ["thing"] iV A aK (by delta iV;fin2)) t
def fU:Ø:=(aY (bX (fB (ab gD 1 (az (Y 0))))) gh í)
def dk:Ñ:=aQ 1 fU
def T45:bS:=("need_given",5,["thing"],dk)::T44
theorem o7(A:Af K "need_given" (Ï 70) f)(t:HA P w K mg base T44):HA P w K mg base T45:=ah (aq XI Gn ["thing"] ["thing"] fU A aK (by delta fU;fin2)) t
def eP:Ø:=(aY (bX (fB (ab bc 1 (az (Y 0))))) gh í)
def bq:Ñ:=aQ 1 eP
def T46:bS:=("need_moment",3,["thing"],bq)::T45
theorem mU(A:Af K "need_moment" (Ï 47) f)(t:HA P w K mg base T45):HA P w K mg base T46:=ah (aq XI Gn ["thing"] ["thing"] eP A aK (by delta eP;fin2)) t
def jt:Ø:=(aY (bX (fB (ab cj 1 (az (Y 0))))) gh í)
def mr:Ñ:=aQ 1 jt
def T47:bS:=("need_path",3,["thing"],mr)::T46
theorem rh(A:Af K "need_path" (Ï 35) f)(t:HA P w K mg base T46):HA P w K mg base T47:=ah (aq XI Gn ["thing"] ["thing"] jt A aK (by delta jt;fin2)) t
def o8:Ø:=(aI (cG (ab mr 1 (az (Y 0)))) (aI (bW 1 (fM (NE aa0) (Y 0) (az (Ð "/")))) (aI (aY (fB (I ß (Y 1) (X 0))) (aJ (Ð "/")) í) (aJ (wQ (Y 0) fL (cY (Y 1)))))))
def lc:Ñ:=aQ 2 o8
def T48:bS:=("folder",4,["path"],lc)::T47
theorem zO(A:Af K "folder" (Ï 36) f)(t:HA P w K mg base T47):HA P w K mg base T48:=ah (aq XI Gn ["path","place"] ["path"] o8 A aK (by delta o8;fin2)) t
def gE:Ø:=(aI (aY (fB (I Ą (I Ì (Y 1) (X 3)) (fC .non))) (aJ (ab lc 1 (az (I Ì (Y 0) (X 2))))) í) (aJ (I Ì (Y 1) (X 3))))
def eY:Ñ:=aQ 2 gE
def T49:bS:=("path_for",5,["ask","given"],eY)::T48
theorem tG(A:Af K "path_for" (Ï 92) f)(t:HA P w K mg base T48):HA P w K mg base T49:=ah (aq XI Gn ["ask","given"] ["ask","given"] gE A aK (by delta gE;fin2)) t
def aF:Ø:=(aI (bW 2 (I Ì (Y 1) (X 1))) (aI (bW 3 (I Ì (Y 1) (X 3))) (aI (aY (ÿ (fB (I Ą (Y 3) (fC .non))) (fB (I ß (Y 3) (Y 2)))) (aJ (fC (.bl L))) í) (aI (bW 4 (ab bV 2 (bt (Y 0) (Y 2)))) (aJ (ij (I kP (Y 4) (fC .non)) (I ß (Y 4) (ab bV 2 (bt (Y 0) (Y 3))))))))))
def ag:Ñ:=aQ 5 aF
def T50:bS:=("comes_from_near",5,["table","ask"],ag)::T49
theorem jT(A:Af K "comes_from_near" (Ï 50) f)(t:HA P w K mg base T49):HA P w K mg base T50:=ah (aq XI Gn ["table","ask","house","origin","own"] ["table","ask"] aF A aK (by delta aF;fin2)) t
def bR:Ø:=(aI (bW 3 (I Ì (Y 2) (X 0))) (aI (aY (fB (fM (qj Sk) (Y 3) (az (Ð "safe-")))) (aJ (I Ì (Y 2) (X 6))) í) (aI (aY (fB (fM (qj Sk) (Y 3) (az (Ð "own-")))) (aJ (ij (I Ì (Y 2) (X 6)) (ij (ab cB 3 (dP (Y 0) (Y 1) (Y 2))) (I ß (I Ì (Y 2) (X 3)) (Ð "/"))))) í) (aJ (fC (.bl L))))))
def bf:Ñ:=aQ 4 bR
def T51:bS:=("keeps_its_mark",6,["table","ask","given"],bf)::T50
theorem kq(A:Af K "keeps_its_mark" (Ï 88) f)(t:HA P w K mg base T50):HA P w K mg base T51:=ah (aq XI Gn ["table","ask","given","name"] ["table","ask","given"] bR A aK (by delta bR;fin2)) t
def eQ:Ø:=(aI (cG (ab aL 1 (az (Y 0)))) (aI (cG (ab cq 1 (az (Y 1)))) (aI (cG (ab dk 1 (az (Y 2)))) (aI (bW 3 (I Ì (Y 2) (X 2))) (aI (aY (kB (fB (I kP (Y 3) (fC .non))) (bX (fB (ab aB 2 (bt (I Ì (Y 1) (X 1)) (Y 3)))))) (aJ (Ð "foreign")) í) (aI (aY (kB (fB (I kP (Y 3) (fC .non))) (kB (fB (I č (Y 3) (I Ì (Y 1) (X 1)))) (fB (ab fA 2 (bt (Y 0) (Y 3)))))) (aJ (Ð "open")) í) (aI (aY (kB (fB (I Ì (Y 2) (X 6))) (bX (fB (I Ì (Y 1) (X 0))))) (aJ (Ð "unsafe")) í) (aI (aY (bX (fB (ab bf 3 (dP (Y 0) (Y 1) (Y 2))))) (aJ (Ð "marked")) í) (aI (aY (kB (fB (I ß (I Ì (Y 2) (X 7)) (Ð "near"))) (bX (fB (ab ag 2 (bt (Y 0) (Y 1)))))) (aJ (Ð "far")) í) (aJ (fC .non)))))))))))
def bI:Ñ:=aQ 4 eQ
def T52:bS:=("why_refused",7,["table","ask","given"],bI)::T51
theorem mV(A:Af K "why_refused" (Ï 89) f)(t:HA P w K mg base T51):HA P w K mg base T52:=ah (aq XI Gn ["table","ask","given","house"] ["table","ask","given"] eQ A aK (by delta eQ;fin2)) t
def uV:Ø:=(aI (cG (ab aL 1 (az (Y 0)))) (aI (cG (ab cq 1 (az (Y 1)))) (aI (cG (ab dk 1 (az (Y 2)))) (aI (cG (ab bq 1 (az (Y 3)))) (aI (aY (fB (I kP (ab bI 3 (dP (Y 0) (Y 1) (Y 2))) (fC .non))) gh í) (aJ (jC (aO (I Ì (Y 2) (X 0)) (aO (I Ì (Y 2) (X 1)) (aO (ab fz 2 (bt (Y 1) (Y 2))) (aO (ab cB 3 (dP (Y 0) (Y 1) (Y 2))) (v3 (ab eY 2 (bt (Y 1) (Y 2))) (ab iE 2 (bt (Y 2) (Y 3))) (I Ì (Y 2) (X 6)) (I Ì (Y 2) (X 7)) (Y 3) (Y 3)))))))))))))
def fD:Ñ:=aQ 4 uV
def T53:bS:=("made",8,["table","ask","given","now"],fD)::T52
theorem Hy(A:Af K "made" (Ï 94) f)(t:HA P w K mg base T52):HA P w K mg base T53:=ah (aq XI Gn ["table","ask","given","now"] ["table","ask","given","now"] uV A aK (by delta uV;fin2)) t
def tH:Ø:=(aI (bW 2 (bP 1 [("note",1)] (cV (Y 0)) (gN 0) (Z (fB (I ß (ab eJ 1 (az (Y 0))) (ab eJ 1 (az (Y 1)))))) (Y 0))) (aI (aY (fB (I ß (Y 2) (ib dZ))) (aJ (I gJ (Y 0) (jC (az (Y 1))))) í) (aI (bW 3 (I gJ (I gJ (i9 (Y 1) fL (cY (X 8))) (jC (az (I Ì (I Ì (Y 2) (X 0)) (X 8))))) (i9 (Y 1) (cY (I gJ (X 8) (X 1))) fL))) (aJ (â hJ (az (bY [("note",1),("newer",3)] (cV (Y 0)) U (ĩ (fB (I ß (ab eJ 1 (az (Y 0))) (ab eJ 1 (az (Y 1))))) (Y 2) (Y 0)))))))))
def C7:Ñ:=aQ 4 tH
def T54:bS:=("put",2,["jar","note"],C7)::T53
theorem Mn(A:Af K "put" (Ï 108) f)(t:HA P w K mg base T53):HA P w K mg base T54:=ah (aq XI Gn ["jar","note","same","newer"] ["jar","note"] tH A aK (by delta tH;fin2)) t
def gW:Ø:=(aJ (ij (I kP (I Ì (Y 0) (X 5)) (fC .non)) (I ī (I Ì (Y 0) (X 5)) (Y 1))))
def aW:Ñ:=aQ 2 gW
def T55:bS:=("has_ended",1,["note","now"],aW)::T54
theorem rj(A:Af K "has_ended" (Ï 96) f)(t:HA P w K mg base T54):HA P w K mg base T55:=ah (aq XI Gn ["note","now"] ["note","now"] gW A aK (by delta gW;fin2)) t
def cA:Ø:=(aJ (â hJ (az (bY [("now",1)] (cV (Y 0)) (Z (bX (fB (ab aW 2 (bt (Y 0) (Y 1)))))) (Y 0)))))
def bu:Ñ:=aQ 2 cA
def T56:bS:=("without_ended",2,["notes","now"],bu)::T55
theorem kW(A:Af K "without_ended" (Ï 106) f)(t:HA P w K mg base T55):HA P w K mg base T56:=ah (aq XI Gn ["notes","now"] ["notes","now"] cA A aK (by delta cA;fin2)) t
def iF:Ø:=(aI (aY (fB (I ß (Y 0) (Y 1))) (aJ (fC (.bl L))) í) (aI (aY (bX (fB (fM (qj Sk) (Y 0) (az (Y 1))))) (aJ (fC (.bl D))) í) (aJ (Ě (fM (qj Xh) (Y 1) (az (Ð "/"))) (I ß (I Ì (Y 0) (â gZ (az (Y 1)))) (Ð "/"))))))
def aZ:Ñ:=aQ 2 iF
def T57:bS:=("lies_under",1,["path","top"],aZ)::T56
theorem o9(A:Af K "lies_under" (Ï 37) f)(t:HA P w K mg base T56):HA P w K mg base T57:=ah (aq XI Gn ["path","top"] ["path","top"] iF A aK (by delta iF;fin2)) t
def iG:Ø:=(aI (aY (ÿ (bX (fB (I Ì (Y 0) (X 6)))) (ÿ (fB (ab aW 2 (bt (Y 0) (Y 2)))) (fB (I č (I Ì (Y 0) (X 0)) (I Ì (Y 1) (X 0)))))) (aJ (fC (.bl D))) í) (aI (aY (kB (bX (fB (ab aB 2 (bt (I Ì (Y 1) (X 2)) (I Ì (Y 0) (X 2)))))) (bX (fB (ab aB 2 (bt (I Ì (Y 0) (X 2)) (I Ì (Y 1) (X 2))))))) (aJ (fC (.bl D))) í) (aJ (ab aZ 2 (bt (I Ì (Y 1) (X 4)) (I Ì (Y 0) (X 4)))))))
def iH:Ñ:=aQ 3 iG
def T58:bS:=("shadows",2,["old","note","now"],iH)::T57
theorem wD(A:Af K "shadows" (Ï 112) f)(t:HA P w K mg base T57):HA P w K mg base T58:=ah (aq XI Gn ["old","note","now"] ["old","note","now"] iG A aK (by delta iG;fin2)) t
def fE:Ø:=(aI (bW 5 (ab bI 3 (dP (Y 0) (Y 2) (Y 3)))) (aI (aY (fB (I kP (Y 5) (fC .non))) (aJ (Y 5)) í) (aI (bW 6 (ab fD 4 (iZ (Y 0) (Y 2) (Y 3) (Y 4)))) (aI (aY (kB (bX (fB (I Ì (Y 2) (X 0)))) (fB (â Lh (az (bY [("now",4),("note",6)] (cV (Y 1)) U (ab iH 3 (dP (Y 0) (Y 2) (Y 1)))))))) (aJ (Ð "shadowed")) í) (aI (aY (fB (ab aW 2 (bt (Y 6) (Y 4)))) (aJ (Ð "gone")) í) (aJ (Ð "kept")))))))
def bO:Ñ:=aQ 7 fE
def T59:bS:=("word_of",9,["table","jar","ask","given","now"],bO)::T58
theorem wE(A:Af K "word_of" (Ï 111) f)(t:HA P w K mg base T58):HA P w K mg base T59:=ah (aq XI Gn ["table","jar","ask","given","now","refused","note"] ["table","jar","ask","given","now"] fE A aK (by delta fE;fin2)) t
def dw:Ø:=(aI (bW 5 (ab bO 5 (vZ (Y 0) (Y 1) (Y 2) (Y 3) (Y 4)))) (aI (bW 6 (ab bu 2 (bt (Y 1) (Y 4)))) (aI (aY (fB (I ß (Y 5) (Ð "kept"))) (aJ (ab C7 2 (bt (Y 6) (ab fD 4 (iZ (Y 0) (Y 2) (Y 3) (Y 4)))))) í) (aI (aY (fB (I ß (Y 5) (Ð "gone"))) (aI (bW 7 (ab eJ 1 (az (ab fD 4 (iZ (Y 0) (Y 2) (Y 3) (Y 4)))))) (aJ (â hJ (az (bY [("ended",7)] (cV (Y 6)) (Z (fB (I č (ab eJ 1 (az (Y 0))) (Y 1)))) (Y 0)))))) í) (aJ (Y 6))))))
def dz:Ñ:=aQ 8 dw
def T60:bS:=("take_in",10,["table","jar","ask","given","now"],dz)::T59
theorem wF(A:Af K "take_in" (Ï 113) f)(t:HA P w K mg base T59):HA P w K mg base T60:=ah (aq XI Gn ["table","jar","ask","given","now","word","notes","ended"] ["table","jar","ask","given","now"] dw A aK (by delta dw;fin2)) t
def bD:Ø:=(aI (cG (ab aL 1 (az (Y 0)))) (aI (cG (ab bj 1 (az (Y 1)))) (aI (cG (ab cq 1 (az (Y 2)))) (aI (bW 5 (ab aP 1 (az (Y 3)))) (aI (cG (ab bq 1 (az (Y 4)))) (aJ (Y 5)))))))
def bE:Ñ:=aQ 6 bD
def T61:bS:=("read_what_is_given",7,["table","jar","ask","text","now"],bE)::T60
theorem iI(A:Af K "read_what_is_given" (Ï 109) f)(t:HA P w K mg base T60):HA P w K mg base T61:=ah (aq XI Gn ["table","jar","ask","text","now","given"] ["table","jar","ask","text","now"] bD A aK (by delta bD;fin2)) t
def iJ:Ø:=(aI (bW 5 (ab bE 5 (vZ (Y 0) (Y 1) (Y 2) (Y 3) (Y 4)))) (aJ (ab bO 5 (vZ (Y 0) (Y 1) (Y 2) (Y 5) (Y 4)))))
def gF:Ñ:=aQ 6 iJ
def T62:bS:=("verdict",10,["table","jar","ask","text","now"],gF)::T61
theorem wG(A:Af K "verdict" (Ï 110) f)(t:HA P w K mg base T61):HA P w K mg base T62:=ah (aq XI Gn ["table","jar","ask","text","now","given"] ["table","jar","ask","text","now"] iJ A aK (by delta iJ;fin2)) t
def cP:cu:=(dt (jO 4 (aD (ab gF 5 (vZ (f1 (mQ 0 0) (Y 0)) (f1 (mQ 0 3) (Y 0)) (Y 1) (Y 2) (Y 3))))) (dt (l0 (ie 0 aV 1 (iS 0) (bw (aD (Y 3)) lZ))) (dt (jO 5 (aD (ab dz 5 (vZ (f1 (mQ 0 0) (Y 0)) (f1 (mQ 0 3) (Y 0)) (Y 1) (ab aP 1 (az (Y 2))) (Y 3))))) (dt (qV 0 3 (iS 0) (aD (ab o5 4 (iZ (f1 (mQ 0 0) (Y 0)) (Y 5) (f1 (mQ 0 1) (Y 0)) (f1 (mQ 0 2) (Y 0)))))) (dt (qV 0 4 (iS 0) (aD (Y 3))) (oR (aD (Y 4))))))))
def bL:Ā:=l4 6 cP
def NT:wt:=("hear",11,3,bL)::Px
theorem ms(A:Am K Ca "Keeper.hear" "hear" (cF (Ï 130) 4) f)(t:HA P w K mg base T62)(a:Ļ P w K mg base 0 Ca Px):Ļ P w K mg base 0 Ca NT:=la (lb cka ["self","ask","text","now","word","notes"] ["self","ask","text","now"] cP A aK (by delta cP;fin2)) a
def fF:Ø:=(aJ (f1 (mQ 0 3) (Y 0)))
def aH:Ñ:=aQ 1 fF
def NU:IW:=("notes",1,0,aH)::Pv
theorem mv(A:Am K Ca "Keeper.notes" "notes" (cF (Ï 130) 1) f)(a:Ő P w K mg base 0 Ca Pv):Ő P w K mg base 0 Ca NU:=uT (zy cka ["self"] ["self"] fF A aK (by delta fF;fin2)) a
def fG:Ø:=(aI (aY (fB (I NF (Y 0) (ib dZ))) (aJ (I lJ (X 7) (Y 1))) í) (aJ (I cH (I Ì (Y 0) (I jx (Y 1) (â gZ (az (Y 0))))) (I lJ (X 6553) (I jF (Y 1) (â gZ (az (Y 0))))))))
def dc:Ñ:=aQ 2 fG
def T63:bS:=("_law_cell",1,["_law_script","_law_k"],dc)::T62
theorem rm(A:Af K "_law_cell" (Ï 132) f)(t:HA P w K mg base T62):HA P w K mg base T63:=ah (aq XI Gn ["_law_script","_law_k"] ["_law_script","_law_k"] fG A aK (by delta fG;fin2)) t
def dq:Ø:=(aI (bW 3 (I jx (I cH (I lJ (I jx (ab dc 2 (bt (Y 0) (Y 1))) (X 2147483563)) (X 69069)) (I lJ (X 104723) (I cH (Y 1) (X 1)))) (X 2147483563))) (aI (bW 3 (I jx (I cH (I lJ (Y 3) (Y 3)) (I jF (Y 3) (X 3))) (X 2147483399))) (aJ (I jx (I jF (I jx (I cH (I lJ (Y 3) (Y 3)) (I jF (Y 3) (X 7))) (X 2147483647)) (X 11)) (Y 2)))))
def ae:Ñ:=aQ 4 dq
def T64:bS:=("_law_drawn",2,["_law_script","_law_k","_law_many"],ae)::T63
theorem pb(A:Af K "_law_drawn" (Ï 133) f)(t:HA P w K mg base T63):HA P w K mg base T64:=ah (aq XI Gn ["_law_script","_law_k","_law_many","_law_cell_here"] ["_law_script","_law_k","_law_many"] dq A aK (by delta dq;fin2)) t
def ju:Ø:=(aI (bW 2 (ib (aO (Ð "a.b") (aO (Ð "b") (v3 (Ð "x.a.b") (Ð "y.x.a.b") (Ð "c.uk") (Ð "uk") (Ð "d.c.uk") (Ð "e.d.c.uk")))))) (aI (bW 2 (I cH (Y 2) (ib (v3 (Ð "w.ck") (Ð "v.w.ck") (Ð "ck") (Ð "g-1.a.b") (Ð "7.b") (Ð "p.q"))))) (aJ (I Ì (Y 2) (ab ae 3 (dP (Y 0) (Y 1) (â gZ (az (Y 2)))))))))
def aX:Ñ:=aQ 3 ju
def T65:bS:=("_law_name",3,["_law_script","_law_at"],aX)::T64
theorem rn(A:Af K "_law_name" (Ï 134) f)(t:HA P w K mg base T64):HA P w K mg base T65:=ah (aq XI Gn ["_law_script","_law_at","_law_some"] ["_law_script","_law_at"] ju A aK (by delta ju;fin2)) t
def jv:Ø:=(aI (bW 2 (ib (aO (Ð "/") (aO (Ð "/x") (aO (Ð "/x/") (v3 (Ð "/x/y") (Ð "/xy") (Ð "/x/y/z.q") (Ð "//") (Ð "/-_.9") (Ð "/x/y/"))))))) (aJ (I Ì (Y 2) (ab ae 3 (dP (Y 0) (Y 1) (â gZ (az (Y 2))))))))
def df:Ñ:=aQ 3 jv
def T66:bS:=("_law_path",3,["_law_script","_law_at"],df)::T65
theorem rp(A:Af K "_law_path" (Ï 136) f)(t:HA P w K mg base T65):HA P w K mg base T66:=ah (aq XI Gn ["_law_script","_law_at","_law_some"] ["_law_script","_law_at"] jv A aK (by delta jv;fin2)) t
def gG:Ø:=(aI (bW 2 (I Ì (ib (dP (fC .non) (ab aX 2 (bt (Y 0) (I cH (Y 1) (X 3)))) (ab aX 2 (bt (Y 0) (I cH (Y 1) (X 3)))))) (ab ae 3 (dP (Y 0) (I cH (Y 1) (X 2)) (X 3))))) (aJ (jC (iZ (I ß (ab ae 3 (dP (Y 0) (Y 1) (X 2))) (X 0)) (ab aX 2 (bt (Y 0) (I cH (Y 1) (X 1)))) (ab df 2 (bt (Y 0) (I cH (Y 1) (X 4)))) (Y 2)))))
def eZ:Ñ:=aQ 3 gG
def T67:bS:=("_law_ask",4,["_law_script","_law_at"],eZ)::T66
theorem tJ(A:Af K "_law_ask" (Ï 137) f)(t:HA P w K mg base T66):HA P w K mg base T67:=ah (aq XI Gn ["_law_script","_law_at","_law_origin"] ["_law_script","_law_at"] gG A aK (by delta gG;fin2)) t
def fV:Ø:=(aI (bW 3 (I Ì (ib (aO (Ð "n") (v3 (Ð "safe-a") (Ð "own-b") (Ð "N_2") (Ð "m-1") (Ð "safe-") (Ð "n")))) (ab ae 3 (dP (Y 0) (Y 1) (X 7))))) (aI (bW 4 (I Ì (ib (vZ (Ð "5") (Ð "") (Ð "a!b~") (Ð "x/y?z") (Ð "123456789012"))) (ab ae 3 (dP (Y 0) (I cH (Y 1) (X 1)) (X 5))))) (Eh 5 (vZ (fC .non) (fC .non) (Y 2) (I Ì (fM (g9) (Y 2) (az (Ð "."))) (f1 D7 (X 1))) (ab aX 2 (bt (Y 0) (I cH (Y 1) (X 3))))) (oH (IQ (ĩ (fB (I ō (Ð ".") (Y 2))) (wQ (Y 2) (cY (I cH (fM KU (Y 2) (az (Ð "."))) (X 1))) fL) (Y 2))) (oH (pS 6 (I Ì (ib (dP (fC .non) (Ð "/") (ab df 2 (bt (Y 0) (I cH (Y 1) (X 5)))))) (ab ae 3 (dP (Y 0) (I cH (Y 1) (X 4)) (X 3))))) (oH (pS 7 (I Ì (ib (dP (fC .non) (fC .non) (ab ae 3 (dP (Y 0) (I cH (Y 1) (X 7)) (X 60))))) (ab ae 3 (dP (Y 0) (I cH (Y 1) (X 6)) (X 3))))) (oH (pS 8 (I Ì (ib (dP (fC .non) (fC .non) (ab ae 3 (dP (Y 0) (I cH (Y 1) (X 9)) (X 30))))) (ab ae 3 (dP (Y 0) (I cH (Y 1) (X 8)) (X 3))))) (oH (pS 9 (I Ì (ib (bt (Ð "any") (Ð "near"))) (ab ae 3 (dP (Y 0) (I cH (Y 1) (X 11)) (X 2))))) (oH (pS 10 (I ß (ab ae 3 (dP (Y 0) (I cH (Y 1) (X 10)) (X 2))) (X 0))) (Gf 5 (jC (aO (Y 3) (aO (Y 4) (v3 (I Ì (Y 5) (ab ae 3 (dP (Y 0) (I cH (Y 1) (X 2)) (X 6)))) (Y 6) (Y 7) (Y 8) (Y 10) (Y 9)))))))))))))))
def ez:Ñ:=aQ 11 fV
def T68:bS:=("_law_given",4,["_law_script","_law_at","_law_house"],ez)::T67
theorem pc(A:Af K "_law_given" (Ï 138) f)(t:HA P w K mg base T67):HA P w K mg base T68:=ah (aq XI Gn ["_law_script","_law_at","_law_house","_law_name_here","_law_worth","_law_some","_law_path_here","_law_until","_law_lasts","_law_reach","_law_safe"] ["_law_script","_law_at","_law_house"] fV A aK (by delta fV;fin2)) t
def lg:Ø:=(aI (aY (fB (I Ì (Y 0) (X 3))) (aJ (I ß (I Ì (Y 0) (X 2)) (Y 1))) í) (aJ (ab aB 2 (bt (Y 1) (I Ì (Y 0) (X 2))))))
def iW:Ñ:=aQ 2 lg
def T69:bS:=("is_for",2,["note","house"],iW)::T68
theorem zP(A:Af K "is_for" (Ï 97) f)(t:HA P w K mg base T68):HA P w K mg base T69:=ah (aq XI Gn ["note","house"] ["note","house"] lg A aK (by delta lg;fin2)) t
def rq:Ø:=(aI (aY (ÿ (fB (ab aW 2 (bt (Y 1) (Y 3)))) (bX (fB (ab iW 2 (bt (Y 1) (I Ì (Y 2) (X 1))))))) (aJ (fC (.bl D))) í) (aI (aY (bX (fB (ab aZ 2 (bt (I Ì (Y 2) (X 2)) (I Ì (Y 1) (X 4)))))) (aJ (fC (.bl D))) í) (aI (aY (kB (fB (I Ì (Y 1) (X 6))) (bX (fB (I Ì (Y 2) (X 0))))) (aJ (fC (.bl D))) í) (aJ (Ě (I ß (I Ì (Y 1) (X 7)) (Ð "any")) (ab ag 2 (bt (Y 0) (Y 2))))))))
def jU:Ñ:=aQ 4 rq
def T70:bS:=("goes",6,["table","note","ask","now"],jU)::T69
theorem Hz(A:Af K "goes" (Ï 98) f)(t:HA P w K mg base T69):HA P w K mg base T70:=ah (aq XI Gn ["table","note","ask","now"] ["table","note","ask","now"] rq A aK (by delta rq;fin2)) t
def cQ:Ø:=(aI (cG (ab aL 1 (az (Y 0)))) (aI (cG (ab bj 1 (az (Y 1)))) (aI (cG (ab cq 1 (az (Y 2)))) (cG (ab bq 1 (az (Y 3)))))))
def cr:Ñ:=aQ 4 cQ
def T71:bS:=("need_sending",7,["table","jar","ask","now"],cr)::T70
theorem mw(A:Af K "need_sending" (Ï 114) f)(t:HA P w K mg base T70):HA P w K mg base T71:=ah (aq XI Gn ["table","jar","ask","now"] ["table","jar","ask","now"] cQ A aK (by delta cQ;fin2)) t
def rA:Ø:=(aI (cG (ab cr 4 (iZ (Y 0) (Y 1) (Y 2) (Y 3)))) (aI (bW 4 (bP 1 [("table",0),("ask",2),("now",3)] (cV (Y 1)) (gN 0) (Z (fB (ab jU 4 (iZ (Y 1) (Y 0) (Y 2) (Y 3))))) (Y 0))) (aJ (â (wo (IV 1 (f1 D7 (â gZ (az (I Ì (Y 0) (X 4))))))) (az (Y 4))))))
def rB:Ñ:=aQ 5 rA
def TL1:bS:=("sent",8,["table","jar","ask","now"],rB)::TL0
theorem HB(A:Af K "sent" (Ï 115) f)(t:HA P w K mg base T71)(b:Ś P w K mg base Pt qL TL0)(c:ctB K f Pt=L):Ś P w K mg base Pt qL TL1:=uP (zk (t:=λa=>qU K a Pt) XI Gn ["table","jar","ask","now","going"] ["table","jar","ask","now"] rA A aK (λ_ d=>Pm c d) (by delta rA;fin2)) b
def fH:Ø:=(aJ (fM (v7) (Ð "; ") (az (bY [] (cV (ab rB 4 (iZ (Y 0) (Y 1) (Y 2) (Y 3)))) U (I cH (I cH (I Ì (Y 0) (X 0)) (Ð "=")) (I Ì (Y 0) (X 1)))))))
def dg:Ñ:=aQ 4 fH
def TL2:bS:=("sent_text",9,["table","jar","ask","now"],dg)::TL1
theorem rD(A:Af K "sent_text" (Ï 116) f)(a:Ś P w K mg base Pt qL TL1):Ś P w K mg base Pt qL TL2:=uP (zk (t:=λ_=>True) XI Gn ["table","jar","ask","now"] ["table","jar","ask","now"] fH A aK (λ_ _=>trivial) (by delta fH;fin2)) a
def mx:Ø:=(aI (cG (ab bj 1 (az (Y 0)))) (aI (cG (ab bq 1 (az (Y 1)))) (aJ (ab bu 2 (bt (Y 0) (Y 1))))))
def eI:Ñ:=aQ 2 mx
def T72:bS:=("swept",7,["jar","now"],eI)::T71
theorem C8(A:Af K "swept" (Ï 105) f)(t:HA P w K mg base T71):HA P w K mg base T72:=ah (aq XI Gn ["jar","now"] ["jar","now"] mx A aK (by delta mx;fin2)) t
def jV:Ø:=(aJ (I gJ (i9 (Y 0) fL (cY (X 9))) (jC (az (â K4 (bt (I Ì (Y 0) (X 9)) (Y 1)))))))
def iK:Ñ:=aQ 2 jV
def T73:bS:=("used_at",1,["note","now"],iK)::T72
theorem wH(A:Af K "used_at" (Ï 118) f)(t:HA P w K mg base T72):HA P w K mg base T73:=ah (aq XI Gn ["note","now"] ["note","now"] jV A aK (by delta jV;fin2)) t
def rE:Ø:=(aI (cG (ab cr 4 (iZ (Y 0) (Y 1) (Y 2) (Y 3)))) (aJ (â hJ (az (bY [("table",0),("ask",2),("now",3)] (cV (Y 1)) U (ĩ (fB (ab jU 4 (iZ (Y 1) (Y 0) (Y 2) (Y 3)))) (ab iK 2 (bt (Y 0) (Y 3))) (Y 0)))))))
def rF:Ñ:=aQ 4 rE
def T74:bS:=("used",8,["table","jar","ask","now"],rF)::T73
theorem HC(A:Af K "used" (Ï 117) f)(t:HA P w K mg base T73):HA P w K mg base T74:=ah (aq XI Gn ["table","jar","ask","now"] ["table","jar","ask","now"] rE A aK (by delta rE;fin2)) t
def cR:cu:=(dt (jO 3 (aD (ab dg 4 (iZ (f1 (mQ 0 0) (Y 0)) (f1 (mQ 0 3) (Y 0)) (Y 1) (Y 2))))) (dt (l0 (ie 0 aV 1 (iS 0) (bw (aD (Y 2)) lZ))) (dt (qV 0 3 (iS 0) (aD (ab rF 4 (iZ (f1 (mQ 0 0) (Y 0)) (ab eI 2 (bt (f1 (mQ 0 3) (Y 0)) (Y 2))) (Y 1) (Y 2))))) (dt (qV 0 4 (iS 0) (aD (Y 2))) (oR (aD (Y 3)))))))
def cT:Ā:=l4 4 cR
theorem my(A:Am K Ca "Keeper.send" "send" (cF (Ï 130) 5) f)(t:HA P w K mg base T74)(b:Ś P w K mg base Pt qL TL2)(a:Ļ P w K mg base 0 Ca NT):zE P w K mg base Pt qL 0 Ca "send" 10 2 cT:=CV cka ["self","ask","now","text"] ["self","ask","now"] cR A aK (by delta cR;fin2)
def dD:cu:=(dt (jO 4 (ie 0 cT 2 (iS 1) (bw (aD (Y 2)) (bw (aD (Y 3)) lZ)))) (oR (NS (aD (I ß (Y 4) (ab dg 4 (iZ (Y 0) (cO 0 aH (Y 1)) (Y 2) (Y 3))))) (kT ß (ie 0 cT 2 (iS 1) (bw (aD (Y 2)) (bw (aD (Y 3)) lZ))) (Y 4)))))
def ce:Ā:=l4 5 dD
theorem mW(A:Af K "_law_sends" (Ï 140) f)(c:Ś P w K mg base Pt qL TL2)(b:Ő P w K mg base 0 Ca NU)(a:zE P w K mg base Pt qL 0 Ca "send" 10 2 cT):CS P w K mg base Pt qL "_law_sends" 11 4 ce:=CU XI Gn ["_law_table_here","_law_keeper","_law_ask_here","_law_now","_law_told"] ["_law_table_here","_law_keeper","_law_ask_here","_law_now"] dD A aK (by delta dD;fin2)
def cU:cu:=(dt (jO 2 (aD (ab eI 2 (bt (f1 (mQ 0 3) (Y 0)) (Y 1))))) (dt (l0 (ie 0 aV 1 (iS 0) (bw (aD (Y 1)) lZ))) (dt (qV 0 3 (iS 0) (aD (Y 2))) (qV 0 4 (iS 0) (aD (Y 1))))))
def dX:Ā:=l4 3 cU
def Py:wt:=("step",8,1,dX)::NT
theorem mz(A:Am K Ca "Keeper.step" "step" (cF (Ï 130) 6) f)(t:HA P w K mg base T74)(a:Ļ P w K mg base 0 Ca NT):Ļ P w K mg base 0 Ca Py:=la (lb cka ["self","now","left"] ["self","now"] cU A aK (by delta cU;fin2)) a
def dF:cu:=(dt (jO 2 (aD (cO 0 aH (Y 0)))) (dt (l0 (ie 0 dX 1 (iS 0) (bw (aD (Y 1)) lZ))) (dt (ň (ŵ (gq (fB (I č (cO 0 aH (Y 0)) (Y 2)))) (uB (kT kP (ie 0 dX 1 (iS 0) (bw (aD (X 9999)) lZ)) (fC .non)))) (oR (aD (fC (.bl D)))) wS) (oR (aD (ij (I ß (cO 0 cy (Y 0)) (X 9999)) (I ß (cO 0 aH (Y 0)) (ab eI 2 (bt (Y 2) (X 9999))))))))))
def eU:Ā:=l4 3 dF
def TW1:wt:=("_law_steps",9,2,eU)::TW0
theorem mX(A:Af K "_law_steps" (Ï 141) f)(t:HA P w K mg base T74)(a:Ez P w K mg base TW0)(c:Ő P w K mg base 0 Ca NU)(b:Ļ P w K mg base 0 Ca Py):Ez P w K mg base TW1:=zx (CM XI Gn ["_law_keeper","_law_now","_law_before"] ["_law_keeper","_law_now"] dF A aK (by delta dF;fin2)) a
def iL:Ø:=(aI (bW 2 (ib (aO (Ð "!w.ck") (aO (Ð "*.ck") (v3 (Ð "*.uk") (Ð "a.b") (Ð "b") (Ð "c.uk") (Ð "q") (Ð "uk")))))) (aJ (â hJ (az (bP 2 [("_law_script",0),("_law_at",1)] (λa=>Õ ((az (Y 2)) a) BL) (gP 0 1) (Z (fB (I ß (ab ae 3 (dP (Y 2) (I cH (Y 3) (Y 0)) (X 2))) (X 0)))) (Y 1))))))
def eC:Ñ:=aQ 3 iL
def T75:bS:=("_law_table",3,["_law_script","_law_at"],eC)::T74
theorem pk(A:Af K "_law_table" (Ï 135) f)(t:HA P w K mg base T74):HA P w K mg base T75:=ah (aq XI Gn ["_law_script","_law_at","_law_some"] ["_law_script","_law_at"] iL A aK (by delta iL;fin2)) t
def aM:Ø:=(aY (fB (I kP (Y 11) (fC .non))) (bW 9 (I gJ (I gJ (I gJ (I gJ (Y 9) (Ð "; ")) (Y 10)) (Ð " ")) (â IT (az (Y 11))))) í)
def fI:Ø:=(aI (KH [1,2,3,4] (i9 (Y 0) fL (cY (X 4)))) (aI (KH [5,6,7,8] (i9 (Y 0) (cY (X 4)) fL)) (aI (bW 9 (I gJ (I gJ (Y 1) (Ð "=")) (Y 2))) (aI (wb (gP 10 11) [11,10] (λa=>Õ ((bt (jC (iZ (Ð "for") (Ð "under") (Ð "until") (Ð "lasts"))) (i9 (Y 0) (cY (X 2)) (cY (X 6)))) a) IS) aM) (aJ (I gJ (I gJ (Y 9) (ĩ (fB (Y 7)) (Ð "; safe") (Ð ""))) (ĩ (fB (I ß (Y 8) (Ð "near"))) (Ð "; near") (Ð ""))))))))
def fJ:Ñ:=aQ 12 fI
def T76:bS:=("_law_text",1,["_law_given_here"],fJ)::T75
theorem rG(A:Af K "_law_text" (Ï 139) f)(t:HA P w K mg base T75):HA P w K mg base T76:=ah (aq XI Gn ["_law_given_here","_law_name_here","_law_worth","_law_house","_law_path_here","_law_until","_law_lasts","_law_safe","_law_reach","_law_text_here","_law_word","_law_thing"] ["_law_given_here"] fI A aK (by delta fI aM;fin2)) t
def jW:Ø:=(aI (cG (ab aL 1 (az (Y 0)))) (aI (cG (ab bj 1 (az (Y 1)))) (aI (cG (ab bN 1 (az (Y 2)))) (aI (cG (ab bN 1 (az (Y 3)))) (aJ (ab o5 4 (iZ (Y 0) (Y 1) (Y 2) (Y 3))))))))
def jX:Ñ:=aQ 4 jW
def T77:bS:=("fitted",7,["table","jar","each","most"],jX)::T76
theorem zQ(A:Af K "fitted" (Ï 124) f)(t:HA P w K mg base T76):HA P w K mg base T77:=ah (aq XI Gn ["table","jar","each","most"] ["table","jar","each","most"] jW A aK (by delta jW;fin2)) t
def jY:Ø:=(aI (cG (ab aL 1 (az (Y 0)))) (aI (cG (ab bj 1 (az (Y 1)))) (aI (bW 2 (bY [("table",0)] (cV (Y 1)) U (ab bz 2 (bt (Y 1) (Y 0))))) (aJ (bY [("names",2)] (cV (â jk (az (Y 2)))) U (jC (bt (Y 0) (fML NI (Y 1) (az (Y 0))))))))))
def iX:Ñ:=aQ 3 jY
def T78:bS:=("groups",7,["table","jar"],iX)::T77
theorem zR(A:Af K "groups" (Ï 123) f)(t:HA P w K mg base T77):HA P w K mg base T78:=ah (aq XI Gn ["table","jar","names"] ["table","jar"] jY A aK (by delta jY;fin2)) t
def zS:ë:=(fB (I č (cO 0 aH (Y 4)) (cO 0 aH (Y 5))))
def tK:ë:=(ÿ (bX (fB (ab gT 1 (az (Y 13))))) (ÿ (fB (I č (ab eI 2 (bt (Y 13) (Y 7))) (Y 13))) (fB (I č (cO 0 cy (Y 4)) (Y 7)))))
def tL:ë:=(fB (I č (ab jX 4 (iZ (Y 1) (Y 13) (Y 2) (Y 3))) (Y 13)))
def tM:ë:=(ÿ (fB (I ű (â NN (az (I gJ (bP 2 [] (cV (ab iX 2 (bt (Y 1) (Y 13)))) (gP 0 1) U (Y 1)) (ib (az (X 0)))))) (Y 2))) (fB (I ű (â gZ (az (Y 13))) (Y 3))))
def mB:ë:=(kB (fB (I ß (Y 8) (X 0))) (fB (I č (cO 0 aH (Y 6)) (Y 13))))
def zT:cu:=(jO 14 (aD (ab eZ 2 (bt (Y 0) (I gJ (Y 9) (X 30))))))
def zU:cu:=(ň (gq mB) (oR (aD (fC (.bl D)))) wS)
def zV:cu:=(ň (gq tM) (oR (aD (fC (.bl D)))) wS)
def zW:cu:=(ň (gq tL) (oR (aD (fC (.bl D)))) wS)
def zX:cu:=(ň (gq tK) (oR (aD (fC (.bl D)))) wS)
def zY:cu:=(jO 13 (aD (cO 0 aH (Y 4))))
def zZ:cu:=(l0 (ie 0 bL 3 (iS 6) (bw (aD (Y 10)) (bw (aD (Y 11)) (bw (aD (Y 7)) lZ)))))
def z0:cu:=(ň (ŵ (uB (kT č (ie 0 bL 3 (iS 5) (bw (aD (Y 10)) (bw (aD (Y 11)) (bw (aD (Y 7)) lZ)))) (Y 12))) (gq zS)) (oR (aD (fC (.bl D)))) wS)
def z3:cu:=(jO 12 (ie 0 bL 3 (iS 4) (bw (aD (Y 10)) (bw (aD (Y 11)) (bw (aD (Y 7)) lZ)))))
def z4:cu:=(jO 11 (aD (ab fJ 1 (az (ab ez 3 (dP (Y 0) (I gJ (Y 9) (X 10)) (I Ì (Y 10) (X 1))))))))
def uW:cu:=(jO 10 (aD (ab eZ 2 (bt (Y 0) (I gJ (Y 9) (X 1))))))
def uX:cu:=(jO 7 (aD (I gJ (Y 7) (ab ae 3 (dP (Y 0) (Y 9) (X 5))))))
def uY:cu:=(jO 9 (aD (I gJ (X 20) (I lJ (X 40) (Y 8)))))
def mC:cu:=(dt uY (dt uX (dt uW (dt z4 (dt z3 (dt z0 (dt zZ (dt zY (dt zX (dt zW (dt zV (dt zU (dt zT (ň (ŵ (IX (uB (oV ce 4 (bw (aD (Y 1)) (bw (iS 4) (bw (aD (Y 14)) (bw (aD (Y 7)) lZ))))))) (IX (uB (oV ce 4 (bw (aD (Y 1)) (bw (iS 5) (bw (aD (Y 14)) (bw (aD (Y 7)) lZ)))))))) (oR (aD (fC (.bl D)))) wS))))))))))))))
def z7:ë:=(fB (I č (cO 0 cy (Y 6)) (Y 7)))
def Aa:ë:=(fB (I č (â gZ (az (cO 0 aH (Y 4)))) (I xM (Y 16) (Y 17))))
def pq:cu:=(ň (ŵ (gq Aa) (uB (kT č (ie 0 bQ 1 (iS 4) (bw (aD (Y 15)) lZ)) (X 0)))) (oR (aD (fC (.bl D)))) wS)
def pv:cu:=(jO 17 (ie 0 bQ 1 (iS 4) (bw (aD (Y 15)) lZ)))
def pB:cu:=(jO 16 (aD (â gZ (az (cO 0 aH (Y 4))))))
def pC:cu:=(jO 15 (aD (ab aX 2 (bt (Y 0) (X 13)))))
def pD:cu:=(ň (ŵ (gq z7) (IX (uB (oV eU 2 (bw (iS 4) (bw (aD (Y 7)) lZ)))))) (oR (aD (fC (.bl D)))) wS)
def uZ:cu:=(wu 8 [8,9,10,11,12,13,14] (iU1 (az (ab ae 3 (dP (Y 0) (X 12) (X 7))))) mC)
def u3:cu:=(jO 7 (aD (X 0)))
def u4:cu:=(jO 6 (sU 0 ba 3 (bw (aD (Y 1)) (bw (aD (X 20)) (bw (aD (X 20)) lZ)))))
def u5:cu:=(jO 5 (sU 0 ba 3 (bw (aD (Y 1)) (bw (aD (Y 2)) (bw (aD (Y 3)) lZ)))))
def u8:cu:=(jO 4 (sU 0 ba 3 (bw (aD (Y 1)) (bw (aD (Y 2)) (bw (aD (Y 3)) lZ)))))
def u9:cu:=(jO 3 (aD (I gJ (X 1) (ab ae 3 (dP (Y 0) (X 11) (X 6))))))
def vb:cu:=(jO 2 (aD (I gJ (X 1) (ab ae 3 (dP (Y 0) (X 10) (X 4))))))
def vd:cu:=(jO 1 (aD (ab eC 2 (bt (Y 0) (X 0)))))
def wI:cu:=(dt vd (dt vb (dt u9 (dt u8 (dt u5 (dt u4 (dt u3 (dt uZ (dt pD (dt pC (dt pB (dt pv (dt pq (oR (aD (I ß (bY [("_law_house",15)] (cV (cO 0 aH (Y 4))) (Z (fB (I ß (I Ì (Y 0) (X 2)) (Y 1)))) (Y 0)) (ib dZ)))))))))))))))))
def wJ:Ñ:=NR 18 wI
theorem Mp{a:SO}(A:ĥ K "law" "law" (Ï 142) f a)(t:HA P w K mg base T78)(g:Ez P w K mg base TW1)(e:CS P w K mg base Pt qL "_law_sends" 11 4 ce)(c:Ő P w K mg base 0 Ca NU)(b:Ļ P w K mg base 0 Ca Py)(d:LX P w K mg base 0 Ca 7 3 ba):ê P w K mg base ù 12 f a ["_law_script"] (ų Pt qL K wJ 1):=Ho ["_law_script","_law_table_here","_law_each","_law_most","_law_keeper","_law_twin","_law_wide","_law_now","_law_k","_law_here","_law_ask_here","_law_text_here","_law_word","_law_jar","_law_out","_law_house","_law_many","_law_gone"] ["_law_script"] wI (by lk) (by lk) A (Bf (by lk)) (by delta wI zS tK tL tM mB zT zU zV zW zX zY zZ z0 z3 z4 uW uX uY mC z7 Aa pq pv pB pC pD uZ u3 u4 u5 u8 u9 vb vd;fin2)
end
def af{K:d_}{x:Str}{b:S7}(f:O)(m:String:="law_notejar_k71_whole_keepers")(t:Nat:=1065)(c:Nat:=Nat.pred f)(a:nsM K x=Z (Z (.ref f)):=by lk)(l:K.lookup f=Z ⟨p_ "function",U,.func (Uh x x (gM b) (bF b) (ai b) .none .none .none (kS m t) U (kR c) .none),#[]⟩:=by lk)(d:Ws K (kR c) x=L:=by lk)(k:SU K (.ref f)=L:=by lk):Af K x b f:=⟨a,⟨_,DU l d k⟩,k⟩
def amf{K:d_}{x q:Str}{a:S7}(f:O)(m:String)(t c:Nat)(l:K.lookup f=Z ⟨p_ "function",U,.func (Uh x q (gM a) (bF a) (ai a) .none .none .none (kS m t) U (kR c) .none),#[]⟩:=by lk)(d:Ws K (kR c) q=L:=by lk)(k:SU K (.ref f)=L:=by lk):∃b,ĥ K x q a f b:=⟨_,DU l d k⟩
def am{K:d_}{C:O}{x q:Str}{b:S7}{f:O}(e:∃c,ĥ K x q b f c)(a:Te K (.ref C) x=Z (Z (.ref f)):=by lk)(i:Yq K (.ref f)=L:=by lk)(k:SU K (.ref f)=L:=by lk):Am K C q x b f:=⟨⟨a,i,k⟩,e⟩
def all_mk{l:YG}{w:z_}{K:d_}{h:M_}{g:Str->Option R}{fa:O}(X:K.In h)(G:h.Ns H_ g)(d3:g "law"=Z (.ref fa)){f1 I f3 f4 f5 f6 f7 f8 f9 p5 p4 p3 p2 p1 o4 o3 o2 o1 o0 n9 n8 n7 n6 n5 n4 n3 n2 n1 n0 m8 m6 m4 m3 m2 m1 m0 l9 l6 l5 l3 l2 l1 k5 k4 k3 k2 k1 k0 j2 j1 j0 i8 i3 i1 h9 h8 h7 h6 h5 h4 h3 h2 h1 h0 g0 f0 e9 e8 e7 e6 e5 r e4 e3 e2 e1 e0 d9 d8 d7 d6 d4 fl:O}(A1:Af K "is_whole_number" (Ï 11) f1)(A2:Af K "need_room" (Ï 121) I)(A3:Af K "is_text_of" (Ï 10) f3)(A4:Af K "is_label" (Ï 19) f4)(A5:Af K "is_name" (Ï 20) f5)(A6:Af K "is_rule" (Ï 21) f6)(A7:Af K "is_table" (Ï 22) f7)(A8:Af K "need_table" (Ï 24) f8)(A9:Af K "lies_within" (Ï 25) f9)(C6:Af K "key" (Ï 95) p5)(B3:Af K "has_no_key_twice" (Ï 103) p4)(B2:Af K "is_by_made" (Ï 102) p3)(z9:Af K "is_moment" (Ï 45) p2)(z8:Af K "is_moment_or_none" (Ï 46) p1)(z6:Af K "is_note_name" (Ï 66) o4)(z5:Af K "is_path" (Ï 34) o3)(z2:Af K "is_reach" (Ï 68) o2)(z1:Af K "is_tuple_of" (Ï 12) o1)(y9:Af K "is_worth" (Ï 67) o0)(y8:Af K "is_note" (Ï 90) n9)(y7:Af K "is_jar" (Ï 101) n8)(y6:Af K "need_jar" (Ï 104) n7)(y5:Af K "need_name" (Ï 23) n6)(y4:Af K "forgotten" (Ï 107) n5)(y3:Af K "ends_longest_first" (Ï 26) n4)(y2:Af K "behind_first_dot" (Ï 27) n3)(y1:Af K "is_told_open" (Ï 28) n2)(y0:Af K "find_open_end" (Ï 29) n1)(x9:Af K "find_own_end" (Ï 30) n0)(x8:Af K "group_of" (Ï 122) m8)(x7:Af K "rank" (Ï 127) m6)(x6:Af K "too_many" (Ï 126) m4)(x5:Af K "without" (Ï 128) m3)(x4:Af K "fit" (Ï 125) m2)(x2:Af K "is_written_moment" (Ï 71) m1)(x1:Af K "what_is_told" (Ï 72) m0)(x0:Af K "read_given" (Ï 73) l9)(w7:Af K "end_for" (Ï 93) l6)(w3:Af K "house_for" (Ï 91) l5)(w2:Af K "is_open" (Ï 86) l3)(w1:Af K "is_exact" (Ï 87) l2)(w0:Af K "is_ask" (Ï 48) l1)(v9:Af K "need_ask" (Ï 49) k5)(v6:Af K "is_given" (Ï 69) k4)(v5:Af K "need_given" (Ï 70) k3)(v2:Af K "need_moment" (Ï 47) k2)(v1:Af K "need_path" (Ï 35) k1)(v0:Af K "folder" (Ï 36) k0)(u7:Af K "path_for" (Ï 92) j2)(u6:Af K "comes_from_near" (Ï 50) j1)(u2:Af K "keeps_its_mark" (Ï 88) j0)(u1:Af K "why_refused" (Ï 89) i8)(u0:Af K "made" (Ï 94) i3)(s9:Af K "put" (Ï 108) i1)(s8:Af K "has_ended" (Ï 96) h9)(s7:Af K "without_ended" (Ï 106) h8)(s6:Af K "lies_under" (Ï 37) h7)(s5:Af K "shadows" (Ï 112) h6)(s4:Af K "word_of" (Ï 111) h5)(s3:Af K "take_in" (Ï 113) h4)(s2:Af K "read_what_is_given" (Ï 109) h3)(s1:Af K "verdict" (Ï 110) h2)(s0:Af K "_law_cell" (Ï 132) h1)(r8:Af K "_law_drawn" (Ï 133) h0)(r7:Af K "_law_name" (Ï 134) g0)(r6:Af K "_law_path" (Ï 136) f0)(r5:Af K "_law_ask" (Ï 137) e9)(r4:Af K "_law_given" (Ï 138) e8)(r3:Af K "is_for" (Ï 97) e7)(r2:Af K "goes" (Ï 98) e6)(r1:Af K "need_sending" (Ï 114) e5)(r0:Af K "sent" (Ï 115) r)(q7:Af K "sent_text" (Ï 116) e4)(q6:Af K "swept" (Ï 105) e3)(q5:Af K "used_at" (Ï 118) e2)(q4:Af K "used" (Ï 117) e1)(q3:Af K "_law_sends" (Ï 140) e0)(q2:Af K "_law_steps" (Ï 141) d9)(q1:Af K "_law_table" (Ï 135) d8)(q0:Af K "_law_text" (Ï 139) d7)(p7:Af K "fitted" (Ï 124) d6)(p6:Af K "groups" (Ï 123) d4){d g1 g2 g3 g4 g5 g6 g7 g8:O}(a:CK K 0 d)(G1:∃m,ĥ K "__init__" "Keeper.__init__" (cF (Ï 130) 0) g1 m)(d2:Mk K d g1)(G2:Am K d "Keeper.clock" "clock" (cF (Ï 130) 2) g2)(G3:Am K d "Keeper.forget" "forget" (cF (Ï 130) 7) g3)(G4:Am K d "Keeper.need_no_earlier" "need_no_earlier" (cF (Ï 130) 3) g4)(G5:Am K d "Keeper.hear" "hear" (cF (Ï 130) 4) g5)(G6:Am K d "Keeper.notes" "notes" (cF (Ï 130) 1) g6)(G7:Am K d "Keeper.send" "send" (cF (Ï 130) 5) g7)(G8:Am K d "Keeper.step" "step" (cF (Ï 130) 6) g8)(AL:Af K "law" (Ï 142) fl)(ma:CC.all (Pe K)=L){B:O}(ct:ctB K r B=L)(bb:bmB K=L):∃m:SO,(∀(s:g_)(v:R),ZV s m ⟨[v],[]⟩ [("_law_script",v)])/\∀c:M_,K.In c->c.Ns H_ g->ê l.prog w K g c ù 12 fa m ["_law_script"] (ų B qL K wJ 1):=by
 have e:=d3.symm.trans (UC X G AL.a);cases e;have M:=Ly X G CC ma;obtain⟨m,Fn⟩:=AL.F;refine⟨m,?_,λc _ _=>?_⟩;·obtain⟨oc,od,kV,D2,pm,an,D3,ct,D0,rfl,lk,D1⟩:=Fn.ex;exactλs v=>.of_eq rfl
 have b:=Pn X G bb;have t0:HA l.prog w K g c T0:=Lx;have b':Ś l.prog w K g c B qL TL0:=GU;have P:Ez l.prog w K g c TW0:=CL;have A:Ő l.prog w K g c 0 d Ps:=Hn;have y:Ļ l.prog w K g c 0 d Pu:=Hl;have t1:=jP X G M b a A1 t0;have t2:=qY X G M b a A2 t1;have t3:=oX X G M b a A3 t2;have t4:=sW X G M b a A4 t3;have t5:=ww X G M b a A5 t4;have t6:=wx X G M b a A6 t5;have t7:=sX X G M b a A7 t6;have t8:=oY X G M b a A8 t7;have c':=jo X G M b a G1 d2 t8;have z:=mf X G M b a G2 A;have t9:=mS X G M b a A9 t8;have d1:=Ml X G M b a C6 t9;have d0:=jp X G M b a B3 d1;have c9:=oZ X G M b a B2 d0;have c8:=q8 X G M b a z9 c9;have c7:=jc X G M b a z8 c8;have c6:=mh X G M b a z6 c7;have c5:=wy X G M b a z5 c6;have c4:=sY X G M b a z2 c5;have c3:=mT X G M b a z1 c4;have c2:=sZ X G M b a y9 c3;have c1:=wz X G M b a y8 c2;have c0:=zL X G M b a y7 c1;have b9:=td X G M b a y6 c0;have b8:=q9 X G M b a y5 b9;have q:=rf X G M b a y4 b8;have u:=ko X G M b a G3 q y;have t:=fN X G M b a G4 u;have b7:=iB X G M b a y3 q;have b6:=jq X G M b a y2 b7;have b5:=mj X G M b a y1 b6;have b4:=kU X G M b a y0 b5;have b3:=mo X G M b a x9 b4;have b2:=tj X G M b a x8 b3;have b1:=Hx X G M b a x7 b2;have b0:=tq X G M b a x6 b1;have a9:=wA X G M b a x5 b0;have a8:=Mm X G M b a x4 a9;have a7:=jd X G M b a x2 a8;have a6:=mq X G M b a x1 a7;have a5:=o6 X G M b a x0 a6;have a3:=wB X G M b a w7 a5;have a2:=rg X G M b a w3 a3;have a1:=wC X G M b a w2 a2;have a0:=tu X G M b a w1 a1;have U':=zN X G M b a w0 a0;have S':=tz X G M b a v9 U';have R':=tE X G M b a v6 S';have Q':=o7 X G M b a v5 R';have O':=mU X G M b a v2 Q';have I':=rh X G M b a v1 O';have H':=zO X G M b a v0 I';have E':=tG X G M b a u7 H';have D':=jT X G M b a u6 E';have C':=kq X G M b a u2 D';have B':=mV X G M b a u1 C';have A':=Hy X G M b a u0 B';have z':=Mn X G M b a s9 A';have y':=rj X G M b a s8 z';have x':=kW X G M b a s7 y';have w':=o9 X G M b a s6 x';have v':=wD X G M b a s5 w';have u':=wE X G M b a s4 v';have t':=wF X G M b a s3 u';have s':=iI X G M b a s2 t';have p:=wG X G M b a s1 s';have k:=ms X G M b a G5 p t;have f:=mv X G M b a G6 z;have r':=rm X G M b a s0 p;have q':=pb X G M b a r8 r';have p':=rn X G M b a r7 q';have o':=rp X G M b a r6 p';have n':=tJ X G M b a r5 o';have m':=pc X G M b a r4 n';have l':=zP X G M b a r3 m';have k':=Hz X G M b a r2 l';have o:=mw X G M b a r1 k';have a':=HB X G M b a r0 o b' ct;have n:=rD X G M b a q7 a';have i':=C8 X G M b a q6 o;have h':=wH X G M b a q5 i';have i:=HC X G M b a q4 h';have E:=my X G M b a G7 i n k;have ty:=mW X G M b a q3 n f E;have j:=mz X G M b a G8 i k;have H:=mX X G M b a q2 i P f j;have g':=pk X G M b a q1 i;have f':=rG X G M b a q0 g';have e':=zQ X G M b a p7 f';have d':=zR X G M b a p6 e';exact Mp X G M b a Fn d' H ty f j c'
end G
set_option maxHeartbeats 4000000
namespace FD
open PySem.StrLaws PySem.Builtin PySem.Builtin.Str
def J(S:List Nat):List Nat->List (List Nat)->List Nat|p,[]=>p|p,q::r=>p++(S++J S q r)
def ŗ:At b j b.length c↔c+j.length<=b.length/\(b.cps.toList.drop c).take j.length=j.cps.toList:=by unfold At;rw[subAt_eq];simp
def Ab{a:List Nat}(e:j.cps.toList=c::a){k:Nat}(h:At b j b.length k):b.cps.toList[k]?=Z c:=by
 obtain⟨_,f⟩:=ŗ.mp h;rw[e]at f;have d:=congrArg (λl=>l[0]?) f;simp only[List.getElem?_cons_zero]at d;have g:0<j.length:=by show 0<j.cps.size;rw[<-Sx,e];simp
 rw[X0 g,XE]at d;simpa using d
def HE{d:List Nat}(n:j.cps.toList=c::d){p g:List Nat}{a k:Nat}(m:b.cps.toList.drop a=p++g)(i:c∉p)(q:a<=k)(o:k<a+p.length):¬At b j b.length k:=by
 intro h;have e:=Ab n h;have f:(b.cps.toList.drop a)[k-a]?=Z c:=by rw[XE,show a+(k-a)=k by omega];exact e
 rw[m,Su (by omega)]at f;exact i (Sg f)
def ve{x b:Str}{c:Nat}{v:List Nat}(y:b.cps.toList=c::v):∀(g:List (List Nat))(p:List Nat)(a:Nat)(d:List Nat)(f:Nat),(∀q∈p::g,c∉q)->x.cps.toList.drop a=J b.cps.toList p g->a<=x.length->ChainG x b x.length a d f->(∀k,f<=k->¬At x b x.length k)->(partsFrom x b.length a d).map (λs=>s.cps.toList)=p::g
 |[],p,a,d,f,w,o,ha,t,B=>by
  have i:x.cps.toList.length=x.length:=by simp[Xv]
  have E:∀k,a<=k->¬At x b x.length k:=λk hk h=>by
   have e:=Ab y h;have e2:(x.cps.toList.drop a)[k-a]?=Z c:=by rw[XE,show a+(k-a)=k by omega];exact e
   rw[o]at e2;exact w p o_ (Sg e2)
  cases d with|nil=>
   show[(strSub x a x.length).cps.toList]=[p];rw[strSub_toList,o];show[p.take (x.length-a)]=[p];have:p.length=x.length-a:=by have:=congrArg W1 o;rw[WQ,i]at this;exact this.symm
   rw[Vy (by omega)]|cons k A=>exact absurd t.2.1 (E k t.1)
 |q::r,p,a,d,f,w,o,ha,t,B=>by
  have i:x.cps.toList.length=x.length:=by simp[Xv]
  have j:b.cps.toList.length=b.length:=by simp[Xv]
  have n:x.cps.toList.drop a=p++(b.cps.toList++J b.cps.toList q r):=o;have m:x.cps.toList.drop (a+p.length)=b.cps.toList++J b.cps.toList q r:=by rw[<-List.drop_drop,n,List.drop_left]
  have H:=congrArg W1 m;rw[WQ,i,SV,j]at H;have a':0<b.length:=by rw[<-j,y];simp
  have u:At x b x.length (a+p.length):=ŗ.mpr ⟨by omega,by rw[m,<-j,List.take_left]⟩;have P:∀k,a<=k->k<a+p.length->¬At x b x.length k:=λk h1 h2=>HE y n (w p o_) h1 h2;cases d with|nil=>exact absurd u (B _ (by have:f=a:=t;omega))|cons k A=>
   obtain⟨g1,g2,g3,g4⟩:=t;have ek:k=a+p.length:=by
    rcases XQ k (a+p.length)with h|h|h;·exact absurd g2 (P k g1 h)
    ·exact h
    ·exact absurd u (g3 _ (by omega) h)
   subst ek;show(strSub x a (a+p.length)).cps.toList::(partsFrom x b.length (a+p.length+b.length) A).map (λs=>s.cps.toList)=p::q::r;rw[ve y r q (a+p.length+b.length) A f (λz hz=>w z (m_ _ hz)) (by rw[<-List.drop_drop,m,<-j,List.drop_left]) (by omega) g4 B,strSub_toList,n,show a+p.length-a=p.length by omega,List.take_left]
def Ac(h:b.cps.toList=j.cps.toList):b=j:=by obtain⟨⟨b⟩⟩:=b;obtain⟨⟨j⟩⟩:=j;simp at h;rw[h]
def jw:∀{l m:List Str},l.map (λs=>s.cps.toList)=m.map (λs=>s.cps.toList)->l=m|[],[],_=>rfl|a::l,b::m,h=>by simp only[K_,YJ]at h;rw[Ac h.1,jw h.2]|[],_::_,h=>by simp at h|_::_,[],h=>by simp at h
def tN{g:List Nat}(u:j.cps.toList=c::g)(E:Uq j=1){p:Str}{a:List Str}(o:∀q∈p::a,c∉q.cps.toList)(k:b.cps.toList=J j.cps.toList p.cps.toList (a.map λs=>s.cps.toList)):UO b j=p::a:=by
 have e:j.cps.toList.length=j.length:=by simp[Xv]
 have i:b.cps.toList.length=b.length:=by simp[Xv]
 obtain⟨f,z,w⟩:=occ_tight b j (by rw[<-e,u];simp);have d:=ve u (a.map λs=>s.cps.toList) p.cps.toList 0 _ f (by
  intro q m;rcases w_.mp m with rfl|m;·exact o p o_
  ·obtain⟨s,v,rfl⟩:=R7.mp m;exact o s (m_ _ v)) (by rw[XG];exact k) (Sb _) z w;have B:1<=Uq b:=by unfold Uq;split;omega;split<;>omega
 unfold UO;split
 · rename_i t;rw[Bool.or_eq_true,decide_eq_true_eq,decide_eq_true_eq]at t;rcases t with h|h;·cases a with|nil=>rw[Ac (b:=b) (j:=p) k]|cons q r=>have:=congrArg W1 k;rw[i]at this;simp only[K_,J,SV,e]at this;omega
   ·omega
 · split;·rename_i y;have A:occurrences b j 0 b.length (b.length+1)=[]:=List.isEmpty_iff.mp y;rw[A]at d;have n:[(strSub b 0 b.length).cps.toList]=p.cps.toList::(a.map λs=>s.cps.toList):=d;rw[sub_whole]at n;exact jw (l:=[b]) (m:=p::a) n
   ·rw[partsBetween_eq];exact jw (by rw[d];rfl)
open L2
def vf{c:Ò}{d:Ev}{e:Type}(g:e->N)(f:e->N):∀{l:List e},(∀a∈l,c (d.set 0 (Z (g a)))=Z (.ok (f a)))->xK U c d (l.map g)=Z (l.map f)|[],_=>rfl|a::l,h=>by have i:=vf (c:=c) (d:=d) g f (l:=l) λb j=>h b (m_ _ j);rw[K_,K_];unfold xK;dsimp only;rw[h a o_,i]
def rH{d:ë}{e:Ò}{c:Ev}{g:Type}(i:g->N)(p:g->Bool)(f:g->N):∀{l:List g},(∀a∈l,d (c.set 0 (Z (i a)))=Z (.ok (p a))/\e (c.set 0 (Z (i a)))=Z (.ok (f a)))->xK (Z d) e c (l.map i)=Z ((l.filter p).map f)|[],_=>rfl|a::l,h=>by have j:=rH (d:=d) (e:=e) (c:=c) i p f (l:=l) λb k=>h b (m_ _ k);obtain⟨n,m⟩:=h a o_;rw[K_];unfold xK;dsimp only;rw[n,j];cases q:p a with|true=>dsimp only;rw[m,Yk q];rfl|false=>dsimp only;rw[Yl (by rw[q];decide)]
def vg{c:Ò}{d:Ev}{g:Type}(e:g->N)(f:g->N):∀{l:List g},(∀a∈l,c (d.set 0 (Z (e a)))=Z (.ok (f a)))->jy (gN 0) U c d (l.map e)=Z (l.map f)|[],_=>rfl|a::l,h=>by have i:=vg (c:=c) (d:=d) e f (l:=l) λb j=>h b (m_ _ j);rw[K_,K_];unfold jy;show(match c (d.set 0 (Z (e a)))with|some (.ok y)=>_|_=>_)=_;rw[h a o_,i]
def rJ{d:ë}{e:Ò}{c:Ev}{i:Type}(g:i->N)(p:i->Bool)(f:i->N):∀{l:List i},(∀a∈l,d (c.set 0 (Z (g a)))=Z (.ok (p a))/\e (c.set 0 (Z (g a)))=Z (.ok (f a)))->jy (gN 0) (Z d) e c (l.map g)=Z ((l.filter p).map f)|[],_=>rfl|a::l,h=>by have j:=rJ (d:=d) (e:=e) (c:=c) g p f (l:=l) λb k=>h b (m_ _ k);obtain⟨n,m⟩:=h a o_;rw[K_];unfold jy;show(match d (c.set 0 (Z (g a)))with|some (.ok L)=>_|some (.ok D)=>_|_=>_)=_;rw[n,j];cases q:p a with|true=>dsimp only;rw[m,Yk q];rfl|false=>dsimp only;rw[Yl (by rw[q];decide)]
def eV{c:List (Str×Nat)}(b f:z->N){l:List z}(e:μ ζ=Z (.ok (l.map b)))(d:l.length<=100000)(h:∀a∈l,A ((IN c ζ).set 0 (Z (b a)))=Z (.ok (f a))):bY c μ U A ζ=Z (.ok (.lst (l.map f))):=by unfold bY;rw[e];show(match xK U A (IN c ζ) (l.map b)with|some g=>_|none=>_)=_;rw[vf b f h];dsimp only;rw[if_pos ⟨by simpa using d,by simpa using d⟩]
def iM{c:List (Str×Nat)}(b:z->N)(p:z->Bool)(f:z->N){l:List z}(d:μ ζ=Z (.ok (l.map b)))(e:l.length<=100000)(h:∀a∈l,Ο ((IN c ζ).set 0 (Z (b a)))=Z (.ok (p a))/\A ((IN c ζ).set 0 (Z (b a)))=Z (.ok (f a))):bY c μ (Z Ο) A ζ=Z (.ok (.lst ((l.filter p).map f))):=by unfold bY;rw[d];show(match xK (Z Ο) A (IN c ζ) (l.map b)with|some g=>_|none=>_)=_;rw[rH b p f h];dsimp only;have:=SX p l;rw[if_pos ⟨by simp;omega,by simpa using e⟩]
def rK{c:List (Str×Nat)}(b f:z->N){l:List z}(e:μ ζ=Z (.ok (l.map b)))(d:l.length<=100000)(h:∀a∈l,A ((hU 1 c ζ).set 0 (Z (b a)))=Z (.ok (f a))):bP 1 c μ (gN 0) U A ζ=Z (.ok (.lst (l.map f))):=by unfold bP;rw[e];show(match jy (gN 0) U A (hU 1 c ζ) (l.map b)with|some g=>_|none=>_)=_;rw[vg b f h];dsimp only;rw[if_pos ⟨by simpa using d,by simpa using d⟩]
def kr{c:List (Str×Nat)}(b:z->N)(p:z->Bool)(f:z->N){l:List z}(d:μ ζ=Z (.ok (l.map b)))(e:l.length<=100000)(h:∀a∈l,Ο ((hU 1 c ζ).set 0 (Z (b a)))=Z (.ok (p a))/\A ((hU 1 c ζ).set 0 (Z (b a)))=Z (.ok (f a))):bP 1 c μ (gN 0) (Z Ο) A ζ=Z (.ok (.lst ((l.filter p).map f))):=by unfold bP;rw[d];show(match jy (gN 0) (Z Ο) A (hU 1 c ζ) (l.map b)with|some g=>_|none=>_)=_;rw[rJ b p f h];dsimp only;have:=SX p l;rw[if_pos ⟨by simp;omega,by simpa using e⟩]
def HF{j:Int}(h:-(2^62)<=i/\i<2^62/\-(2^62)<=j/\j<2^62):Be [.int i,.int j]=Z (.ok (rng i (j-i).toNat)):=by rw[Be,if_pos h]
def HG(h:c<=1000):-(2^62)<=(1:Int)/\(1:Int)<2^62/\-(2^62)<=(c:Int)/\(c:Int)<2^62:=by omega
def Mq(h:c<=1000):Be [.int 1,.int (c:Int)]=Z (.ok (rng 1 ((c:Int)-1).toNat)):=HF (HG h)
def mD{b:Type}(p:b->Bool):∀l:List b,i5 (l.map λa=>N.bl (p a))=Z (l.map p)|[]=>rfl|a::l=>by show(match i5 (l.map λa=>N.bl (p a))with|some bs=>Z (p a::bs)|none=>U)=_;rw[mD p l];rfl
mutual
def œ:N->Bool|.exn _=>D|.obj _ _=>D|.tup a=>Ĳ a|.lst a=>Ĳ a|_=>L
def Ĳ:List N->Bool|[]=>L|d::a=>œ d&&Ĳ a
end
mutual
theorem pE:∀d:N,œ d=L->SI (di d) (di d)=L
 |.non,_=>by simp[di,SI]|.bl b,_=>by simp[di,SI]|.int b,_=>by simp[di,SI]|.str b,_=>by simp[di,SI]|.tup a,h=>by simp only[di,SI];exact ĕ a (by simpa[œ]using h)|.lst a,h=>by simp only[di,SI];exact ĕ a (by simpa[œ]using h)|.scr c,_=>by simp only[di,SI];induction c with|nil=>simp[UF]|cons n c f=>simp[UF,SI];exact f rfl
 |.exn _,h=>by simp[œ]at h|.obj _ _,h=>by simp[œ]at h
theorem ĕ:∀a:List N,Ĳ a=L->UF (ç a) (ç a)=L
 |[],_=>by simp[ç,UF]|d::a,h=>by
  have e:œ d=L/\Ĳ a=L:=by simpa[Ĳ]using h
  simp only[ç,UF,pi];exact⟨pE d e.1,ĕ a e.2⟩end
def kK(a b:Str):Ŀ (.str a) (.str b)=Z (seq a b):=rfl
def vh(a:Str):Ŀ (.str a) .non=Z D:=rfl
def vi(a b:Int):Ŀ (.int a) (.int b)=Z (a==b):=rfl
def vj:∀d:N,Ŀ d d=Z L\/Ŀ d d=U|.non=>.inl rfl|.bl b=>.inl (by cases b<;>rfl)|.int i=>.inl (congrArg Z (by simp))|.str x=>.inl (congrArg Z (by unfold seq;simp))|.tup _=>.inr rfl|.lst _=>.inr rfl|.scr _=>.inr rfl|.exn _=>.inr rfl|.obj _ _=>.inr rfl
def HH(b:okP n=L)(a:œ n=L):č n n=Z (.ok (.bl D)):=by
 unfold č;rcases vj n with e|e<;>rw[e];·rfl
 ·show(if(okP n&&okP n)=L then Z (Rs.ok (N.bl (!SI (di n) (di n))))else U)=_;rw[b,pE n a];rfl
def HI(b:okP n=L)(a:œ n=L):ß n n=Z (.ok (.bl L)):=by unfold ß;rcases vj n with e|e<;>rw[e];show(if(okP n&&okP n)=L then Z (Rs.ok (N.bl (SI (di n) (di n))))else U)=_;rw[b,pE n a];rfl
structure Ğ(k:Nat)(d:N):Prop where
 c:Sl (di d)=L
 dp:(di d).depth<=k
 p:œ d=L
def C9{k:Nat}:∀{ds:List N},(∀d∈ds,Ğ k d)->TZ (ç ds)=L/\V7 (ç ds)<=k/\Ĳ ds=L|[],_=>by simp[ç,TZ,V7,Ĳ]|d::ds,h=>by obtain⟨e,g,c⟩:=C9 (ds:=ds) λf b=>h f (m_ _ b);have a:=h d o_;simp only[ç,TZ,V7,Ĳ,pi];exact⟨⟨a.c,e⟩,by have:=a.dp;omega,a.p,c⟩
def Ad(h:∀d∈k,Ğ c d):Ğ (c+1) (.tup k):=by obtain⟨e,b,a⟩:=C9 h;exact⟨by simpa[di,Sl]using e,by simp[di,Wv];exact b,by simpa[œ]using a⟩
def EA(h:∀d∈k,Ğ c d):Ğ (c+1) (.lst k):=by obtain⟨e,b,a⟩:=C9 h;exact⟨by simpa[di,Sl]using e,by simp[di,Wv];exact b,by simpa[œ]using a⟩
def Ğ.okP(h:Ğ c n)(a:c<=64):okP n=L:=by unfold FD.okP SeqAt.shaped;rw[h.c];have:=h.dp;simp;omega
def Ğ.le(h:Ğ c n)(a:c<=m):Ğ m n:=⟨h.c,RZ h.dp a,h.p⟩
def jZ(h:Sl (.str b)=L):Ğ 0 (.str b):=⟨h,by simp[di,Wv],rfl⟩
def vk:Ğ 0 (.int i):=⟨rfl,by simp[di,Wv],rfl⟩
def Mr:Ğ 0 (.bl t):=⟨rfl,by simp[di,Wv],rfl⟩
def Ms:Ğ 0 .non:=⟨rfl,by simp[di,Wv],rfl⟩
def rL{b:Type}(f:b->N):∀l:List b,ç (l.map f)=l.map λa=>di (f a)|[]=>rfl|a::l=>by simp[ç,rL f l]
def Pz{c:z->N}{l:List z}{p:z->Bool}(f:Ğ 5 n)(t:gm n=D)(i:∀a∈l,Ğ 5 (c a))(h:∀a∈l,SI (di (c a)) (di n)=p a):inX n (.lst (l.map c))=Z (.ok (.bl (l.any p)))/\kJ n (.lst (l.map c))=Z (.ok (.bl (!l.any p)))/\inX n (.tup (l.map c))=Z (.ok (.bl (l.any p)))/\kJ n (.tup (l.map c))=Z (.ok (.bl (!l.any p))):=by
 have e:ź n (l.map c)=Z (l.any p):=by
  unfold ź;have m:=f.okP (by omega);have k:=(C9 (k:=5) (ds:=l.map c) (by intro d u;obtain⟨a,w,rfl⟩:=R7.mp u;exact i a w)).1;have j:uk ((di n).depth<=63)=L:=by have:=f.dp;simp;omega
  rw[m,k,j];simp only[Bool.and_self,if_true];rw[rL];congr 1;clear m k j i f;induction l with|nil=>rfl|cons a l s=>simp only[K_,WW];rw[h a o_,s λb v=>h b (m_ _ v)]
 have o:∀g,Ť n g=U:=λg=>by unfold Ť;rw[t];rfl
 have r:IP n (.lst (l.map c))=U:=by cases n<;>first|exact o _|rfl
 have q:IP n (.tup (l.map c))=U:=by cases n<;>first|exact o _|rfl
 refine⟨?_,?_,?_,?_⟩<;>simp[inX,kJ,NJ,r,q,e]
end FD
namespace G
open L2 FD
def mE(h:Τ (k.map Z++P_ (c-k.length) U)=Z (.rt n)):aQ c Τ k=Z (.ok n):=by unfold aQ;rw[h]
def PB(h:Τ (k.map Z++P_ (c-k.length) U)=Z (.nx ζ)):aQ c Τ k=Z (.ok .non):=by unfold aQ;rw[h]
def cE(F:Ñ){n:Nat}{g:á}{b:Ev}{a:List N}{d:N}(h:g b=Z (.ok a))(c:a.length=n)(e:F a=Z (.ok d)):ab F n g b=Z (.ok d):=by unfold ab;rw[h];show(if a.length=n then _ else _)=_;rw[if_pos c,e]
def HJ(a:List Int)(s:a.length<=63)(k:Int):∃c,dc [.scr a,.int k]=Z (.ok (.int c)):=by cases a with|nil=>exact⟨7*k,by lk⟩|cons n r=>
 have u:0<(n::r).length:=by simp
 have b:(0:Int)<((n::r).length:Int):=by omega
 have p:((n::r).length:Int)<1073741824:=by omega
 have o:0<=k%((n::r).length:Int):=UR _ (by omega);have t:k%((n::r).length:Int)<((n::r).length:Int):=Ug _ b;have m:(k%((n::r).length:Int)).toNat<(n::r).length:=by omega
 refine⟨(n::r)[(k%((n::r).length:Int)).toNat]+6553*(k/((n::r).length:Int)),?_⟩;have f:ó (n::r) (k%((n::r).length:Int))=Z (n::r)[(k%((n::r).length:Int)).toNat]:=by unfold ó;rw[if_pos o,s_ m]
 have g:jx (.int k) (.int ((n::r).length:Int))=Z (.ok (.int (k%((n::r).length:Int)))):=by show(if 0<((n::r).length:Int)then _ else _)=_;rw[if_pos b]
 have j:jF (.int k) (.int ((n::r).length:Int))=Z (.ok (.int (k/((n::r).length:Int)))):=by show(if 0<((n::r).length:Int)/\((n::r).length:Int)<1073741824 then _ else _)=_;rw[if_pos ⟨b,p⟩]
 have h:Ì (.scr (n::r)) (.int (k%((n::r).length:Int)))=Z (.ok (.int (n::r)[(k%((n::r).length:Int)).toNat])):=by show(match ó (n::r) (k%((n::r).length:Int))with|some d=>_|none=>_)=_;rw[f]
 show(match fG [Z (.scr (n::r)),Z (.int k)]with|some (.nx _)=>_|some (.rt d)=>_|_=>_)=_;have e:fG [Z (.scr (n::r)),Z (.int k)]=cf (Õ (Õ (jx (.int k) (.int ((n::r).length:Int))) λi=>Ì (.scr (n::r)) i) λx=>Õ (Õ (jF (.int k) (.int ((n::r).length:Int))) λq=>lJ (.int 6553) q) λy=>cH x y) λd=>Z (.rt d):=by lk
 rw[e,g,j];show(match cf (Õ (Ì (.scr (n::r)) (.int (k%((n::r).length:Int)))) λx=>_) _ with|some (.nx _)=>_|some (.rt d)=>_|_=>_)=_;rw[h];lk
def rw(c k:Int):Int:=(c%2147483563*69069+104723*(k+1))%2147483563
def dr2(c:Int):Int:=(c*c+c/3)%2147483399
def dr3(c m:Int):Int:=(c*c+c/7)%2147483647/11%m
def vm{j:Int}(h:(-18446744073709551616<i/\i<18446744073709551616)\/(-18446744073709551616<j/\j<18446744073709551616)):lJ (.int i) (.int j)=Z (.ok (.int (i*j))):=by show(if _ then _ else _)=_;rw[if_pos h]
def rM{j:Int}(h:0<j):jx (.int i) (.int j)=Z (.ok (.int (i%j))):=by show(if _ then _ else _)=_;rw[if_pos h]
def bJ(a:List Int)(j:a.length<=63)(k m:Int)(g:0<m):∃d:Int,0<=d/\d<m/\ae [.scr a,.int k,.int m]=Z (.ok (.int d)):=by
 obtain⟨c,n⟩:=HJ a j k;refine⟨dr3 (dr2 (rw c k)) m,UR _ (by omega),Ug _ g,?_⟩;have u:0<=rw c k/\rw c k<2147483563:=⟨UR _ (by omega),Ug _ (by omega)⟩;have t:0<=dr2 (rw c k)/\dr2 (rw c k)<2147483399:=⟨UR _ (by omega),Ug _ (by omega)⟩;have v:0<=c%2147483563/\c%2147483563<2147483563:=⟨UR _ (by omega),Ug _ (by omega)⟩;show aQ 4 dq [.scr a,.int k,.int m]=_;have i:(ab dc 2 (bt (Y 0) (Y 1))) [Z (.scr a),Z (.int k),Z (.int m),U]=Z (.ok (.int c)):=by show(match dc [.scr a,.int k]with|some (.ok d)=>(Z (.ok d):Option (Rs N))|_=>U)=_;rw[n]
 have q:(bW 3 (I jx (I cH (I lJ (I jx (ab dc 2 (bt (Y 0) (Y 1))) (X 2147483563)) (X 69069)) (I lJ (X 104723) (I cH (Y 1) (X 1)))) (X 2147483563))) [Z (.scr a),Z (.int k),Z (.int m),U]=Z (.nx [Z (.scr a),Z (.int k),Z (.int m),Z (.int (rw c k))]):=by show cf (Õ (Õ (Õ (Õ ((ab dc 2 (bt (Y 0) (Y 1))) [Z (.scr a),Z (.int k),Z (.int m),U]) λx=>jx x (.int 2147483563)) λx=>lJ x (.int 69069)) λx=>Õ (lJ (.int 104723) (.int (k+1))) λy=>cH x y) λx=>jx x (.int 2147483563)) (λd=>Z (.nx [Z (.scr a),Z (.int k),Z (.int m),Z d]))=_;rw[i];show cf (Õ (Õ (Õ (jx (.int c) (.int 2147483563)) λx=>lJ x (.int 69069)) λx=>Õ (lJ (.int 104723) (.int (k+1))) λy=>cH x y) λx=>jx x (.int 2147483563)) _=_;rw[rM (by omega),vm (i:=104723) (.inl (by omega))];show cf (Õ (Õ (lJ (.int (c%2147483563)) (.int 69069)) λx=>cH x (.int (104723*(k+1)))) λx=>jx x (.int 2147483563)) _=_;rw[vm (.inl (by omega))];show cf (jx (.int (c%2147483563*69069+104723*(k+1))) (.int 2147483563)) _=_;rw[rM (by omega)];rfl
 generalize s:rw c k=f at*;have p:(bW 3 (I jx (I cH (I lJ (Y 3) (Y 3)) (I jF (Y 3) (X 3))) (X 2147483399))) [Z (.scr a),Z (.int k),Z (.int m),Z (.int f)]=Z (.nx [Z (.scr a),Z (.int k),Z (.int m),Z (.int (dr2 f))]):=by show cf (Õ (Õ (lJ (.int f) (.int f)) λx=>cH x (.int (f/3))) λx=>jx x (.int 2147483399)) (λd=>Z (.nx [Z (.scr a),Z (.int k),Z (.int m),Z d]))=_;rw[vm (.inl (by omega))];show cf (jx (.int (f*f+f/3)) (.int 2147483399)) _=_;rw[rM (by omega)];rfl
 generalize r:dr2 f=b at*;have o:(aJ (I jx (I jF (I jx (I cH (I lJ (Y 3) (Y 3)) (I jF (Y 3) (X 7))) (X 2147483647)) (X 11)) (Y 2))) [Z (.scr a),Z (.int k),Z (.int m),Z (.int b)]=Z (.rt (.int (dr3 b m))):=by show cf (Õ (Õ (Õ (Õ (lJ (.int b) (.int b)) λx=>cH x (.int (b/7))) λx=>jx x (.int 2147483647)) λx=>jF x (.int 11)) λx=>jx x (.int m)) (λd=>Z (.rt d))=_;rw[vm (.inl (by omega))];show cf (Õ (Õ (jx (.int (b*b+b/7)) (.int 2147483647)) λx=>jF x (.int 11)) λx=>jx x (.int m)) _=_;rw[rM (by omega)];show cf (jx (.int ((b*b+b/7)%2147483647/11)) (.int m)) _=_;rw[rM g];rfl
 show(match dq [Z (.scr a),Z (.int k),Z (.int m),U]with|some (.nx _)=>_|some (.rt d)=>_|_=>_)=_;have e:dq [Z (.scr a),Z (.int k),Z (.int m),U]=Z (.rt (.int (dr3 b m))):=by show sq ((bW 3 _) _) (λh=>sq ((bW 3 _) h) _)=_;rw[q];show sq ((bW 3 _) [Z (.scr a),Z (.int k),Z (.int m),Z (.int f)]) _=_;rw[p];exact o
 rw[e]
def Č:List Str:=[b_ "a.b",b_ "b",b_ "x.a.b",b_ "y.x.a.b",b_ "c.uk",b_ "uk",b_ "d.c.uk",b_ "e.d.c.uk",b_ "w.ck",b_ "v.w.ck",b_ "ck",b_ "g-1.a.b",b_ "7.b",b_ "p.q"]
def Ü:List N:=[.str "!w.ck",.str "*.ck",.str "*.uk",.str "a.b",.str "b",.str "c.uk",.str "q",.str "uk"]
def gH:List N->List (List N)|[]=>[[]]|x::r=>(gH r).map (x::·)++gH r
def okO(o:Option (Rs N)):Option (Rs N):=match o with|some (.ok d)=>Z (.ok d)|_=>U
def kL(b:0<=i)(c:i<k.length):∃x∈k,Ì (.lst k) (.int i)=Z (.ok x):=by
 have a:i.toNat<k.length:=by omega
 refine⟨k[i.toNat],Vr a,?_⟩;show(match ó k i with|some i=>_|none=>_)=_;unfold ó;rw[if_pos b,s_ a]
def drL(o:Option (Rs N))(l:List Str):Option (Rs N):=match cf (Õ (match o with|some (.ok d)=>(Z (.ok d):Option (Rs N))|_=>U) λi=>Ì (.lst (l.map N.str)) i) λd=>Z (.rt d)with|some (.nx _)=>Z (.ok .non)|some (.rt d)=>Z (.ok d)|_=>U
def EB{o:Option (Rs N)}(f:0<=i)(d:i<v.length)(c:o=Z (.ok (.int i))):∃p∈v,drL o v=Z (.ok (.str p)):=by obtain⟨x,a,e⟩:=kL (k:=v.map N.str) f (by rw[E_];exact d);obtain⟨p,b,rfl⟩:=R7.1 a;subst c;refine⟨p,b,?_⟩;unfold drL Õ;dsimp only;rw[e];rfl
def pF(a:List Int)(b:a.length<=63)(k:Int):∃p∈Č,aX [.scr a,.int k]=Z (.ok (.str p)):=by obtain⟨d,f,e,c⟩:=bJ a b k 14 (by omega);rw[show aX [.scr a,.int k]=drL (ae [.scr a,.int k,.int 14]) Č by lk];exact EB f e c
def HK:ë:=fB (I ß (ab ae 3 (dP (Y 2) (I cH (Y 3) (Y 0)) (X 2))) (X 0))
def EC(a:List Int)(f:a.length<=63)(z:Int):∀(l:List N)(k:Nat),∃t∈gH l,jy (gP 0 1) (Z HK) (Y 1) [U,U,Z (.scr a),Z (.int z)] (j7 k l)=Z t
 |[],k=>⟨[],by simp[gH],rfl⟩|x::r,k=>by
  obtain⟨t,c,e⟩:=EC a f z r (k+1);obtain⟨d,n,m,i⟩:=bJ a f (z+k) 2 (by omega);have b:HK [Z (.int k),Z x,Z (.scr a),Z (.int z)]=Õ (Õ (okO (ae [.scr a,.int (z+k),.int 2])) λx=>ß x (.int 0)) ñ:=by lk
  have h:jy (gP 0 1) (Z HK) (Y 1) [U,U,Z (.scr a),Z (.int z)] (j7 k (x::r))=(match HK [Z (.int k),Z x,Z (.scr a),Z (.int z)]with|some (.ok L)=>(match jy (gP 0 1) (Z HK) (Y 1) [U,U,Z (.scr a),Z (.int z)] (j7 (k+1) r)with|some g=>Z (x::g)|none=>U)|some (.ok D)=>jy (gP 0 1) (Z HK) (Y 1) [U,U,Z (.scr a),Z (.int z)] (j7 (k+1) r)|_=>U):=by lk
  rw[h,b,i,e];have j:d=0\/d=1:=by omega
  rcases j with rfl|rfl;·exact⟨x::t,by simp[gH,c],by lk⟩
  ·exact⟨t,by simp[gH,c],by lk⟩
def pG:∀{l t:List N},t∈gH l->t.length<=l.length
 |[],t,h=>by simp[gH]at h;simp[h]|x::r,t,h=>by
  simp only[gH,Sr,R7]at h;rcases h with⟨u,a,rfl⟩|h;·have:=pG a;simp;omega
  ·have:=pG h;simp;omega
def Da(a:List Int)(h:a.length<=63):∃t∈gH Ü,eC [.scr a,.int 0]=Z (.ok (.tup t)):=by
 obtain⟨t,f,e⟩:=EC a h 0 Ü 0;refine⟨t,f,?_⟩;have c:t.length<=100000:=by have:=pG f;have:Ü.length=8:=rfl;omega
 have g:eC [.scr a,.int 0]=(match cf (Õ (Õ (match jy (gP 0 1) (Z HK) (Y 1) [U,U,Z (.scr a),Z (.int 0)] (j7 0 Ü)with|some b=>if b.length<=100000/\(j7 0 Ü).length<=100000 then(Z (.ok (.lst b)):Option (Rs N))else U|none=>U) λx=>Õ (Z (.ok [])) λb=>Z (.ok (x::b))) hJ) λd=>Z (.rt d)with|some (.nx _)=>Z (.ok .non)|some (.rt d)=>Z (.ok d)|_=>U):=by lk
 rw[g,e];dsimp only;rw[if_pos ⟨c,by decide⟩];rfl
def î:List Str:=[b_ "/",b_ "/x",b_ "/x/",b_ "/x/y",b_ "/xy",b_ "/x/y/z.q",b_ "//",b_ "/-_.9",b_ "/x/y/"]
def Ae(a:List Int)(b:a.length<=63)(k:Int):∃p∈î,df [.scr a,.int k]=Z (.ok (.str p)):=by obtain⟨d,f,e,c⟩:=bJ a b k 9 (by omega);rw[show df [.scr a,.int k]=drL (ae [.scr a,.int k,.int 9]) î by lk];exact EB f e c
def pH(F:Ñ){f g k:Ò}{e:Ev}{a b c d:N}(h:f e=Z (.ok a))(m:g e=Z (.ok b))(i:k e=Z (.ok c))(j:F [a,b,c]=Z (.ok d)):ab F 3 (dP f g k) e=Z (.ok d):=k7 (ac h (ac m (ac i aw))) rfl j
def vn(a:List Int)(b:a.length<=63)(z:Int):∃s h p O,h∈Č/\p∈î/\(O=N.non\/∃o∈Č,O=.str o)/\eZ [.scr a,.int z]=Z (.ok (.tup [.bl s,.str h,.str p,O])):=by
 obtain⟨d,A,y,k⟩:=bJ a b (z+2) 3 (by omega);obtain⟨o,n,c⟩:=pF a b (z+3);obtain⟨u,w,v,m⟩:=bJ a b z 2 (by omega);obtain⟨h,r,i⟩:=pF a b (z+1);obtain⟨p,q,g⟩:=Ae a b (z+4);have f:∃O,(O=N.non\/∃o∈Č,O=.str o)/\Ì (.lst [.non,.str o,.str o]) (.int d)=Z (.ok O):=by
  have t:d=0\/d=1\/d=2:=by omega
  rcases t with rfl|rfl|rfl;·exact⟨.non,.inl rfl,rfl⟩
  ·exact⟨.str o,.inr ⟨o,n,rfl⟩,rfl⟩
  ·exact⟨.str o,.inr ⟨o,n,rfl⟩,rfl⟩
 obtain⟨O,f,j⟩:=f;refine⟨(u==0),h,p,O,r,q,f,dI ?_⟩;show gG [Z (.scr a),Z (.int z),U]=_;unfold gG;have e:I Ì (ib (dP (fC .non) (ab aX 2 (bt (Y 0) (I cH (Y 1) (X 3)))) (ab aX 2 (bt (Y 0) (I cH (Y 1) (X 3)))))) (ab ae 3 (dP (Y 0) (I cH (Y 1) (X 2)) (X 3))) [Z (.scr a),Z (.int z),U]=Z (.ok O):=by rw[bg (sE (ac rfl (ac (cg aX rfl rfl c) (ac (cg aX rfl rfl c) aw))) (by show 3<=100000;decide)) (pH ae rfl rfl rfl k)];exact j
 rw[au (a:=[Z (.scr a),Z (.int z),Z O]) (bG e rfl)];refine bZ (xY (ac ?_ (ac (cg aX rfl rfl i) (ac (cg df rfl rfl g) (ac rfl aw)))) (by show 4<=100000;decide));rw[bg (pH ae rfl rfl rfl m) rfl];rfl
abbrev bo(k:Bool):Option (Rs N):=Z (.ok (.bl k))
def En:List Str:=Č++[b_ "q"]
def gX(h:seq b j=L):b=j:=by unfold seq at h;obtain⟨⟨a⟩⟩:=b;obtain⟨⟨c⟩⟩:=j;simp at h;rw[h]
def cL{l:List z}{p:z->Bool}(n:Nat)(b:(l.take n).all p=L)(a:(l.drop n).all p=L):l.all p=L:=by rw[<-List.take_append_drop n l,List.all_append,b,a];rfl
def PC(t:List N)(n:Str):Bool:=match cz [.tup t,.str n],bV [.tup t,.str n]with|some (.ok (.str _)),Z (.ok .non)=>L|some (.ok (.str _)),Z (.ok (.str z))=>Sl (.str z)|_,_=>D
def ig(t:List N):Bool:=En.all λn=>PC t n
def cC:Nat->List (List N)|0=>gH Ü|k+1=>(cC k).drop 16
def Rz:((cC 0).take 16).all ig=L:=by lk
def RA:((cC 1).take 16).all ig=L:=by lk
def RB:((cC 2).take 16).all ig=L:=by lk
def RC:((cC 3).take 16).all ig=L:=by lk
def RD:((cC 4).take 16).all ig=L:=by lk
def RE:((cC 5).take 16).all ig=L:=by lk
def RF:((cC 6).take 16).all ig=L:=by lk
def RG:((cC 7).take 16).all ig=L:=by lk
def RH:((cC 8).take 16).all ig=L:=by lk
def RI:((cC 9).take 16).all ig=L:=by lk
def PD:((cC 10).take 16).all ig=L:=by lk
def PF:((cC 11).take 16).all ig=L:=by lk
def PH:((cC 12).take 16).all ig=L:=by lk
def PJ:((cC 13).take 16).all ig=L:=by lk
def PK:((cC 14).take 16).all ig=L:=by lk
def PM:((cC 15).take 16).all ig=L:=by lk
def Mt:(gH Ü).all ig=L:=(cL (l:=cC 0) 16 Rz (cL (l:=cC 1) 16 RA (cL (l:=cC 2) 16 RB (cL (l:=cC 3) 16 RC (cL (l:=cC 4) 16 RD (cL (l:=cC 5) 16 RE (cL (l:=cC 6) 16 RF (cL (l:=cC 7) 16 RG (cL (l:=cC 8) 16 RH (cL (l:=cC 9) 16 RI (cL (l:=cC 10) 16 PD (cL (l:=cC 11) 16 PF (cL (l:=cC 12) 16 PH (cL (l:=cC 13) 16 PJ (cL (l:=cC 14) 16 PK (cL (l:=cC 15) 16 PM (show(cC 16).all ig=L by lk)))))))))))))))))
def wK(c:k∈gH Ü){n:Str}(d:n∈En):∃m o,cz [.tup k,.str n]=Z (.ok (.str m))/\(o=N.non\/∃z,o=.str z)/\bV [.tup k,.str n]=Z (.ok o):=by
 have h:=aR (show(En.all λn=>PC k n)=L from aR Mt c) d;unfold PC at h;split at h;·rename_i m b a;exact⟨m,_,b,.inl rfl,a⟩
 ·rename_i m z b a;exact⟨m,_,b,.inr ⟨z,rfl⟩,a⟩
 ·cases h
def Ĺ:Option (Rs N)->Bool|some (.ok (.bl L))=>L|_=>D
def mF{o:Option (Rs N)}(h:Ĺ o=L):o=Z (.ok (.bl L)):=by
 unfold Ĺ at h;split at h;·rfl
 ·cases h
def Ÿ:Option (Rs N)->Bool|some (.ok (.bl _))=>L|_=>D
def ED{o:Option (Rs N)}(h:Ÿ o=L):∃k,o=bo k:=by
 unfold Ÿ at h;split at h;·exact⟨_,rfl⟩
 ·cases h
def okF:Option (Rs N)->Bool|some (.ok (.bl D))=>L|_=>D
def Ag:((gH Ü).all λt=>Ĺ (cp [.tup t]))=L:=by lk
def fK(a:k∈gH Ü):cp [.tup k]=bo L:=mF (aR (p:=λk=>Ĺ (cp [.tup k])) Ag a)
def ĵ:List Str:=[b_ "n",b_ "safe-a",b_ "own-b",b_ "N_2",b_ "m-1",b_ "safe-",b_ "own"]
def Ķ:List Str:=[b_ "5",b_ "",b_ "a!b~",b_ "x/y?z",b_ "123456789012",b_ "1"]
def Mu:(ĵ.all λn=>Ĺ (aN [.str n]))=L:=by lk
def Mv:(ĵ.all λn=>!(Sk n (b_ "safe-")&&Sk n (b_ "own-")))=L:=by lk
def Mw:(Ķ.all λn=>Ĺ (bM [.str n]))=L:=by lk
def Mx:(En.all λn=>Ĺ (bC [.str n]))=L:=by lk
def My:(î.all λn=>Ĺ (cj [.str n]))=L:=by lk
def Mz:(En.all λp=>En.all λq=>Ÿ (aB [.str p,.str q]))=L:=by lk
def PN(p:Str):Bool:=match lc [.str p]with|some (.ok (.str f))=>î.any (λq=>seq q f)|_=>D
def MB:(î.all PN)=L:=by lk
def QR(h:b∈ĵ):aN [.str b]=bo L:=mF (aR (p:=λb=>Ĺ (aN [.str b])) Mu h)
def RJ(h:b∈ĵ):Sk b (b_ "safe-")=D\/Sk b (b_ "own-")=D:=by have:=aR (p:=λb=>!(Sk b (b_ "safe-")&&Sk b (b_ "own-"))) Mv h;simpa using this
def QS(h:b∈Ķ):bM [.str b]=bo L:=mF (aR (p:=λb=>Ĺ (bM [.str b])) Mw h)
def HL(h:b∈En):bC [.str b]=bo L:=mF (aR (p:=λb=>Ĺ (bC [.str b])) Mx h)
def NV(h:b∈î):cj [.str b]=bo L:=mF (aR (p:=λb=>Ĺ (cj [.str b])) My h)
def QT(h:b∈En)(a:j∈En):∃k,aB [.str b,.str j]=bo k:=ED (aR (p:=λj=>Ÿ (aB [.str b,.str j])) (aR (p:=λb=>En.all λj=>Ÿ (aB [.str b,.str j])) Mz h) a)
def RK(h:b∈î):∃f∈î,lc [.str b]=Z (.ok (.str f)):=by
 have q:=aR (p:=PN) MB h;unfold PN at q;split at q;·rename_i f c;obtain⟨y,a,d⟩:=VY.mp q;have e:=gX d;subst e;exact⟨y,a,c⟩
 ·cases q
def IZ(h:cp [n]=bo L):aL [n]=Z (.ok .non):=by simp[aL,aQ,el,aY,cf,Õ,bX,fB,ñ,ab,aO,dZ,Y,h]
def NW(h:dU [n]=bo L):cq [n]=Z (.ok .non):=by simp[cq,aQ,iU,aY,cf,Õ,bX,fB,ñ,ab,aO,dZ,Y,h]
def QU(h:gD [n]=bo L):dk [n]=Z (.ok .non):=by simp[dk,aQ,fU,aY,cf,Õ,bX,fB,ñ,ab,aO,dZ,Y,h]
def Db(h:bc [n]=bo L):bq [n]=Z (.ok .non):=by simp[bq,aQ,eP,aY,cf,Õ,bX,fB,ñ,ab,aO,dZ,Y,h]
def rN(b:0<=i)(a:i<=9999):bc [.int i]=bo L:=by
 have e:aE [.int i,.int 0,.int 9999]=bo L:=by simp[aE,aQ,aS,aI,sq,aY,aJ,cf,Õ,ÿ,bX,fB,ñ,Y,f1,I,ij,i7,dH,oJ,ī,b,a]
 simp[bc,aQ,dL,aJ,cf,Õ,ab,aO,dZ,Y,fC,e]
def Mo(u:N):Prop:=u=.non\/∃i:Int,0<=i/\i<=9999/\u=.int i
def Ah(h:Mo n):aC [n]=bo L:=by
 rcases h with rfl|⟨i,b,a,rfl⟩;·simp[aC,aQ,bh,aJ,cf,Õ,ñ,Y,fC,I,Ě,Ą]
 ·simp[aC,aQ,bh,aJ,cf,Õ,ñ,ab,aO,dZ,Y,fC,I,Ě,Ą,rN b a]
structure Ak(h p:Str)(O:N):Prop where
 h:h∈En
 p:p∈î
 o:O=.non\/∃o∈Č,O=.str o
def me(q:b∈Č):b∈En:=RX _ q
abbrev à(s:Bool)(h p:Str)(O:N):N:=.tup [.bl s,.str h,.str p,O]
def HM(a:Ak b j n):dU [à t b j n]=bo L:=by
 have e:bH [.tup [.bl t,.str b,.str j,n],.int 4]=bo L:=by lk
 have d:=HL (a.h);have c:=NV a.p;rcases a.o with rfl|⟨o,f,rfl⟩;·simp[dU,aQ,gV,aI,sq,aY,aJ,cf,Õ,bX,fB,ñ,ab,aO,dZ,Y,fC,f1,I,Ì,ó,Ě,ib,â,Ą,i7,dH,e,d,c,mO,i5]
 ·have g:=HL (me f);simp[dU,aQ,gV,aI,sq,aY,aJ,cf,Õ,bX,fB,ñ,ab,aO,dZ,Y,fC,f1,I,Ì,ó,Ě,ib,â,Ą,i7,dH,e,d,c,g,mO,i5]
def MD(d:k∈gH Ü){h p:Str}{O:N}(a:Ak h p O):∃b,∀s,ag [.tup k,à s h p O]=bo b:=by
 rcases a.o with rfl|⟨o,i,rfl⟩;·exact⟨L,λs=>by simp[ag,aQ,aF,aI,sq,aY,aJ,bW,cf,Õ,ÿ,fB,ñ,Y,fC,I,Ì,ó,Ą]⟩
 ·obtain⟨u,r,_,m,c⟩:=wK d (a.h);obtain⟨t,n,_,j,e⟩:=wK d (me i);cases q:seq o h with|true=>exact⟨L,λs=>by simp[ag,aQ,aF,aI,sq,aY,aJ,bW,cf,Õ,ÿ,fB,ñ,Y,fC,I,Ì,ó,Ą,ß,kK,vh,q]⟩|false=>
 rcases m with rfl|⟨g,rfl⟩;·exact⟨D,λs=>by simp[ag,aQ,aF,aI,sq,aY,aJ,bW,cf,Õ,ÿ,fB,ñ,ab,aO,dZ,Y,fC,I,Ì,ó,ij,Ą,kP,ß,kK,vh,q,c]⟩
 · rcases j with rfl|⟨f,rfl⟩;·exact⟨D,λs=>by simp[ag,aQ,aF,aI,sq,aY,aJ,bW,cf,Õ,ÿ,fB,ñ,ab,aO,dZ,Y,fC,I,Ì,ó,ij,Ą,kP,ß,kK,vh,q,c,e]⟩
   ·exact⟨seq g f,λs=>by simp[ag,aQ,aF,aI,sq,aY,aJ,bW,cf,Õ,ÿ,fB,ñ,ab,aO,dZ,Y,fC,I,Ì,ó,ij,Ą,kP,ß,kK,vh,q,c,e]⟩
structure Gv(nm w:Str)(H P u l:N)(S:Bool)(R:Str):Prop where
 nm:nm∈ĵ
 w:w∈Ķ
 hh:H=.non\/∃n∈En,H=.str n
 pp:P=.non\/∃p∈î,P=.str p
 u:u=.non\/∃i:Int,0<=i/\i<60/\u=.int i
 l:l=.non\/∃i:Int,0<=i/\i<30/\l=.int i
 r:R=b_ "any"\/R=b_ "near"
abbrev ą(a w:Str)(H P u l:N)(S:Bool)(R:Str):N:=.tup [.str a,.str w,H,P,u,l,.bl S,.str R]
def I0:Option (Rs N)->Bool|some (.ok (.str z))=>En.any λq=>seq q z|_=>D
def Ai{o:Option (Rs N)}(h:I0 o=L):∃n∈En,o=Z (.ok (.str n)):=by
 unfold I0 at h;split at h;·rename_i z;obtain⟨y,a,b⟩:=VY.mp h;have e:=gX b;subst e;exact⟨y,a,rfl⟩
 ·cases h
def Dc:Ò:=(I Ì (fM (g9) (Y 2) (az (Ð "."))) (f1 D7 (X 1)))
def Dd:Ò:=(ĩ (fB (I ō (Ð ".") (Y 2))) (wQ (Y 2) (cY (I cH (fM KU (Y 2) (az (Ð "."))) (X 1))) fL) (Y 2))
def De:(Č.all λh=>I0 (Dc [U,U,Z (.str h)]))=L:=by lk
def Df:(Č.all λh=>I0 (Dd [U,U,Z (.str h)]))=L:=by lk
def ME(q:b∈Č){a c:Option N}{r:Ev}:∃n∈En,Dc (a::c::Z (.str b)::r)=Z (.ok (.str n)):=Ai (aR (p:=λb=>I0 (Dc [U,U,Z (.str b)])) De q)
def MF(q:b∈Č){a c:Option N}{r:Ev}:∃n∈En,Dd (a::c::Z (.str b)::r)=Z (.ok (.str n)):=Ai (aR (p:=λb=>I0 (Dd [U,U,Z (.str b)])) Df q)
def Dg(b:List Int)(c:b.length<=63)(z:Int){h:Str}(p:h∈Č):∃d w H P u l S R,Gv d w H P u l S R/\ez [.scr b,.int z,.str h]=Z (.ok (ą d w H P u l S R)):=by
 obtain⟨d0,a0,b0,e0⟩:=bJ b c z 7 (by omega);obtain⟨d1,a1,b1,e1⟩:=bJ b c (z+1) 5 (by omega);obtain⟨d2,a2,b2,e2⟩:=bJ b c (z+2) 6 (by omega);obtain⟨d4,a4,b4,e4⟩:=bJ b c (z+4) 3 (by omega);obtain⟨d6,a6,b6,e6⟩:=bJ b c (z+6) 3 (by omega);obtain⟨d7,a7,b7,e7⟩:=bJ b c (z+7) 60 (by omega);obtain⟨d8,a8,b8,e8⟩:=bJ b c (z+8) 3 (by omega);obtain⟨d9,a9,b9,e9⟩:=bJ b c (z+9) 30 (by omega);obtain⟨E,e',d',B⟩:=bJ b c (z+10) 2 (by omega);obtain⟨c',b',a',A⟩:=bJ b c (z+11) 2 (by omega);obtain⟨n3,v,e3⟩:=pF b c (z+3);obtain⟨p5,s,e5⟩:=Ae b c (z+5);obtain⟨o,m0,i0⟩:=kL (k:=[.str "n",.str "safe-a",.str "own-b",.str "N_2",.str "m-1",.str "safe-",.str "n"]) a0 b0;obtain⟨m,m1,i1⟩:=kL (k:=[.str "5",.str "",.str "a!b~",.str "x/y?z",.str "123456789012"]) a1 b1;obtain⟨a,hL,eL⟩:=ME p (a:=Z (.scr b)) (c:=Z (.int z)) (r:=[Z o,Z m,U,U,U,U,U,U]);obtain⟨TL,hT,eT⟩:=MF p (a:=Z (.scr b)) (c:=Z (.int z)) (r:=[Z o,Z m,U,U,U,U,U,U]);obtain⟨k,m2,i2⟩:=kL (k:=[.non,.non,.str h,.str a,.str n3,.str TL]) a2 b2;obtain⟨j,m4,i4⟩:=kL (k:=[.non,.str "/",.str p5]) a4 b4;obtain⟨g,m6,i6⟩:=kL (k:=[.non,.non,.int d7]) a6 b6;obtain⟨f,m8,i8⟩:=kL (k:=[.non,.non,.int d9]) a8 b8;obtain⟨q,e,r⟩:=kL (k:=[.str "any",.str "near"]) b' a';have g0:∃d∈ĵ,o=.str d:=by simp only[w_,R6,or_false]at m0;rcases m0 with rfl|rfl|rfl|rfl|rfl|rfl|rfl<;>exact⟨_,by simp[ĵ],rfl⟩
 have g1:∃d∈Ķ,m=.str d:=by simp only[w_,R6,or_false]at m1;rcases m1 with rfl|rfl|rfl|rfl|rfl<;>exact⟨_,by simp[Ķ],rfl⟩
 have g2:k=.non\/∃n∈En,k=.str n:=by
  simp only[w_,R6,or_false]at m2;rcases m2 with rfl|rfl|rfl|rfl|rfl|rfl;·exact .inl rfl
  ·exact .inl rfl
  ·exact .inr ⟨_,me p,rfl⟩
  ·exact .inr ⟨_,hL,rfl⟩
  ·exact .inr ⟨_,me v,rfl⟩
  ·exact .inr ⟨_,hT,rfl⟩
 have g4:j=.non\/∃n∈î,j=.str n:=by
  simp only[w_,R6,or_false]at m4;rcases m4 with rfl|rfl|rfl;·exact .inl rfl
  ·exact .inr ⟨_,by simp[î],rfl⟩
  ·exact .inr ⟨_,s,rfl⟩
 have g6:g=.non\/∃i:Int,0<=i/\i<60/\g=.int i:=by
  simp only[w_,R6,or_false]at m6;rcases m6 with rfl|rfl|rfl;·exact .inl rfl
  ·exact .inl rfl
  ·exact .inr ⟨_,a7,b7,rfl⟩
 have g8:f=.non\/∃i:Int,0<=i/\i<30/\f=.int i:=by
  simp only[w_,R6,or_false]at m8;rcases m8 with rfl|rfl|rfl;·exact .inl rfl
  ·exact .inl rfl
  ·exact .inr ⟨_,a9,b9,rfl⟩
 have y:∃R,(R=b_ "any"\/R=b_ "near")/\q=.str R:=by
  simp only[w_,R6,or_false]at e;rcases e with rfl|rfl;·exact⟨_,.inl rfl,rfl⟩
  ·exact⟨_,.inr rfl,rfl⟩
 obtain⟨d,t,rfl⟩:=g0;obtain⟨w,hw,rfl⟩:=g1;obtain⟨R,hR,rfl⟩:=y;refine⟨d,w,k,j,g,f,E==0,R,⟨t,hw,g2,g4,g6,g8,hR⟩,?_⟩;have eB:fV=(aI (bW 3 (I Ì (ib (aO (Ð "n") (v3 (Ð "safe-a") (Ð "own-b") (Ð "N_2") (Ð "m-1") (Ð "safe-") (Ð "n")))) (ab ae 3 (dP (Y 0) (Y 1) (X 7))))) (aI (bW 4 (I Ì (ib (vZ (Ð "5") (Ð "") (Ð "a!b~") (Ð "x/y?z") (Ð "123456789012"))) (ab ae 3 (dP (Y 0) (I cH (Y 1) (X 1)) (X 5))))) (Eh 5 (vZ (fC .non) (fC .non) (Y 2) Dc (ab aX 2 (bt (Y 0) (I cH (Y 1) (X 3))))) (oH (IQ Dd) (oH (pS 6 (I Ì (ib (dP (fC .non) (Ð "/") (ab df 2 (bt (Y 0) (I cH (Y 1) (X 5)))))) (ab ae 3 (dP (Y 0) (I cH (Y 1) (X 4)) (X 3))))) (oH (pS 7 (I Ì (ib (dP (fC .non) (fC .non) (ab ae 3 (dP (Y 0) (I cH (Y 1) (X 7)) (X 60))))) (ab ae 3 (dP (Y 0) (I cH (Y 1) (X 6)) (X 3))))) (oH (pS 8 (I Ì (ib (dP (fC .non) (fC .non) (ab ae 3 (dP (Y 0) (I cH (Y 1) (X 9)) (X 30))))) (ab ae 3 (dP (Y 0) (I cH (Y 1) (X 8)) (X 3))))) (oH (pS 9 (I Ì (ib (bt (Ð "any") (Ð "near"))) (ab ae 3 (dP (Y 0) (I cH (Y 1) (X 11)) (X 2))))) (oH (pS 10 (I ß (ab ae 3 (dP (Y 0) (I cH (Y 1) (X 10)) (X 2))) (X 0))) (Gf 5 (jC (aO (Y 3) (aO (Y 4) (v3 (I Ì (Y 5) (ab ae 3 (dP (Y 0) (I cH (Y 1) (X 2)) (X 6)))) (Y 6) (Y 7) (Y 8) (Y 10) (Y 9))))))))))))))):=rfl;unfold ez aQ;rw[eB];simp[aI,sq,bW,cf,Õ,ab,aO,dZ,Y,fC,I,jC,ib,Eh,oH,IQ,pS,Gf,yc,cH,e0,e1,e2,e3,e4,e5,e6,e7,e8,e9,B,A,i0,i1,i2,i4,i6,i8,r,eL,eT,ß,kK,vi]
def pI(h:b=b_ "any"\/b=b_ "near"):dO [.str b]=bo L/\∃r,ß (.str b) (.str "near")=bo (!r):=by
 rcases h with rfl|rfl;·exact⟨by lk,L,by lk⟩
 ·exact⟨by lk,D,by lk⟩
variable{Λ:N}
def Gv.mu(g:Gv b j n ξ Α Λ t δ):Mo Α:=by
 rcases g.u with h|⟨i,c,d,a⟩;·exact .inl h
 ·exact .inr ⟨i,c,by omega,a⟩
def Gv.ml(g:Gv b j n ξ Α Λ t δ):Mo Λ:=by
 rcases g.l with h|⟨i,c,d,a⟩;·exact .inl h
 ·exact .inr ⟨i,c,by omega,a⟩
def tP{b:ë}(a:Ο ζ=Z (.ok t))(c:b ζ=Z (.ok π)):kB Ο b ζ=Z (.ok (t&&π)):=by
 cases t;·exact xX a
 ·rw[xW a,c];rfl
def wL(a:Ο ζ=Z (.ok t)):aI (aY Ο (aJ (fC n)) í) Τ ζ=if t=L then Z (.rt n)else Τ ζ:=by
 cases t;·rw[au (dR a)];rfl
 ·exact oG (by rw[C0 a];rfl)
def HN(e:k.map Z++P_ (c-k.length) U=ζ)(h:Τ ζ=Z (.rt n)):aQ c Τ k=Z (.ok n):=by unfold aQ;rw[e,h]
def Aj(F:Ñ){f:Ò}{b:Ev}{a d:N}(h:f b=Z (.ok a))(c:F [a]=Z (.ok d)):ab F 1 (az f) b=Z (.ok d):=cE F (ac h aw) rfl c
def HP(e:k.map Z++P_ (c-k.length) U=ζ)(h:Τ ζ=Z (.rt n)):aQ c Τ k=Z (.ok n):=by unfold aQ;rw[e,h]
def MG(h:A ζ=Z (.ok n)):aJ A ζ=Z (.rt n):=by unfold aJ;rw[h];rfl
def Dh(x:Str){k:Bool}(o:aN [.str x]=bo k)(g:Gv b j n ξ Α Λ t δ):gD [ą x j n ξ Α Λ t δ]=bo k:=by
 have p:bH [ą x j n ξ Α Λ t δ,.int 8]=bo L:=by lk
 have m:=QS g.w;have i:=Ah g.mu;have h:=Ah g.ml;have f:=(pI g.r).1;have e:Ě (I Ą (I Ì (Y 0) (X 2)) (fC .non)) (ab bC 1 (az (I Ì (Y 0) (X 2)))) [Z (ą x j n ξ Α Λ t δ)]=bo L:=by
  rcases g.hh with rfl|⟨a,c,rfl⟩;·exact KM rfl
  ·exact(KJ rfl).trans (d5 bC rfl (HL c))
 have d:Ě (I Ą (I Ì (Y 0) (X 3)) (fC .non)) (ab cj 1 (az (I Ì (Y 0) (X 3)))) [Z (ą x j n ξ Α Λ t δ)]=bo L:=by
  rcases g.pp with rfl|⟨a,c,rfl⟩;·exact KM rfl
  ·exact(KJ rfl).trans (d5 cj rfl (NV c))
 refine HP (ζ:=[Z (ą x j n ξ Α Λ t δ)]) rfl ?_;unfold iV;refine(wL (t:=D) (j8 (bd (cg bH (b:=.int 8) rfl rfl p)))).trans ?_;refine MG ((ci (ac (sE (ac (d5 aN rfl o) (ac (d5 bM rfl m) (ac e (ac d (ac (d5 aC rfl i) (ac (d5 aC rfl h) (ac (n:=.bl L) rfl (ac (d5 dO rfl f) aw)))))))) (by show 8<=100000;decide)) aw)).trans ?_);cases k<;>rfl
def Al(g:Gv b j n ξ Α Λ t δ):gD [ą b j n ξ Α Λ t δ]=bo L:=Dh b (QR g.nm) g
def Ř(e b a c d:Bool):N:=if e then .str "foreign"else if b then .str "open"else if a then .str "unsafe"else if c then .str "marked"else if d then .str "far"else .non
def Ň{h p:Str}{O:N}(y:k∈gH Ü)(a:Ak h p O)(g:Gv b j n ξ Α Λ t δ){f e m i r:Bool}{s:Bool}(B:bf [.tup k,à s h p O,ą b j n ξ Α Λ t δ]=bo m)(A:ag [.tup k,à s h p O]=bo i)(z:ß (.str δ) (.str "near")=bo (!r))(o:(n=.non/\f=D/\e=D)\/∃c q d,n=.str c/\aB [.str h,.str c]=bo (!f)/\č (.str c) (.str h)=bo q/\fA [.tup k,.str c]=bo d/\e=(q&&d)):bI [.tup k,à s h p O,ą b j n ξ Α Λ t δ]=Z (.ok (Ř f e (t&&!s) (!m) (!r&&!i))):=by
 have P:=IZ (fK y);have E:=QU (Al g);have H:=NW (HM (t:=s) a);refine HN (ζ:=[Z (.tup k),Z (à s h p O),Z (ą b j n ξ Α Λ t δ),U]) rfl ?_;unfold eQ;rw[au (cW (Aj aL (a:=.tup k) rfl P)),au (cW (Aj cq (a:=à s h p O) rfl H)),au (cW (Aj dk (a:=ą b j n ξ Α Λ t δ) rfl E)),au (bG (n:=n) (a:=[Z (.tup k),Z (à s h p O),Z (ą b j n ξ Α Λ t δ),Z n]) rfl rfl)];refine(wL (t:=f) ?_).trans ?_
 · rcases o with⟨rfl,rfl,rfl⟩|⟨c,q,d,rfl,w,v,u,rfl⟩;·exact xX (bd rfl)
   ·rw[xW (bd rfl)];exact(j8 (bd (cg aB rfl rfl w))).trans (by rw[YB])
 unfold Ř;cases f;rotate_left;·rfl
 refine(wL (t:=e) ?_).trans ?_
 · rcases o with⟨rfl,_,rfl⟩|⟨c,q,d,rfl,w,v,u,rfl⟩;·exact xX (bd rfl)
   ·rw[xW (bd rfl)];exact tP (bd ((bg rfl rfl).trans v)) (bd (cg fA rfl rfl u))
 cases e;rotate_left;·rfl
 refine(wL (t:=t&&!s) (tP (bd rfl) (j8 (bd rfl)))).trans ?_;cases t&&!s;rotate_left;·rfl
 refine(wL (j8 (bd (pH bf rfl rfl rfl B)))).trans ?_;cases !m;rotate_left;·rfl
 refine(wL (tP (bd ((bg rfl rfl).trans z)) (j8 (bd (cg ag rfl rfl A))))).trans ?_;cases !r&&!i<;>rfl
def NY(b a S d c:Bool):Bool:=(b&&!S)||(a&&!(S&&(d&&c)))
def An{h p:Str}{O:N}{d:Bool}{s:Bool}(e:b∈ĵ)(i:ß ξ (.str "/")=bo π)(g:cB [.tup k,à s h p O,ą b j n ξ Α Λ t δ]=bo d):bf [.tup k,à s h p O,ą b j n ξ Α Λ t δ]=bo (!NY (Sk b (b_ "safe-")) (Sk b (b_ "own-")) t d π):=by have f:=RJ e;cases c:Sk b (b_ "safe-")with
 |true=>
 rw[c]at f;have a:Sk b (b_ "own-")=D:=by simpa using f
 rw[a];cases t<;>simp[bf,aQ,bR,aI,sq,aY,aJ,bW,cf,Õ,fB,ñ,aO,dZ,Y,fC,I,Ì,ó,fM,qj,c,NY]|false=>cases a:Sk b (b_ "own-")with|true=>cases t<;>cases d<;>cases π<;>simp[bf,aQ,bR,aI,sq,aY,aJ,bW,cf,Õ,fB,ñ,ab,aO,dZ,Y,fC,I,Ì,ó,ij,fM,qj,c,a,g,i,NY]|false=>simp[bf,aQ,bR,aI,sq,aY,aJ,bW,cf,Õ,fB,ñ,aO,dZ,Y,fC,I,Ì,ó,fM,qj,c,a,NY]
structure Wt(t:List N)(h p:Str)(O:N)(nm w:Str)(H P u l:N)(S:Bool)(R:Str)(s:Bool)(house path:Str)(ex:Bool)(wd:N):Prop where
 hs:house∈En
 ph:path∈î
 win:wd=.non\/∃x∈["foreign","open","unsafe","marked","far"],wd=.str (b_ x)why:bI [.tup t,à s h p O,ą nm w H P u l S R]=Z (.ok wd)hf:fz [à s h p O,ą nm w H P u l S R]=Z (.ok (.str house))hl:(H=.non/\house=h)\/H=.str house
 ix:cB [.tup t,à s h p O,ą nm w H P u l S R]=bo ex
 pf:eY [à s h p O,ą nm w H P u l S R]=Z (.ok (.str path))un:wd=.non->s=D->S=D
def Ao(e b a c d:Bool):Ř e b a c d=.non\/∃x∈["foreign","open","unsafe","marked","far"],Ř e b a c d=.str (b_ x):=by cases e<;>cases b<;>cases a<;>cases c<;>cases d<;>first|exact .inl rfl|exact .inr ⟨"foreign",by simp,rfl⟩|exact .inr ⟨"open",by simp,rfl⟩|exact .inr ⟨"unsafe",by simp,rfl⟩|exact .inr ⟨"marked",by simp,rfl⟩|exact .inr ⟨"far",by simp,rfl⟩
def Ap{a c S s:Bool}(h:Ř t π (S&&!s) a c=.non)(b:s=D):S=D:=by
 subst b;cases S;·rfl
 ·cases t<;>cases π<;>cases h
def PP{h p:Str}{O:N}(A:k∈gH Ü)(a:Ak h p O)(g:Gv b j n ξ Α Λ t δ)(s:Bool):∃i d ex wd,Wt k h p O b j n ξ Α Λ t δ s i d ex wd:=by
 obtain⟨nr,hN⟩:=MD A a;obtain⟨_,r,P⟩:=pI g.r;have B:∃pe,ß ξ (.str "/")=bo pe:=by
  rcases g.pp with rfl|⟨q,_,rfl⟩;·exact⟨D,rfl⟩
  ·exact⟨_,rfl⟩
 obtain⟨pe,B⟩:=B;have e:∃d∈î,eY [à s h p O,ą b j n ξ Α Λ t δ]=Z (.ok (.str d)):=by
  rcases g.pp with rfl|⟨q,hq,rfl⟩;·obtain⟨f,hf,k2⟩:=RK a.p;exact⟨f,hf,by simp[eY,aQ,gE,aI,sq,aY,aJ,cf,Õ,fB,ñ,ab,aO,dZ,Y,fC,I,Ì,ó,Ą,k2]⟩
  ·exact⟨q,hq,by simp[eY,aQ,gE,aI,sq,aY,aJ,cf,Õ,fB,ñ,Y,fC,I,Ì,ó,Ą]⟩
 obtain⟨d,w,y⟩:=e;rcases g.hh with rfl|⟨c,E,rfl⟩
 · have v:cB [.tup k,à s h p O,ą b j .non ξ Α Λ t δ]=bo L:=by simp[cB,aQ,gC,aI,sq,aY,aJ,bW,cf,Õ,fB,ñ,Y,fC,I,Ì,ó,Ą]
   have u:=Ň (f:=D) (e:=D) A a g (An g.nm B v) (hN s) P (.inl ⟨rfl,rfl,rfl⟩);rw[YB]at u;exact⟨h,d,L,_,a.h,w,Ao _ _ _ _ _,u,by simp[fz,aQ,fw,aI,sq,aY,aJ,cf,Õ,fB,ñ,Y,fC,I,Ì,ó,Ą],.inl ⟨rfl,rfl⟩,v,y,Ap⟩
 · obtain⟨m,o,hm,_,_⟩:=wK A E;obtain⟨wi,H⟩:=QT (a.h) E;have z:fA [.tup k,.str c]=bo (seq m c):=by simp[fA,aQ,jS,aJ,cf,Õ,ab,aO,dZ,Y,I,hm,ß,kK,vi]
   have v:cB [.tup k,à s h p O,ą b j (.str c) ξ Α Λ t δ]=bo (seq c h&&seq m c):=by simp[cB,aQ,gC,aI,sq,aY,aJ,bW,cf,Õ,fB,ñ,ab,aO,dZ,Y,fC,I,Ì,ó,ij,Ą,z,ß,kK,vi];cases seq c h<;>simp[aI]
   have u:=Ň (f:=!wi) (e:=!seq c h&&seq m c) A a g (An g.nm B v) (hN s) P (.inr ⟨c,!seq c h,seq m c,rfl,by rw[H,YB],by simp[č,kK,vi],z,rfl⟩);rw[YB]at u;exact⟨c,d,_,_,E,w,Ao _ _ _ _ _,u,by simp[fz,aQ,fw,aI,sq,aY,aJ,cf,Õ,fB,ñ,Y,fC,I,Ì,ó,Ą],.inr rfl,v,y,Ap⟩
def fP(a b:Str):(a++b).length=a.length+b.length:=XT
def pJ(a b c:Str):a++b++c=a++(b++c):=by show Str.mk (a.cps++b.cps++c.cps)=Str.mk (a.cps++(b.cps++c.cps));rw[ZH]
def MH(a:Str):a++b_ ""=a:=by show Str.mk (a.cps++#[])=a;rw[Array.append_empty]
def step(t:Str)(o:Option Str):Str:=match o with|none=>t|some y=>t++b_ "; "++y
def j3(t:Str)(o:Option Str)(B:Nat)(h:∀y,o=Z y->y.length<=B):(step t o).length<=t.length+2+B:=by cases o with|none=>show t.length<=_;omega|some y=>
 have:=h y rfl;show(t++b_ "; "++y).length<=_;rw[fP,fP];have e:(b_ "; ").length=2:=by decide
 omega
def mG(a:Str):∀(l:List Str)(x:Str),Vl a (x::l)=l.foldl (λt y=>t++a++y) x|[],x=>rfl|y::l,x=>mG a l (x++a++y)
def iY(t:Str)(o:Option Str)(l:List Str):(o.toList++l).foldl (λt y=>t++b_ "; "++y) t=l.foldl (λt y=>t++b_ "; "++y) (step t o):=by cases o<;>rfl
def rO:∀l:List Str,oE (l.map N.str)=Z l|[]=>rfl|x::l=>by show(match oE (l.map N.str)with|some a=>Z (x::a)|none=>U)=_;rw[rO l]
def vo(b:Str)(B:Nat):∀(l:List Str)(n:Nat),(∀t∈l,t.length<=B)->l.foldl (λa t=>a+t.length+b.length) n<=n+l.length*(B+b.length)|[],n,_=>by simp|t::l,n,h=>by have d:=vo b B l (n+t.length+b.length) λx c=>h x (m_ _ c);have e:=h t o_;show l.foldl _ (n+t.length+b.length)<=_;rw[SD,Nat.succ_mul];omega
def HQ(h:∀t∈v,t.length<=20000)(c:v.length<=10)(f:b.length<=10):JoinOk b v=L:=by
 have e:=vo b 20000 v 0 h;have g:v.length*(20000+b.length)<=10*(20000+10):=Nat.mul_le_mul c (by omega);unfold JoinOk Builtin.Str.tooLong;rw[List.foldl_toArray];have d:¬(v.foldl (λa t=>a+t.length+b.length) 0>sizeLine):=by
  have:sizeLine=16777216:=by decide
  omega
 simp only[d];rfl
def eS:Option Str->N|none=>.non|some x=>.str x
def eO:Option Int->N|none=>.non|some x=>.int x
def is(i:Int):Str:=b_ (toString i)
def EE(b:0<=i)(a:i<=9999):(is i).length<=10001:=by have:=PyProof.Rows.len_str_of_int i;unfold is;omega
def PQ(b:0<=i)(a:i<=9999):O0 [.int i]=Z (.ok (.str (is i))):=by
 show(if i.natAbs.log2<1920 then _ else U)=_;rw[if_pos];·rfl
 · have e:i.natAbs<2^1920:=Q_ (show i.natAbs<2^14 by omega) (Nat.pow_le_pow_right (by decide) (by decide));by_cases z:i.natAbs=0;·rw[z];decide
   ·exact(Nat.log2_lt z).mpr e
structure Vv(nm w:Str)(h p:Option Str)(u l:Option Int)(R:Str):Prop where nm:nm.length<=50w:w.length<=50h:∀x,h=Z x->x.length<=50p:∀x,p=Z x->x.length<=50u:∀i,u=Z i->0<=i/\i<=9999l:∀i,l=Z i->0<=i/\i<=9999
abbrev gv(a w:Str)(h p:Option Str)(u l:Option Int)(S:Bool)(R:Str):N:=.tup [.str a,.str w,eS h,eS p,eO u,eO l,.bl S,.str R]
def oS(a:String)(h:Option Str):Option Str:=h.map λx=>b_ a++x
def oI(a:String)(h:Option Int):Option Str:=h.map λx=>b_ a++is x
def oB(x:String)(b:Bool):Option Str:=if b then Z (b_ x)else U
def Ă(a w:Str):Str:=a++b_ "="++w
def ku(R:Str):Bool:=seq R (b_ "near")
def T(a w:Str)(h p:Option Str)(u l:Option Int)(S:Bool)(R:Str):Str:=step (step (step (step (step (step (Ă a w) (oS "for " h)) (oS "under " p)) (oI "until " u)) (oI "lasts " l)) (oB "safe" S)) (oB "near" (ku R))
def HR(h:b.length+j.length<=100000):cH (.str b) (.str j)=Z (.ok (.str (b++j))):=by show(if b.length+j.length<=100000 then _ else U)=_;rw[if_pos h]
def kN(h:b.length+j.length<=100000):gJ (.str b) (.str j)=Z (.ok (.str (b++j))):=HR h
def nS(o:Option Str):o.toList.length<=1:=by cases o<;>simp
variable{Ξ:Option Str}
def QV{a:String}(d:(b_ a).length<=10)(c:∀x,Ξ=Z x->x.length<=50):∀y,oS a Ξ=Z y->y.length<=60:=by intro y b;cases Ξ with|none=>cases b|some x=>cases b;rw[fP];have:=c x rfl;omega
def QW{a:String}(d:(b_ a).length<=10)(c:∀x,Β=Z x->0<=x/\x<=9999):∀y,oI a Β=Z y->y.length<=10020:=by intro y b;cases Β with|none=>cases b|some x=>cases b;rw[fP];have:=EE (c x rfl).1 (c x rfl).2;omega
def RL{x:String}(b:(b_ x).length<=10):∀y,oB x t=Z y->y.length<=60:=by intro y a;cases t with|false=>cases a|true=>cases a;omega
def HS(h:A ζ=Z (.ok n)):aJ A ζ=Z (.rt n):=by unfold aJ;rw[h];rfl
def EL(c w:Str)(h p:Option Str)(u l:Option Int)(S:Bool)(R:Str)(t:Str)(a b:Option N):Ev:=[Z (gv c w h p u l S R),Z (.str c),Z (.str w),Z (eS h),Z (eS p),Z (eO u),Z (eO l),Z (.bl S),Z (.str R),Z (.str t),a,b]
def rP{p:Option Str}{c e:Str}{a d:Option N}:jb (gP 10 11) [11,10] aM (.tup [.str e,.non]::k) (EL b j Ξ p Β Κ t δ c a d)=jb (gP 10 11) [11,10] aM k (EL b j Ξ p Β Κ t δ c (Z (.str e)) (Z .non)):=rfl
def nU{p:Option Str}{d f y:Str}{a e:Option N}(i:kP n .non=bo L)(h:IT [n]=Z (.ok (.str y)))(q:d.length+2+f.length+1+y.length<=100000):jb (gP 10 11) [11,10] aM (.tup [.str f,n]::k) (EL b j Ξ p Β Κ t δ d a e)=jb (gP 10 11) [11,10] aM k (EL b j Ξ p Β Κ t δ (d++b_ "; "++f++b_ " "++y) (Z (.str f)) (Z n)):=by
 have r:(b_ "; ").length=2:=by decide
 have s:(b_ " ").length=1:=by decide
 have m:aM (EL b j Ξ p Β Κ t δ d (Z (.str f)) (Z n))=Z (.nx (EL b j Ξ p Β Κ t δ (d++b_ "; "++f++b_ " "++y) (Z (.str f)) (Z n))):=by
  have c:fB (I kP (Y 11) (fC .non)) (EL b j Ξ p Β Κ t δ d (Z (.str f)) (Z n))=Z (.ok L):=bd i;have z:I gJ (I gJ (I gJ (I gJ (Y 9) (Ð "; ")) (Y 10)) (Ð " ")) (â IT (az (Y 11))) (EL b j Ξ p Β Κ t δ d (Z (.str f)) (Z n))=Z (.ok (.str (d++b_ "; "++f++b_ " "++y))):=by refine(bg ((bg ((bg ((bg (n:=.str d) (ξ:=.str "; ") rfl rfl).trans (kN (by omega))) (ξ:=.str f) rfl).trans (kN (by rw[fP];omega))) (ξ:=.str " ") rfl).trans (kN (by rw[fP,fP];omega))) ((ci (ac (n:=n) rfl aw)).trans h)).trans ?_;exact kN (by rw[fP,fP,fP];omega)
  unfold aM aY;rw[c];exact bG z rfl
 show(match aM (EL b j Ξ p Β Κ t δ d (Z (.str f)) (Z n))with|some (.nx g)=>jb (gP 10 11) [11,10] aM k g|o=>o)=_;rw[m]
def EF(t b a y:Str)(c:b++b_ " "=a):t++b_ "; "++b++b_ " "++y=t++b_ "; "++(a++y):=by rw[pJ (t++b_ "; ") b,c,pJ (t++b_ "; ") a]
def MI{p:Option Str}{c f e:Str}{o:Option Str}{a d:Option N}(g:f++b_ " "=e)(h:∀x,o=Z x->x.length<=50)(q:c.length<=80000)(n:f.length<=10):∃m i,jb (gP 10 11) [11,10] aM (.tup [.str f,eS o]::k) (EL b j Ξ p Β Κ t δ c a d)=jb (gP 10 11) [11,10] aM k (EL b j Ξ p Β Κ t δ (step c (o.map λx=>e++x)) m i):=by cases o with|none=>exact⟨_,_,rP⟩|some x=>have:=h x rfl;refine⟨Z (.str f),Z (.str x),(nU (n:=.str x) (y:=x) rfl rfl (by omega)).trans ?_⟩;rw[EF c f e x g];rfl
def MJ{p:Option Str}{c g f:Str}{o:Option Int}{a d:Option N}(i:g++b_ " "=f)(h:∀x,o=Z x->0<=x/\x<=9999)(r:c.length<=80000)(q:g.length<=10):∃n m,jb (gP 10 11) [11,10] aM (.tup [.str g,eO o]::k) (EL b j Ξ p Β Κ t δ c a d)=jb (gP 10 11) [11,10] aM k (EL b j Ξ p Β Κ t δ (step c (o.map λx=>f++is x)) n m):=by cases o with|none=>exact⟨_,_,rP⟩|some x=>have:=h x rfl;have:=EE this.1 this.2;have e:IT [.int x]=Z (.ok (.str (is x))):=PQ (h x rfl).1 (h x rfl).2;refine⟨Z (.str g),Z (.int x),(nU (n:=.int x) (y:=is x) rfl e (by omega)).trans ?_⟩;rw[EF c g f (is x) i];rfl
def HU{p:Option Str}(v:Vv b j Ξ p Β Κ δ):fJ [gv b j Ξ p Β Κ t δ]=Z (.ok (.str (T b j Ξ p Β Κ t δ))):=by
 have l1:=v.nm;have l2:=v.w;have lq:(b_ "=").length=1:=by decide
 have b0:(Ă b j).length<=200:=by unfold Ă;rw[fP,fP];omega
 have b1:=j3 (Ă b j) (oS "for " Ξ) 60 (QV (by decide) v.h);have b2:=j3 (step (Ă b j) (oS "for " Ξ)) (oS "under " p) 60 (QV (by decide) v.p);have b3:=j3 (step (step (Ă b j) (oS "for " Ξ)) (oS "under " p)) (oI "until " Β) 10020 (QW (by decide) v.u);have b4:=j3 (step (step (step (Ă b j) (oS "for " Ξ)) (oS "under " p)) (oI "until " Β)) (oI "lasts " Κ) 10020 (QW (by decide) v.l);obtain⟨H,A,w⟩:=MI (b:=b) (j:=j) (Ξ:=Ξ) (p:=p) (Β:=Β) (Κ:=Κ) (t:=t) (δ:=δ) (c:=Ă b j) (f:=b_ "for") (e:=b_ "for ") (o:=Ξ) (a:=U) (d:=U) (k:=[.tup [.str "under",eS p],.tup [.str "until",eO Β],.tup [.str "lasts",eO Κ]]) (by lk) v.h (by omega) (by decide);obtain⟨E,z,u⟩:=MI (b:=b) (j:=j) (Ξ:=Ξ) (p:=p) (Β:=Β) (Κ:=Κ) (t:=t) (δ:=δ) (c:=step (Ă b j) (oS "for " Ξ)) (f:=b_ "under") (e:=b_ "under ") (o:=p) (a:=H) (d:=A) (k:=[.tup [.str "until",eO Β],.tup [.str "lasts",eO Κ]]) (by lk) v.p (by omega) (by decide);obtain⟨B,y,s⟩:=MJ (b:=b) (j:=j) (Ξ:=Ξ) (p:=p) (Β:=Β) (Κ:=Κ) (t:=t) (δ:=δ) (c:=step (step (Ă b j) (oS "for " Ξ)) (oS "under " p)) (g:=b_ "until") (f:=b_ "until ") (o:=Β) (a:=E) (d:=z) (k:=[.tup [.str "lasts",eO Κ]]) (by lk) v.u (by omega) (by decide);obtain⟨a4,c4,r⟩:=MJ (b:=b) (j:=j) (Ξ:=Ξ) (p:=p) (Β:=Β) (Κ:=Κ) (t:=t) (δ:=δ) (c:=step (step (step (Ă b j) (oS "for " Ξ)) (oS "under " p)) (oI "until " Β)) (g:=b_ "lasts") (f:=b_ "lasts ") (o:=Κ) (a:=B) (d:=y) (k:=[]) (by lk) v.l (by omega) (by decide);let d:Str:=step (step (step (step (Ă b j) (oS "for " Ξ)) (oS "under " p)) (oI "until " Β)) (oI "lasts " Κ);have P:d.length<=90000:=by show(step (step (step (step (Ă b j) (oS "for " Ξ)) (oS "under " p)) (oI "until " Β)) (oI "lasts " Κ)).length<=_;omega
 have e:jb (gP 10 11) [11,10] aM [.tup [.str "for",eS Ξ],.tup [.str "under",eS p],.tup [.str "until",eO Β],.tup [.str "lasts",eO Κ]] (EL b j Ξ p Β Κ t δ (Ă b j) U U)=Z (.nx (EL b j Ξ p Β Κ t δ d U U)):=w.trans (u.trans (s.trans (r.trans rfl)));have f:(λh=>Õ ((bt (jC (iZ (Ð "for") (Ð "under") (Ð "until") (Ð "lasts"))) (i9 (Y 0) (cY (X 2)) (cY (X 6)))) h) IS) (EL b j Ξ p Β Κ t δ (Ă b j) U U)=Z (.ok [.tup [.str "for",eS Ξ],.tup [.str "under",eS p],.tup [.str "until",eO Β],.tup [.str "lasts",eO Κ]]):=by lk
 have n:I gJ (I gJ (Y 1) (Ð "=")) (Y 2) [Z (gv b j Ξ p Β Κ t δ),Z (.str b),Z (.str j),Z (eS Ξ),Z (eS p),Z (eO Β),Z (eO Κ),Z (.bl t),Z (.str δ),U,U,U]=Z (.ok (.str (Ă b j))):=(bg ((bg (n:=.str b) (ξ:=.str "=") rfl rfl).trans (kN (by omega))) (ξ:=.str j) rfl).trans (kN (by rw[fP];omega));have f1:ĩ (fB (Y 7)) (Ð "; safe") (Ð "") (EL b j Ξ p Β Κ t δ d U U)=Z (.ok (.str (if t then b_ "; safe"else b_ ""))):=by cases t<;>rfl
 have q:d++(if t then b_ "; safe"else b_ "")=step d (oB "safe" t):=by
  cases t;·exact MH d
  ·show d++b_ "; safe"=d++b_ "; "++b_ "safe";rw[pJ];rfl
 have b5:=j3 d (oB "safe" t) 60 (RL (by decide));have m:I gJ (Y 9) (ĩ (fB (Y 7)) (Ð "; safe") (Ð "")) (EL b j Ξ p Β Κ t δ d U U)=Z (.ok (.str (step d (oB "safe" t)))):=by
  rw[<-q];refine(bg (n:=.str d) rfl f1).trans (kN ?_);have:(if t then b_ "; safe"else b_ "").length<=10:=by cases t<;>decide
  omega
 have i:ĩ (fB (I ß (Y 8) (Ð "near"))) (Ð "; near") (Ð "") (EL b j Ξ p Β Κ t δ d U U)=Z (.ok (.str (if ku δ then b_ "; near"else b_ ""))):=by have c:fB (I ß (Y 8) (Ð "near")) (EL b j Ξ p Β Κ t δ d U U)=Z (.ok (ku δ)):=rfl;unfold ĩ;rw[c];cases ku δ<;>rfl
 have o:∀a:Str,a++(if ku δ then b_ "; near"else b_ "")=step a (oB "near" (ku δ)):=by
  intro a;cases ku δ;·exact MH a
  ·show a++b_ "; near"=a++b_ "; "++b_ "near";rw[pJ];rfl
 have k:(I gJ (I gJ (Y 9) (ĩ (fB (Y 7)) (Ð "; safe") (Ð ""))) (ĩ (fB (I ß (Y 8) (Ð "near"))) (Ð "; near") (Ð ""))) (EL b j Ξ p Β Κ t δ d U U)=Z (.ok (.str (T b j Ξ p Β Κ t δ))):=by
  refine(bg m i).trans ((kN ?_).trans ?_)
  · have:(if ku δ then b_ "; near"else b_ "").length<=10:=by cases ku δ<;>decide
    omega
  ·rw[o];rfl
 refine dI ?_;show fI [Z (gv b j Ξ p Β Κ t δ),U,U,U,U,U,U,U,U,U,U,U]=_;unfold fI;rw[au (show KH [1,2,3,4] (i9 (Y 0) fL (cY (X 4))) [Z (gv b j Ξ p Β Κ t δ),U,U,U,U,U,U,U,U,U,U,U]=Z (.nx [Z (gv b j Ξ p Β Κ t δ),Z (.str b),Z (.str j),Z (eS Ξ),Z (eS p),U,U,U,U,U,U,U])by lk)];rw[au (show KH [5,6,7,8] (i9 (Y 0) (cY (X 4)) fL) [Z (gv b j Ξ p Β Κ t δ),Z (.str b),Z (.str j),Z (eS Ξ),Z (eS p),U,U,U,U,U,U,U]=Z (.nx [Z (gv b j Ξ p Β Κ t δ),Z (.str b),Z (.str j),Z (eS Ξ),Z (eS p),Z (eO Β),Z (eO Κ),Z (.bl t),Z (.str δ),U,U,U])by lk)];rw[au (bG (a:=EL b j Ξ p Β Κ t δ (Ă b j) U U) n rfl)];have g:wb (gP 10 11) [11,10] (λh=>Õ ((bt (jC (iZ (Ð "for") (Ð "under") (Ð "until") (Ð "lasts"))) (i9 (Y 0) (cY (X 2)) (cY (X 6)))) h) IS) aM (EL b j Ξ p Β Κ t δ (Ă b j) U U)=Z (.nx (EL b j Ξ p Β Κ t δ d U U)):=by unfold wb;rw[f];exact e
 rw[au g];exact HS k
def pK(p:Str):Option (Nat×N):=match bK [.str p]with|some (.ok (.tup [.int k,d]))=>Z (k.toNat,d)|_=>U
def eT:Option (Nat×N)->N|none=>.non|some (k,d)=>.tup [.int k,d]
def ŝ(p:Str):Bool:=match bK [.str p]with|some (.ok .non)=>L|some (.ok (.tup [.int k,_]))=>uk (2<=k)&&uk (k<8)|_=>D
def HV(h:ŝ b=L):bK [.str b]=Z (.ok (eT (pK b)))/\∀k d,pK b=Z (k,d)->2<=k/\k<8:=by
 unfold ŝ at h;unfold pK;split at h;·rename_i e;rw[e];exact⟨rfl,λk d z=>by cases z⟩
 · rename_i k d e;rw[e];rw[pi,decide_eq_true_eq,decide_eq_true_eq]at h;refine⟨?_,λa c z=>?_⟩;·show _=Z (Rs.ok (N.tup [.int (k.toNat:Int),d]));rw[Int.toNat_of_nonneg (by omega)]
   ·cases z;omega
 ·cases h
def Ŝ:Str:=b_ " "
def ť:Str:=b_ "  "
def gI(b p a:Str):Bool:=seq (Uk (b++p++a) Ŝ) p&&!((b++p++a).cps.toList.contains 59)
def ē:Str:=b_ ""
def okS(p:Str):Bool:=gI ē p ē&&(gI Ŝ p ē&&(gI ť p ť&&(gI ē p ť&&(gI ť p ē&&uk (p.length<=200)))))
def QX(p:Str):Bool:=ŝ p&&okS p
def RN:List Str:=[b_ "x=y",b_ "until",b_ "for A",b_ "under b",b_ "lasts 99999",b_ "SAFE",b_ "",b_ "safe near",b_ "until  7"]
def MK:List Str:=[b_ "until 17",b_ "under /q",b_ "lasts 4",b_ "for q.r"]
def rQ(n:Nat):List Int:=(rl n).map λi:Nat=>(i:Int)
def ş:List Str:=En.map (λh=>b_ "for "++h)++(î.map (λh=>b_ "under "++h)++((rQ 60).map (λi=>b_ "until "++is i)++((rQ 30).map (λi=>b_ "lasts "++is i)++([b_ "safe",b_ "near"]++(RN++MK)))))
def HW:ş.all QX=L:=by lk
def tS(p:Str)(k:Nat)(s:Str):Bool:=match pK p with|some (j,.str z)=>j==k&&seq z s|_=>D
def tI(p:Str)(k:Nat)(i:Int):Bool:=match pK p with|some (j,.int z)=>j==k&&z==i|_=>D
def ML(h:tS b c j=L):pK b=Z (c,.str j):=by
 unfold tS at h;generalize pK b=o at h⊢;rcases o with _|⟨a,d⟩;·cases h
 ·cases d with|str z=>have e:(a==c&&seq z j)=L:=h;rw[pi]at e;rw[gX e.2,WT e.1]|_=>cases h
def MM(h:tI b c i=L):pK b=Z (c,.int i):=by
 unfold tI at h;generalize pK b=o at h⊢;rcases o with _|⟨j,d⟩;·cases h
 ·cases d with|int z=>have a:(j==c&&z==i)=L:=h;rw[pi]at a;rw[WT a.2,WT a.1]|_=>cases h
def MN:(En.all λh=>tS (b_ "for "++h) 2 h)=L:=by lk
def MO:(î.all λh=>tS (b_ "under "++h) 3 h)=L:=by lk
def MP:((rQ 60).all λi=>tI (b_ "until "++is i) 4 i)=L:=by lk
def MQ:((rQ 30).all λi=>tI (b_ "lasts "++is i) 5 i)=L:=by lk
def PR(q:b∈En):pK (b_ "for "++b)=Z (2,.str b):=ML (aR (p:=λb=>tS (b_ "for "++b) 2 b) MN q)
def PU(q:b∈î):pK (b_ "under "++b)=Z (3,.str b):=ML (aR (p:=λb=>tS (b_ "under "++b) 3 b) MO q)
def PV(q:i∈rQ 60):pK (b_ "until "++is i)=Z (4,.int i):=MM (aR (p:=λi=>tI (b_ "until "++is i) 4 i) MP q)
def PX(q:i∈rQ 30):pK (b_ "lasts "++is i)=Z (5,.int i):=MM (aR (p:=λi=>tI (b_ "lasts "++is i) 5 i) MQ q)
def MR:pK (b_ "safe")=Z (6,.bl L):=by lk
def MS:pK (b_ "near")=Z (7,.str "near"):=by lk
def put(a:List N)(p:Str):List N:=match pK p with|none=>a|some (k,d)=>a.set k d
def HX(a:List N)(p:Str):(put a p).length=a.length:=by unfold put;split<;>simp
def rR:∀l:List Str,Þ (l.map N.str)=L|[]=>rfl|x::l=>by show(ġ (.str x)&&Þ (l.map N.str))=L;rw[rR l];rfl
def ER(x:Str)(c d:N)(a b:Option N):Ev:=[Z (.str x),Z c,Z d,U,a,b]
def HY{c:Option N}(h:ŝ j=L)(r:k.length=8):∃q,bp (ER b n ξ (Z (.str j)) c) k=Z (.nx (ER b n ξ (Z (.str j)) q) (put k j)):=by
 obtain⟨e,m⟩:=HV h;refine⟨Z (eT (pK j)),?_⟩;have p:pS 5 (ab bK 1 (az (Y 4))) (ER b n ξ (Z (.str j)) c) k=Z (.nx (ER b n ξ (Z (.str j)) (Z (eT (pK j)))) k):=by unfold pS;rw[d5 bK (f:=Y 4) (b:=ER b n ξ (Z (.str j)) c) (a:=.str j) rfl e];rfl
 unfold bp;show(match pS 5 (ab bK 1 (az (Y 4))) (ER b n ξ (Z (.str j)) c) k with|some (.nx f g)=>(oIf (fB (I kP (Y 5) (fC .non))) (uy (I Ì (Y 5) (X 0)) (I Ì (Y 5) (X 1))) OY) f g|o=>o)=_;rw[p];unfold put;match i:pK j with|none=>rfl|some (a,d)=>have:=m a d i;show(if 0<=(a:Int)/\(a:Int)<k.length then Z (Fo.nx (ER b n ξ (Z (.str j)) (Z (.tup [.int a,d]))) (k.set (a:Int).toNat d))else U)=_;rw[if_pos ⟨by omega,by omega⟩];rfl
def Aq{x:Str}{c g:N}:∀(f:List Str)(d:List N)(a b:Option N),(∀p∈f,ŝ p=L)->d.length=8->qu 4 [4,5] bp (f.map N.str) (ER x c g a b) d=Z (.nx (ER x c g U U) (f.foldl put d))|[],d,a,b,_,_=>rfl|p::f,d,a,b,h,k=>by obtain⟨n,e⟩:=HY (b:=x) (n:=c) (ξ:=g) (c:=U) (k:=d) (h p o_) k;show(match bp (ER x c g (Z (.str p)) U) d with|some (.nx i j)=>qu 4 [4,5] bp (f.map N.str) i j|o=>o)=_;rw[e];exact Aq f (put d p) (Z (.str p)) n (λq m=>h q (m_ _ m)) (by rw[HX];exact k)
def HZ(d w:Str):Bool:=okS (Ă d w)&&(match oF (Ă d w) [.str "="]with|some (.ok (.tup [.str a,.str b,.str c]))=>seq a d&&(seq b (b_ "=")&&seq c w)|_=>D)&&(Ĺ (aN [.str d])&&Ĺ (bM [.str w]))
def vp:(ĵ.all λn=>Ķ.all λw=>HZ n w)=L:=by lk
def ŏ(a w:Str):List N:=[.str a,.str w,.non,.non,.non,.non,.bl D,.str "any"]
def Ia{h:List Str}(hx:b.length<=100000)(u:j∈ĵ)(hw:δ∈Ķ)(y:UO b (b_ ";")=v)(hq:v.length<=100)(ht:v.map (λq=>Uk q Ŝ)=Ă j δ::h)(hl:∀q∈v,q.length<=1000)(hp:∀p∈h,ŝ p=L):aP [.str b]=Z (.ok (.tup (h.foldl put (ŏ j δ)))):=by
 have r:=aR (p:=λδ=>HZ j δ) (aR (p:=λn=>Ķ.all λδ=>HZ n δ) vp u) hw;unfold HZ at r;simp only[pi]at r;obtain⟨⟨_,k⟩,h3,h4⟩:=r;have e3:=mF h3;have e4:=mF h4;have e2:oF (Ă j δ) [.str "="]=Z (.ok (.tup [.str j,.str "=",.str δ])):=by
  split at k;·rename_i a g c e;simp only[pi]at k;rw[e,gX k.1,gX k.2.1,gX k.2.2]
  ·cases k
 have P:bP 1 [] (cV (fM (g9) (Y 0) (az (Ð ";")))) (gN 0) U (fM (lK) (Y 0) (az (Ð " "))) [Z (.str b),U,U,U,U,U]=Z (.ok (.lst ((Ă j δ::h).map N.str))):=by
  have m:cV (fM (g9) (Y 0) (az (Ð ";"))) [Z (.str b),U,U,U,U,U]=Z (.ok (v.map N.str)):=by
   have z:fM (g9) (Y 0) (az (Ð ";")) [Z (.str b),U,U,U,U,U]=Z (.ok (.lst (v.map N.str))):=by show g9 b [.str ";"]=_;show(if(b_ ";").length≠0/\b.length<=100000/\(UO b (b_ ";")).length<=100000 then _ else U)=_;rw[if_pos ⟨by decide,hx,by rw[y];omega⟩,y]
   unfold cV;rw[z];rfl
  have e:=rK (c:=[]) (A:=fM (lK) (Y 0) (az (Ð " "))) N.str (λq=>N.str (Uk q Ŝ)) m (by omega) λq t=>by show lK q [.str " "]=_;show(if q.length<=100000 then _ else U)=_;rw[if_pos (by have:=hl q t;omega)];rfl
  rw[e,<-ht,SJ];rfl
 let f:N:=.lst ((Ă j δ::h).map N.str);let T3:N:=.tup [.str j,.str "=",.str δ];have H:fM (oF) (I Ì (Y 1) (X 0)) (az (Ð "=")) [Z (.str b),Z f,U,U,U,U]=Z (.ok T3):=e2;have c1:(ÿ (fB (I ß (I Ì (Y 2) (X 1)) (Ð ""))) (ÿ (bX (fB (ab aN 1 (az (I Ì (Y 2) (X 0)))))) (bX (fB (ab bM 1 (az (I Ì (Y 2) (X 2)))))))) (ER b f T3 U U)=Z (.ok D):=by
  have B:ab aN 1 (az (I Ì (Y 2) (X 0))) (ER b f T3 U U)=bo L:=d5 aN rfl e3;have A:ab bM 1 (az (I Ì (Y 2) (X 2))) (ER b f T3 U U)=bo L:=d5 bM rfl e4;have E:fB (I ß (I Ì (Y 2) (X 1)) (Ð "")) (ER b f T3 U U)=Z (.ok D):=by lk
  unfold ÿ;rw[E];show(ÿ (bX (fB (ab aN 1 (az (I Ì (Y 2) (X 0)))))) (bX (fB (ab bM 1 (az (I Ì (Y 2) (X 2))))))) (ER b f T3 U U)=_;unfold ÿ bX;rw[bd B,bd A];rfl
 have i:cV (wQ (Y 1) (cY (X 1)) fL) (ER b f T3 U U)=Z (.ok (h.map N.str)):=by
  have z:wQ (Y 1) (cY (X 1)) fL (ER b f T3 U U)=Z (.ok (.lst (h.map N.str))):=by show Z (Rs.ok (N.lst (xR ((Ă j δ::h).map N.str) (Z 1) U)))=_;congr 3;show(((Ă j δ::h).map N.str).drop (min 1 ((Ă j δ::h).map N.str).length)).take (((Ă j δ::h).map N.str).length-min 1 ((Ă j δ::h).map N.str).length)=_;rw[Nat.min_eq_left (by simp)];rw[K_,List.drop_succ_cons,XG,Vy (by simp)]
  unfold cV;rw[z];rfl
 have o:Gj 4 [4,5] (cV (wQ (Y 1) (cY (X 1)) fL)) bp (ER b f T3 U U) (ŏ j δ)=Z (.nx (ER b f T3 U U) (h.foldl put (ŏ j δ))):=by unfold Gj;rw[i];show(if Þ (h.map N.str)=L then _ else U)=_;rw[if_pos (rR h)];exact Aq h (ŏ j δ) U U hp rfl
 refine mE ?_;show et [Z (.str b),U,U,U,U,U]=_;unfold et;rw[au (dR (show bX (fB (f1 (i7 qi) (Y 0))) [Z (.str b),U,U,U,U,U]=Z (.ok D)from rfl))];rw[au (bG (a:=[Z (.str b),Z f,U,U,U,U]) P rfl)];rw[au (bG (a:=ER b f T3 U U) H rfl)];rw[au (dR c1)];unfold Eh;rw[show(aO (I Ì (Y 2) (X 0)) (aO (I Ì (Y 2) (X 2)) (v3 (fC .non) (fC .non) (fC .non) (fC .non) (fC (.bl D)) (Ð "any")))) (ER b f T3 U U)=Z (.ok (ŏ j δ))from rfl];show(match(oH (Gj 4 [4,5] (cV (wQ (Y 1) (cY (X 1)) fL)) bp) (Gf 3 (â hJ (az (Y 3))))) (ER b f T3 U U) (ŏ j δ)with|some (.nx s w)=>Z (Fl.nx (s.set 3 (Z (.lst w))))|some (.rt d)=>Z (.rt d)|none=>U)=_;unfold oH;rw[o];rfl
def iN(a b:Str):(a++b).cps.toList=a.cps.toList++b.cps.toList:=Array.toList_append
def mY(b a:Str):Str->Str->List Str->List Str|pre,x,[]=>[pre++x++ē]|pre,x,y::l=>(pre++x++b)::mY b a a y l
def vq(b a:Str):∀(l:List Str)(pre x:Str),∃q r,mY b a pre x l=q::r|[],_,_=>⟨_,_,rfl⟩|_::_,_,_=>⟨_,_,rfl⟩
def JS:List Str->List Nat|[]=>[]|q::r=>J [59] q.cps.toList (r.map λs=>s.cps.toList)
def Ar(a x y:Str)(l:List Str):Vl a (x::y::l)=x++a++Vl a (y::l):=by show ZU a (x::y::l)=x++a++ZU a (y::l);rw[YO,YO];rfl
def MT{c b a:Str}(f:c.cps.toList=b.cps.toList++59::a.cps.toList):∀(l:List Str)(pre x:Str),pre.cps.toList++(Vl c (x::l)).cps.toList=JS (mY b a pre x l)|[],pre,x=>by show pre.cps.toList++x.cps.toList=(pre++x++ē).cps.toList;rw[iN,iN];show _=_++[];simp|y::l,pre,x=>by have d:=MT f l a y;obtain⟨q,r,e⟩:=vq b a l a y;rw[Ar,iN,iN,f];show _=JS ((pre++x++b)::mY b a a y l);rw[e]at d⊢;show _=(pre++x++b).cps.toList++([59]++J [59] q.cps.toList (r.map λs=>s.cps.toList));rw[show J [59] q.cps.toList (r.map λs=>s.cps.toList)=JS (q::r)from rfl,<-d,iN,iN];simp
def Œ(b a p:Str):Bool:=gI ē p b&&(gI ē p ē&&(gI a p b&&gI a p ē))
def mH(h:gI b j δ=L):Uk (b++j++δ) Ŝ=j/\59∉(b++j++δ).cps.toList:=by unfold gI at h;rw[pi]at h;exact⟨gX h.1,by simpa using h.2⟩
def As{b a:Str}:∀(l:List Str)(pre x:Str),(gI pre x b=L/\gI pre x ē=L)->(∀p∈l,Œ b a p=L)->(mY b a pre x l).map (λq=>Uk q Ŝ)=x::l/\∀q∈mY b a pre x l,59∉q.cps.toList
 |[],pre,x,e,_=>by obtain⟨g,f⟩:=mH e.2;exact⟨by show[Uk (pre++x++ē) Ŝ]=[x];rw[g],λq c=>by rw[Sf.mp c];exact f⟩|y::l,pre,x,e,h=>by
  obtain⟨g,f⟩:=mH e.1;have d:=h y o_;unfold Œ at d;simp only[pi]at d;obtain⟨k,j⟩:=As l a y ⟨d.2.2.1,d.2.2.2⟩ λp i=>h p (m_ _ i);refine⟨by show Uk (pre++x++b) Ŝ::(mY b a a y l).map _=_;rw[g,k],λq c=>?_⟩;rcases w_.mp c with rfl|c;·exact f
  ·exact j q c
def vt{c a:Str}(h:c.length<=2)(f:a.length<=2):∀(l:List Str)(pre x:Str),pre.length<=2->x.length<=200->(∀p∈l,p.length<=200)->(mY c a pre x l).length=l.length+1/\∀q∈mY c a pre x l,q.length<=300
 |[],pre,x,d,g,_=>⟨rfl,λq b=>by
  rw[Sf.mp b,fP,fP];have:ē.length=0:=by decide
  omega⟩|y::l,pre,x,d,g,e=>by
  obtain⟨j,i⟩:=vt h f l a y f (e y o_) λp d=>e p (m_ _ d);refine⟨by show(mY c a a y l).length+1=_;rw[j];rfl,λq b=>?_⟩;rcases w_.mp b with rfl|b;·rw[fP,fP];omega
  ·exact i q b
def vv(a:Str)(c:a.length<=10):∀(l:List Str)(x:Str),(∀p∈l,p.length<=200)->(l.foldl (λt y=>t++a++y) x).length<=x.length+l.length*210|[],x,_=>by simp|y::l,x,h=>by have b:=vv a c l (x++a++y) λp d=>h p (m_ _ d);have e:=h y o_;rw[fP,fP]at b;show(l.foldl _ (x++a++y)).length<=_;rw[SD];omega
def mI{a w:Str}(A:b.cps.toList=j.cps.toList++59::δ.cps.toList)(f:b.length<=10)(P:j.length<=2)(H:δ.length<=2)(h:a∈ĵ)(y:w∈Ķ)(c:Œ j δ (Ă a w)=L)(i:(Ă a w).length<=200)(E:∀p∈v,Œ j δ p=L)(n:∀p∈v,p.length<=200)(hn:v.length<=50)(B:∀p∈v,ŝ p=L):aP [.str (Vl b (Ă a w::v))]=Z (.ok (.tup (v.foldl put (ŏ a w)))):=by
 obtain⟨q,r,e⟩:=vq j δ v ē (Ă a w);unfold Œ at c;simp only[pi]at c;obtain⟨t,o⟩:=As (b:=j) (a:=δ) v ē (Ă a w) ⟨c.1,c.2.1⟩ E;obtain⟨m,k⟩:=vt P H v ē (Ă a w) (by decide) i n;have d:=MT A v ē (Ă a w);rw[e]at d t o m k;have u:(Vl b (Ă a w::v)).cps.toList=J (b_ ";").cps.toList q.cps.toList (r.map λs=>s.cps.toList):=by
  have z:ē.cps.toList=[]:=by lk
  rw[z]at d;exact d
 refine Ia (v:=q::r) ?_ h y (tN (c:=59) (g:=[]) (by lk) (by lk) o u) (by rw[m];omega) t (λs g=>by have:=k s g;omega) B;rw[mG];have:=vv b f v (Ă a w) n;omega
structure Gw(nm w:Str)(h p:Option Str)(u l:Option Int)(S:Bool)(R:Str):Prop where
 nm:nm∈ĵ
 w:w∈Ķ
 h:∀x,h=Z x->x∈En
 p:∀x,p=Z x->x∈î
 u:∀i,u=Z i->0<=i/\i<60l:∀i,l=Z i->0<=i/\i<30r:R=b_ "any"\/R=b_ "near"
def PY(g:Gv b j n ξ Α Λ t δ):∃h p i k,Gw b j h p i k t δ/\ą b j n ξ Α Λ t δ=gv b j h p i k t δ:=by
 have v:∃h,n=eS h/\∀x,h=Z x->x∈En:=by
  rcases g.hh with rfl|⟨a,c,rfl⟩;·exact⟨U,rfl,λx e=>by cases e⟩
  ·exact⟨Z a,rfl,λx e=>by cases e;exact c⟩
 have u:∃h,ξ=eS h/\∀x,h=Z x->x∈î:=by
  rcases g.pp with rfl|⟨a,c,rfl⟩;·exact⟨U,rfl,λx e=>by cases e⟩
  ·exact⟨Z a,rfl,λx e=>by cases e;exact c⟩
 have s:∃h,Α=eO h/\∀x,h=Z x->0<=x/\x<60:=by
  rcases g.u with rfl|⟨a,f,d,rfl⟩;·exact⟨U,rfl,λx e=>by cases e⟩
  ·exact⟨Z a,rfl,λx e=>by cases e;exact⟨f,d⟩⟩
 have a4:∃h,Λ=eO h/\∀x,h=Z x->0<=x/\x<30:=by
  rcases g.l with rfl|⟨a,f,d,rfl⟩;·exact⟨U,rfl,λx e=>by cases e⟩
  ·exact⟨Z a,rfl,λx e=>by cases e;exact⟨f,d⟩⟩
 obtain⟨h,rfl,r⟩:=v;obtain⟨p,rfl,q⟩:=u;obtain⟨Α,rfl,o⟩:=s;obtain⟨Λ,rfl,m⟩:=a4;exact⟨h,p,Α,Λ,⟨g.nm,g.w,r,q,o,m,g.r⟩,rfl⟩
def len_all:(ĵ.all λx=>uk (x.length<=50))=L/\(Ķ.all λx=>uk (x.length<=50))=L/\(En.all λx=>uk (x.length<=50))=L/\(î.all λx=>uk (x.length<=50))=L:=⟨by lk,by lk,by lk,by lk⟩
def Au:(ĵ.all λx=>Sl (.str x))=L/\(Ķ.all λx=>Sl (.str x))=L/\(En.all λx=>Sl (.str x))=L/\(î.all λx=>Sl (.str x))=L:=⟨by lk,by lk,by lk,by lk⟩
def PZ{p:Option Str}(g:Gw b j Ξ p Β Κ t δ):Vv b j Ξ p Β Κ δ:=⟨by simpa using aR (p:=λx:Str=>uk (x.length<=50)) len_all.1 g.nm,by simpa using aR (p:=λx:Str=>uk (x.length<=50)) len_all.2.1 g.w,λx e=>by simpa using aR (p:=λx:Str=>uk (x.length<=50)) len_all.2.2.1 (g.h x e),λx e=>by simpa using aR (p:=λx:Str=>uk (x.length<=50)) len_all.2.2.2 (g.p x e),λi e=>by have:=g.u i e;omega,λi e=>by have:=g.l i e;omega⟩
def P6(o:Option Int):Ğ 0 (eO o):=by cases o;exact Ms;exact vk
def MU(a b:Option Int):SI (di (eO a)) (di (eO b))=uk (a=b):=by cases a<;>cases b<;>simp[eO,di,SI];rw[SS];simp
def PL(h p:Option Str)(u l:Option Int)(S:Bool)(R:Str):List Str:=(oS "for " h).toList++((oS "under " p).toList++((oI "until " u).toList++((oI "lasts " l).toList++((oB "safe" S).toList++((oB "near" (ku R)).toList++[])))))
def MV{p:Option Str}:Vl (b_ "; ") (Ă b j::PL Ξ p Β Κ t δ)=T b j Ξ p Β Κ t δ:=by rw[mG];unfold PL;rw[iY,iY,iY,iY,iY,iY];rfl
def lh(b:0<=i)(a:i<c):i∈rQ c:=by unfold rQ;exact R7.mpr ⟨i.toNat,SH.mpr (by omega),by omega⟩
def MW{p:Option Str}(g:Gw b j Ξ p Β Κ t δ):∀x∈PL Ξ p Β Κ t δ,x∈ş:=by
 intro x a;simp only[PL,Sr,Option.mem_toList,R6,or_false]at a;unfold ş;rcases a with e|e|e|e|e|e;·refine RX _ ?_;cases Ξ with|none=>cases e|some y=>cases e;exact R7.mpr ⟨y,g.h y rfl,rfl⟩
 ·refine q_ _ (RX _ ?_);cases p with|none=>cases e|some y=>cases e;exact R7.mpr ⟨y,g.p y rfl,rfl⟩
 ·refine q_ _ (q_ _ (RX _ ?_));cases Β with|none=>cases e|some y=>cases e;exact R7.mpr ⟨y,lh (g.u y rfl).1 (g.u y rfl).2,rfl⟩
 ·refine q_ _ (q_ _ (q_ _ (RX _ ?_)));cases Κ with|none=>cases e|some y=>cases e;exact R7.mpr ⟨y,lh (g.l y rfl).1 (g.l y rfl).2,rfl⟩
 · refine q_ _ (q_ _ (q_ _ (q_ _ (RX _ ?_))));unfold oB at e;split at e;·cases e;simp
   ·cases e
 · refine q_ _ (q_ _ (q_ _ (q_ _ (RX _ ?_))));unfold oB at e;split at e;·cases e;simp
   ·cases e
structure Ptk(x:Str):Prop where
 t:ŝ x=L
 q1:Œ ē Ŝ x=L
 q2:Œ ē ē x=L
 q3:Œ ť ť x=L
 l:x.length<=200n:59∉x.cps.toList
def MX(h:okS b=L):Œ ē Ŝ b=L/\Œ ē ē b=L/\Œ ť ť b=L/\b.length<=200/\59∉b.cps.toList:=by unfold okS at h;simp only[pi,decide_eq_true_eq]at h;obtain⟨a,c,i,g,f,e⟩:=h;unfold Œ;simp only[pi];refine⟨⟨a,a,c,c⟩,⟨a,a,a,a⟩,⟨g,a,i,f⟩,e,?_⟩;have:=(mH a).2;rw[iN,iN]at this;intro d;exact this (RX _ (q_ _ d))
def ů(a:b∈ş):Ptk b:=by have h:=aR HW a;unfold QX at h;rw[pi]at h;obtain⟨g,f,e,d,c⟩:=MX h.2;exact⟨h.1,g,f,e,d,c⟩
def Ib(c:b∈ĵ)(d:j∈Ķ):okS (Ă b j)=L:=by have a:=aR (p:=λj=>HZ b j) (aR (p:=λn=>Ķ.all λj=>HZ n j) vp c) d;unfold HZ at a;simp only[pi]at a;exact a.1.1
def Ic(d:b∈ĵ)(e:j∈Ķ)(c:∀x∈v,x∈ş)(f:v.length<=50):aP [.str (Vl (b_ "; ") (Ă b j::v))]=Z (.ok (.tup (v.foldl put (ŏ b j))))/\aP [.str (Vl (b_ ";") (Ă b j::v))]=Z (.ok (.tup (v.foldl put (ŏ b j))))/\aP [.str (Vl (b_ "  ;  ") (Ă b j::v))]=Z (.ok (.tup (v.foldl put (ŏ b j)))):=by obtain⟨f1,I,h,g,i⟩:=MX (Ib d e);exact⟨mI (j:=ē) (δ:=Ŝ) (by lk) (by decide) (by decide) (by decide) d e f1 g (λx a=>(ů (c x a)).q1) (λx a=>(ů (c x a)).l) f λx a=>(ů (c x a)).t,mI (j:=ē) (δ:=ē) (by lk) (by decide) (by decide) (by decide) d e I g (λx a=>(ů (c x a)).q2) (λx a=>(ů (c x a)).l) f λx a=>(ů (c x a)).t,mI (j:=ť) (δ:=ť) (by lk) (by decide) (by decide) (by decide) d e h g (λx a=>(ů (c x a)).q3) (λx a=>(ů (c x a)).l) f λx a=>(ů (c x a)).t⟩
def MY{p:Option Str}:(PL Ξ p Β Κ t b).length<=6:=by have f1:=nS (oS "for " Ξ);have a:=nS (oS "under " p);have f:=nS (oI "until " Β);have e:=nS (oI "lasts " Κ);have d:=nS (oB "safe" t);have c:=nS (oB "near" (ku b));simp[PL];omega
def gs(o:Option Str)(c:N):N:=match o with|none=>c|some x=>.str x
def gi(o:Option Int)(c:N):N:=match o with|none=>c|some x=>.int x
def gb(o:Bool)(c d:N):N:=if o then d else c
def RO(j:∀x,Ξ=Z x->x∈En)(h:List Str)(a b c d e f g i:N):((oS "for " Ξ).toList++h).foldl put [a,b,c,d,e,f,g,i]=h.foldl put [a,b,gs Ξ c,d,e,f,g,i]:=by cases Ξ with|none=>rfl|some x=>show h.foldl put (put _ (b_ "for "++x))=_;unfold put;rw[PR (j x rfl)];rfl
def RP(j:∀x,Ξ=Z x->x∈î)(h:List Str)(a b c d e f g i:N):((oS "under " Ξ).toList++h).foldl put [a,b,c,d,e,f,g,i]=h.foldl put [a,b,c,gs Ξ d,e,f,g,i]:=by cases Ξ with|none=>rfl|some x=>show h.foldl put (put _ (b_ "under "++x))=_;unfold put;rw[PU (j x rfl)];rfl
def RQ(j:∀x,Β=Z x->0<=x/\x<60)(h:List Str)(a b c d e f g i:N):((oI "until " Β).toList++h).foldl put [a,b,c,d,e,f,g,i]=h.foldl put [a,b,c,d,gi Β e,f,g,i]:=by cases Β with|none=>rfl|some x=>show h.foldl put (put _ (b_ "until "++is x))=_;unfold put;rw[PV (lh (j x rfl).1 (j x rfl).2)];rfl
def RS(j:∀x,Β=Z x->0<=x/\x<30)(h:List Str)(a b c d e f g i:N):((oI "lasts " Β).toList++h).foldl put [a,b,c,d,e,f,g,i]=h.foldl put [a,b,c,d,e,gi Β f,g,i]:=by cases Β with|none=>rfl|some x=>show h.foldl put (put _ (b_ "lasts "++is x))=_;unfold put;rw[PX (lh (j x rfl).1 (j x rfl).2)];rfl
def RT(h:List Str)(a b c d e f g i:N):((oB "safe" t).toList++h).foldl put [a,b,c,d,e,f,g,i]=h.foldl put [a,b,c,d,e,f,gb t g (.bl L),i]:=by cases t with|false=>rfl|true=>show h.foldl put (put _ (b_ "safe"))=_;unfold put;rw[MR];rfl
def RU(k:Bool)(h:List Str)(a b c d e f g i:N):((oB "near" k).toList++h).foldl put [a,b,c,d,e,f,g,i]=h.foldl put [a,b,c,d,e,f,g,gb k i (.str "near")]:=by cases k with|false=>rfl|true=>show h.foldl put (put _ (b_ "near"))=_;unfold put;rw[MS];rfl
def MZ{p:Option Str}(g:Gw b j Ξ p Β Κ t δ)(a h c d e f k i:N):(PL Ξ p Β Κ t δ).foldl put [a,h,c,d,e,f,k,i]=[a,h,gs Ξ c,gs p d,gi Β e,gi Κ f,gb t k (.bl L),gb (ku δ) i (.str "near")]:=by unfold PL;rw[RO g.h,RP g.p,RQ g.u,RS g.l,RT,RU];rfl
def M0{p:Option Str}(g:Gw b j Ξ p Β Κ t δ):gb (ku δ) (.str "any") (.str "near")=.str δ:=by rcases g.r with e|e<;>rw[e]<;>rfl
def EG(o:Option Str):gs o .non=eS o:=by cases o<;>rfl
def EH(o:Option Int):gi o .non=eO o:=by cases o<;>rfl
def RV(S:Bool):gb S (.bl D) (.bl L)=.bl S:=by cases S<;>rfl
def P7{p:Option Str}(g:Gw b j Ξ p Β Κ t δ):N.tup ((PL Ξ p Β Κ t δ).foldl put (ŏ b j))=gv b j Ξ p Β Κ t δ:=by unfold ŏ;rw[MZ g,M0 g,EG,EG,EH,EH,RV]
def M1(i:Int):aC [.int i]=bo (uk (0<=i)&&uk (i<=9999)):=by
 have e:aE [.int i,.int 0,.int 9999]=bo (uk (0<=i)&&uk (i<=9999)):=by
  by_cases a:0<=i;·simp[aE,aQ,aS,aI,sq,aY,aJ,cf,Õ,ÿ,bX,fB,ñ,Y,f1,I,ij,i7,dH,oJ,ī,a]
  ·simp[aE,aQ,aS,aI,sq,aY,aJ,cf,Õ,ÿ,bX,fB,ñ,Y,f1,I,ij,i7,dH,oJ,ī,a]
 have b:bc [.int i]=bo (uk (0<=i)&&uk (i<=9999)):=by simp[bc,aQ,dL,aJ,cf,Õ,ab,aO,dZ,Y,fC,e]
 simp[aC,aQ,bh,aJ,cf,Õ,ñ,ab,aO,dZ,Y,fC,I,Ě,Ą,b]
def M3{p:Option Str}(g:Gw b j Ξ p Β Κ t δ):aP [.str (T b j Ξ p Β Κ t δ)]=Z (.ok (gv b j Ξ p Β Κ t δ)):=by have:=(Ic (b:=b) (j:=j) g.nm g.w (MW g) (RZ MY (by omega))).1;rw[MV,P7 g]at this;exact this
abbrev ntn(e w a:Str)(f:Bool)(c:Str)(d:N)(S:Bool)(R:Str)(b:Int):N:=.tup [.str e,.str w,.str a,.bl f,.str c,d,.bl S,.str R,.int b,.int b]
def Di(h:Ğ c n)(a:c<=64):č n n=Z (.ok (.bl D)):=HH (h.okP a) h.p
def EI(u l:N)(a:Int):N:=match l with|.int i=>.int (if 9999<a+i then 9999 else a+i)|_=>u
def M4(g:Gv b j n ξ Α Λ t δ):iE [ą b j n ξ Α Λ t δ,.int i]=Z (.ok (EI Α Λ i)):=by
 rcases g.l with rfl|⟨a,i0,c,rfl⟩;·simp[iE,aQ,iD,aI,sq,aY,aJ,cf,Õ,fB,ñ,Y,fC,I,Ì,ó,Ą,EI]
 ·simp[iE,aQ,iD,aI,sq,aY,aJ,cf,Õ,fB,ñ,aO,dZ,Y,fC,I,Ì,ó,â,Ą,cH,NK,EI]
def M5(g:Gv b j n ξ Α Λ t δ)(c:0<=i):Mo (EI Α Λ i):=by
 rcases g.l with rfl|⟨a,i0,d,rfl⟩;·exact g.mu
 ·refine .inr ⟨_,?_,?_,rfl⟩<;>split<;>omega
def EJ{h p:Str}{O:N}{c d:Str}{e:Bool}(v:k∈gH Ü)(a:Ak h p O)(g:Gv b j n ξ Α Λ t δ)(o:0<=i)(m:i<=9999)(W:Wt k h p O b j n ξ Α Λ t δ π c d e .non):fD [.tup k,à π h p O,ą b j n ξ Α Λ t δ,.int i]=Z (.ok (ntn b j c e d (EI Α Λ i) t δ i)):=by have A:=IZ (fK v);have z:=NW (HM (t:=π) a);have y:=QU (Al g);have w:=Db (rN o m);have f:=W.why;have u:=W.hf;have s:=W.ix;have r:=W.pf;have q:=M4 (i:=i) g;simp[fD,aQ,uV,aI,sq,aY,aJ,cG,cf,Õ,fB,ñ,ab,ab,aO,dZ,Y,fC,I,Ì,ó,jC,kP,A,z,y,w,f,u,s,r,q]
namespace J
def nV{b:ë}(c:Ο ζ=Z (.ok t))(a:b ζ=Z (.ok π)):ÿ Ο b ζ=Z (.ok (t||π)):=by
 unfold ÿ;rw[c];cases t;·exact a
 ·rfl
def M1(i:Int):bc [.int i]=bo (uk (0<=i)&&uk (i<=9999)):=by
 have e:aE [.int i,.int 0,.int 9999]=bo (uk (0<=i)&&uk (i<=9999)):=by
  by_cases a:0<=i;·simp[aE,aQ,aS,aI,sq,aY,aJ,cf,Õ,ÿ,bX,fB,ñ,Y,f1,I,ij,i7,dH,oJ,ī,a]
  ·simp[aE,aQ,aS,aI,sq,aY,aJ,cf,Õ,ÿ,bX,fB,ñ,Y,f1,I,ij,i7,dH,oJ,ī,a]
 simp[bc,aQ,dL,aJ,cf,Õ,ab,aO,dZ,Y,fC,e]
def rN(b:0<=i)(a:i<=9999):bc [.int i]=bo L:=by rw[M1];simp[b,a]
def pI(h:b=b_ "any"\/b=b_ "near"):dO [.str b]=bo L/\∃r,ß (.str b) (.str "any")=bo r/\ß (.str b) (.str "near")=bo (!r):=by
 rcases h with rfl|rfl;·exact⟨by lk,L,by lk,by lk⟩
 ·exact⟨by lk,D,by lk,by lk⟩
structure ax where
 nm:Str
 w:Str
 house:Str
 ex:Bool
 path:Str
 ends:Option Int
 S:Bool
 R:Str
 md:Int
 us:Int
deriving DecidableEq
def Ó(n:ax):N:=.tup [.str n.nm,.str n.w,.str n.house,.bl n.ex,.str n.path,eO n.ends,.bl n.S,.str n.R,.int n.md,.int n.us]
def ek(n:ax):N:=.tup [.str n.nm,.str n.house,.str n.path]
def key(n:ax):List Str:=[n.nm,n.house,n.path]
structure Û(n:ax):Prop where
 nm:n.nm∈ĵ
 w:n.w∈Ķ
 house:n.house∈En
 path:n.path∈î
 R:n.R=b_ "any"\/n.R=b_ "near"ends:∀i,n.ends=Z i->0<=i/\i<=9999mk0:0<=n.md
 mu:n.md<=n.us
 us:n.us<=200
variable{ε:ax}
def P8(g:Û ε):Mo (eO ε.ends):=by cases h:ε.ends with|none=>exact .inl rfl|some i=>exact .inr ⟨i,(g.ends i h).1,by have:=(g.ends i h).2;omega,rfl⟩
def M6(g:Û ε):fj [Ó ε]=bo L:=by
 have a:bH [Ó ε,.int 10]=bo L:=by lk
 have d:=rN g.mk0 (by have:=g.mu;have:=g.us;omega);have c:=rN (Z6 g.mk0 g.mu) (by have:=g.us;omega);have b:aC [eO ε.ends]=bo L:=Ah (P8 g);unfold Ó at a⊢;simp[fj,aQ,jQ,aI,sq,aY,aJ,cf,Õ,ÿ,bX,fB,ñ,ab,aO,dZ,Y,fC,f1,I,Ì,ó,ib,â,i7,dH,a,d,c,QR g.nm,QS g.w,HL g.house,NV g.path,b,(pI g.R).1,mO,i5,ī,g.mu]
def ü:List Str:=ĵ++(Ķ++(En++(î++[b_ "any",b_ "near"])))
def Au:(ü.all λx=>Sl (.str x))=L:=by lk
def rS(h:b∈ü):Sl (.str b)=L:=aR (p:=λb=>Sl (.str b)) Au h
def sRx(g:Û ε):ε.R∈ü:=by unfold ü;rcases g.R with h|h<;>rw[h]<;>simp
def rT(g:Û ε):Ğ 1 (Ó ε):=by
 refine Ad (c:=0) λd a=>?_;simp only[w_,R6,or_false]at a;rcases a with rfl|rfl|rfl|rfl|rfl|rfl|rfl|rfl|rfl|rfl;·exact jZ (rS (by simp[ü,g.nm]))
 ·exact jZ (rS (by simp[ü,g.w]))
 ·exact jZ (rS (by simp[ü,g.house]))
 ·exact Mr
 ·exact jZ (rS (by simp[ü,g.path]))
 ·exact P6 _
 ·exact Mr
 ·exact jZ (rS (sRx g))
 ·exact vk
 ·exact vk
def M7(g:Û ε):Ğ 1 (ek ε):=by
 refine Ad (c:=0) λd a=>?_;simp only[w_,R6,or_false]at a;rcases a with rfl|rfl|rfl;·exact jZ (rS (by simp[ü,g.nm]))
 ·exact jZ (rS (by simp[ü,g.house]))
 ·exact jZ (rS (by simp[ü,g.path]))
def M8(a b:ax):SI (di (ek a)) (di (ek b))=uk (key a=key b):=by rw[SS];simp[ek,key,di,ç,SI,UF]
def Ie(a b:ax):SI (di (Ó a)) (di (Ó b))=uk (a=b):=by rw[SS];have e:=MU a.ends b.ends;cases a;cases b;simp[Ó,di,ç,SI,UF,e]
def M9{b:ax}(g:Û ε)(f:Û b):ß (ek ε) (ek b)=bo (uk (key ε=key b))/\č (ek ε) (ek b)=bo (!uk (key ε=key b)):=by
 have d:=(M7 g).okP (by omega);have c:=(M7 f).okP (by omega);have a:=M8 ε b;have e:Ŀ (ek ε) (ek b)=U:=rfl;constructor;·unfold ß;rw[e,d,c,a];rfl
 ·unfold č;rw[e,d,c,a];rfl
def ã(n:ax)(a:Int):Bool:=match n.ends with|none=>D|some i=>uk (i<=a)
def ej(a:List ax):N:=.tup (a.map Ó)
structure ķ(js:List ax):Prop where
 g:∀n∈js,Û n
 s:∀i(h:i+1<js.length),js[i].md<=js[i+1].md
 k:(js.map key).Nodup
 l:js.length<=20
def Na{o:Option (Rs z)}{k:z->Option (Rs Χ)}(h:o=Z (.ok É)):Õ o k=k É:=by rw[h];rfl
def Av:∀(n:Nat)(lo:Int),rng lo n=(rl n).map λi:Nat=>N.int (lo+(i:Int))
 |0,lo=>rfl|n+1,lo=>by
  rw[WD];show N.int lo::rng (lo+1) n=_;rw[Av n (lo+1)];simp only[K_,SJ];congr 1;·simp
  ·congr 1;funext i;simp only[Zx];congr 1;omega
variable{h:List ax}
def fW(a:ζ[c]?=Z (Z (ej h))):cV (Y c) ζ=Z (.ok (h.map Ó)):=by unfold cV Y;rw[a];rfl
def Ig(b:∀o∈h,Û o):Ğ 2 (.lst (h.map Ó)):=EA λd c=>by obtain⟨x,a,rfl⟩:=R7.mp c;exact rT (b x a)
def Dj(b:∀o∈h,Û o):Ğ 2 (ej h):=Ad λd c=>by obtain⟨x,a,rfl⟩:=R7.mp c;exact rT (b x a)
def nil_eq(b:∀o∈h,Û o):ß (.lst (h.map Ó)) (.lst [])=bo h.isEmpty:=by cases h with|nil=>lk|cons o rest=>
 have i2:=(Ig b).okP (by omega);have a:okP (.lst [])=L:=by lk
 unfold ß;rw[show Ŀ (.lst ((o::rest).map Ó)) (.lst [])=U from rfl,i2,a];simp[di,ç,SI,UF]
def rV(n:ax):eJ [Ó n]=Z (.ok (ek n)):=by simp[eJ,aQ,C5,aJ,cf,Õ,aO,dZ,Y,fC,I,Ì,ó,jC,Ó,ek]
def rW:∀a:List ax,keysOf (a.map ek)=Z (a.map key)|[]=>rfl|n::a=>by show(match cD [.str n.nm,.str n.house,.str n.path],keysOf (a.map ek)with|some k,Z b=>Z (k::b)|_,_=>U)=_;rw[rW a];rfl
def Dk(J:ķ h):cw [ej h]=bo L:=by
 have e:=J.l;have c:bP 1 [] (cV (Y 0)) (gN 0) U (ab eJ 1 (az (Y 0))) [Z (ej h),U]=Z (.ok (.lst (h.map ek))):=rK Ó ek (fW rfl) (by omega) λn d=>d5 eJ rfl (rV n);have b:lL [.lst (h.map ek)]=Z (.ok (.int (h.length:Int))):=by show(match keysOf (h.map ek)with|some a=>if a.Nodup/\a.length<=20 then(Z (.ok (.int (a.length:Nat))):Option (Rs N))else U|none=>U)=_;rw[rW];dsimp only;rw[if_pos ⟨J.k,by simp;omega⟩,E_]
 refine dI ?_;show bU [Z (ej h),U]=_;unfold bU;rw[au (bG (a:=[Z (ej h),Z (.lst (h.map ek))]) c rfl)];refine bZ ((bg ((ci (ac (n:=.lst (h.map ek)) rfl aw)).trans b) (ξ:=.int h.length) (by show Z (Rs.ok (N.int ((h.map ek).length:Int)))=_;rw[E_])).trans ?_);show Z (Rs.ok (N.bl ((h.length:Int)==(h.length:Int))))=_;simp
def all_map(p:z->Bool)(l:List z):mO [.lst (l.map λa=>N.bl (p a))]=bo (l.all p):=by unfold mO;dsimp only;rw[mD p l];dsimp only;rw[List.all_map];rfl
def vx(l:List z):mO [.lst (l.map λ_=>N.bl L)]=bo L:=by rw[all_map (λ_=>L) l];simp
def Nb(a:c<h.length):Ì (ej h) (.int c)=Z (.ok (Ó h[c])):=by show(match ó (h.map Ó) (c:Int)with|some d=>_|none=>_)=_;unfold ó;rw[if_pos (by omega)];simp[a]
def Nc(n:ax):Ì (Ó n) (.int 8)=Z (.ok (.int n.md)):=rfl
def Nd(a:List ax)(c:a.length<=20):(λb=>Õ ((bt (X 1) (â gZ (az (Y 0)))) b) Be) [Z (ej a)]=Z (.ok ((rl (a.length-1)).map λi:Nat=>N.int (1+(i:Int)))):=by
 have h:(bt (X 1) (â gZ (az (Y 0)))) [Z (ej a)]=Z (.ok [.int 1,.int a.length]):=by simp[Õ,aO,dZ,â,fC,Y,ej,gZ]
 refine(Na (k:=Be) h).trans ?_;rw[Mq (by omega),Av,show((a.length:Int)-1).toNat=a.length-1 by omega]
def QY:Ò:=(I ī (I Ì (I Ì (Y 1) (I xM (Y 0) (X 1))) (X 8)) (I Ì (I Ì (Y 1) (Y 0)) (X 8)))
def Ih(J:ķ h){i:Nat}(a:i+1<h.length):QY [Z (.int (1+(i:Int))),Z (ej h)]=Z (.ok (.bl L)):=by
 have b:=J.s i a;have e:I Ì (Y 1) (I xM (Y 0) (X 1)) [Z (.int (1+(i:Int))),Z (ej h)]=Z (.ok (Ó h[i])):=by have q:=Nb (h:=h) (c:=i) (by omega);rw[show(i:Int)=1+(i:Int)-1 by omega]at q;exact q
 have d:I Ì (Y 1) (Y 0) [Z (.int (1+(i:Int))),Z (ej h)]=Z (.ok (Ó h[i+1])):=by have q:=Nb (h:=h) (c:=i+1) a;rw[show((i+1:Nat):Int)=1+(i:Int)by omega]at q;exact q
 have c:ī (.int h[i].md) (.int h[i+1].md)=Z (.ok (.bl L)):=by simp[ī,b]
 exact(bg ((bg e rfl).trans (Nc _)) ((bg d rfl).trans (Nc _))).trans c
def P9(J:ķ h):bY [("notes",0)] (λa=>Õ ((bt (X 1) (â gZ (az (Y 0)))) a) Be) U QY [Z (ej h)]=Z (.ok (.lst ((rl (h.length-1)).map λ_=>N.bl L))):=eV (λi:Nat=>N.int (1+(i:Int))) (λ_=>N.bl L) (Nd h J.l) (by have:=J.l;rw[U7];omega) λi b=>Ih J (by have:=SH.mp b;omega)
def Ii(J:ķ h):fT [ej h]=bo L:=dI (n:=.bl L) (bZ ((ci (ac (P9 J) aw)).trans (vx _)))
def t_a(J:ķ h):bY [] (cV (Y 0)) U (ab fj 1 (az (Y 0))) [Z (ej h)]=Z (.ok (.lst (h.map λ_=>N.bl L))):=eV Ó (λ_=>N.bl L) (fW rfl) (by have:=J.l;omega) λn a=>d5 fj rfl (M6 (J.g n a))
def t_b(J:ķ h):(ÿ (bX (fB (f1 (i7 sy) (Y 0)))) (fB (I ű (â gZ (az (Y 0))) (X 20)))) [Z (ej h)]=Z (.ok D):=by
 have a:¬(20<(h.length:Int)):=by have:=J.l;omega
 simp[ÿ,bX,fB,f1,I,i7,sy,Y,Õ,ñ,â,aO,dZ,fC,ej,gZ,OE,a]
def t_c(J:ķ h):â mO (az (bY [] (cV (Y 0)) U (ab fj 1 (az (Y 0))))) [Z (ej h)]=bo L:=(ci (ac (t_a J) aw)).trans (vx h)
def t_d(J:ķ h):jR [Z (ej h)]=Z (.rt (.bl L)):=by unfold jR;rw[au (dR (t_b J))];rw[au (dR (j8 (t:=L) (bd (t_c J))))];refine bZ ?_;rw[KN (d5 fT rfl (Ii J))];exact d5 cw rfl (Dk J)
def tQ(J:ķ h):gT [ej h]=bo L:=dI (n:=.bl L) (t_d J)
abbrev zz1:á:=(vZ (Y 0) (Y 1) (Y 2) (Y 3) (Y 4))
abbrev zz2:á:=(iZ (Y 0) (Y 2) (Y 3) (Y 4))
def lm(n:ax)(k:Int):aW [Ó n,.int k]=bo (ã n k):=by cases h:n.ends<;>simp[aW,aQ,gW,sq,aJ,Ox,cf,Õ,ñ,Y,fC,I,Ì,ó,ij,kP,Ó,eO,ã,h,ī]
def Ij:(î.all λp=>î.all λq=>Ÿ (aZ [.str p,.str q]))=L:=by lk
def Qa(h:b∈î)(a:j∈î):∃k,aZ [.str b,.str j]=bo k:=ED (aR (p:=λj=>Ÿ (aZ [.str b,.str j])) (aR (p:=λb=>î.all λj=>Ÿ (aZ [.str b,.str j])) Ij h) a)
def ŀ(p q:Str):Bool:=Ĺ (aB [.str p,.str q])
def P'(p q:Str):Bool:=Ĺ (aZ [.str p,.str q])
def Dl(h:b∈En)(a:j∈En):aB [.str b,.str j]=bo (ŀ b j):=by obtain⟨k,e⟩:=QT h a;unfold ŀ;rw[e];cases k<;>rfl
def Nf(h:b∈î)(a:j∈î):aZ [.str b,.str j]=bo (P' b j):=by obtain⟨k,e⟩:=Qa h a;unfold P';rw[e];cases k<;>rfl
def Ik(o N:ax)(a:Int):Bool:=o.S&&(!ã o a&&(seq o.nm N.nm&&((ŀ N.house o.house||ŀ o.house N.house)&&P' N.path o.path)))
def i0(n:ax):Ì (Ó n) (.int 0)=Z (.ok (.str n.nm)):=rfl
def i2(n:ax):Ì (Ó n) (.int 2)=Z (.ok (.str n.house)):=rfl
def i4(n:ax):Ì (Ó n) (.int 4)=Z (.ok (.str n.path)):=rfl
def i6(n:ax):Ì (Ó n) (.int 6)=Z (.ok (.bl n.S)):=rfl
def EK(a:Ο ζ=Z (.ok t)):aI (aY Ο (aJ (fC (.bl D))) í) Τ ζ=if t=L then Z (.rt (.bl D))else Τ ζ:=by unfold aI aY;rw[a];cases t<;>rfl
def Aw{b:ë}(c:Ο ζ=Z (.ok t))(a:b ζ=Z (.ok π)):kB Ο b ζ=Z (.ok (t&&π)):=by
 unfold kB;rw[c];cases t;·rfl
 ·exact a
def jh(a:Ο ζ=Z (.ok t)):bX Ο ζ=Z (.ok (!t)):=by unfold bX;rw[a];rfl
def wM{N:ax}(b:Û ε)(c:Û N)(a:Int):iH [Ó ε,Ó N,.int a]=bo (Ik ε N a):=by have e:=Dl c.house b.house;have d:=Dl b.house c.house;have f:=Nf c.path b.path;have h:(ÿ (bX (fB (I Ì (Y 0) (X 6)))) (ÿ (fB (ab aW 2 (bt (Y 0) (Y 2)))) (fB (I č (I Ì (Y 0) (X 0)) (I Ì (Y 1) (X 0)))))) [Z (Ó ε),Z (Ó N),Z (.int a)]=Z (.ok (!ε.S||(ã ε a||!seq ε.nm N.nm))):=nV (jh (bd (t:=ε.S) ((bg (n:=Ó ε) (ξ:=.int 6) rfl rfl).trans (i6 ε)))) (nV (bd (cg aW rfl rfl (lm ε a))) (bd ((bg (n:=.str ε.nm) (ξ:=.str N.nm) rfl rfl).trans rfl)));have g:(kB (bX (fB (ab aB 2 (bt (I Ì (Y 1) (X 2)) (I Ì (Y 0) (X 2)))))) (bX (fB (ab aB 2 (bt (I Ì (Y 0) (X 2)) (I Ì (Y 1) (X 2))))))) [Z (Ó ε),Z (Ó N),Z (.int a)]=Z (.ok (!ŀ N.house ε.house&&!ŀ ε.house N.house)):=Aw (jh (bd (cg aB rfl rfl e))) (jh (bd (cg aB rfl rfl d)));refine dI ?_;show iG [Z (Ó ε),Z (Ó N),Z (.int a)]=_;unfold iG;rw[EK h,EK g,HS (cg aZ rfl rfl f)];unfold Ik;cases ε.S<;>cases ã ε a<;>cases seq ε.nm N.nm<;>cases ŀ N.house ε.house<;>cases ŀ ε.house N.house<;>rfl
def Il(p:z->Bool)(l:List z):Lh [.lst (l.map λa=>N.bl (p a))]=bo (l.any p):=by show(match i5 (l.map λa=>N.bl (p a))with|some bs=>Z (Rs.ok (N.bl (bs.any id)))|none=>U)=_;rw[mD];simp
def wv(c:N)(s:Bool)(e:List ax)(a:ax)(b:Int):N:=match c with|.non=>if(!s&&e.any λo=>Ik o a b)=L then .str "shadowed"else if ã a b=L then .str "gone"else .str "kept"|d=>d
def EM(a:Ο ζ=Z (.ok t)):aI (aY Ο (aJ (fC n)) í) Τ ζ=if t=L then Z (.rt n)else Τ ζ:=by unfold aI aY;rw[a];cases t<;>rfl
def Ng{w:Str}{l:N}{R:Str}{a c:Str}{o:Bool}{d:N}(W:Wt k b j n δ w ξ Α Λ l t R π a c o d)(m:d≠.non):bO [.tup k,ej h,à π b j n,ą δ w ξ Α Λ l t R,.int i]=Z (.ok d):=by
 obtain⟨x,g⟩:∃x,d=.str x:=by
  rcases W.win with e|⟨x,_,e⟩;·exact absurd e m
  ·exact⟨_,e⟩
 subst g;refine mE ?_;show fE [Z (.tup k),Z (ej h),Z (à π b j n),Z (ą δ w ξ Α Λ l t R),Z (.int i),U,U]=_;unfold fE;have f:ab bI 3 (dP (Y 0) (Y 2) (Y 3)) [Z (.tup k),Z (ej h),Z (à π b j n),Z (ą δ w ξ Α Λ l t R),Z (.int i),U,U]=Z (.ok (.str x)):=cE bI (ac rfl (ac rfl (ac rfl aw))) rfl W.why;rw[au (bG f rfl)];simp only[Tc,Ta];rfl
def Nh{w:Str}{l:N}{R:Str}{d e:Str}{f:Bool}(u:k∈gH Ü)(a:Ak b j n)(g:Gv δ w ξ Α Λ l t R)(s:0<=i)(r:i<=9999)(W:Wt k b j n δ w ξ Α Λ l t R π d e f .non)(y:Ó ε=ntn δ w d f e (EI Λ l i) t R i)(A:Û ε)(z:∀c∈h,Û c)(H:h.length<=20):bO [.tup k,ej h,à π b j n,ą δ w ξ Α Λ l t R,.int i]=Z (.ok (wv .non π h ε i)):=by
 have m:=EJ u a g s r W;rw[<-y]at m;refine mE ?_;show fE [Z (.tup k),Z (ej h),Z (à π b j n),Z (ą δ w ξ Α Λ l t R),Z (.int i),U,U]=_;unfold fE;have q:ab bI 3 (dP (Y 0) (Y 2) (Y 3)) [Z (.tup k),Z (ej h),Z (à π b j n),Z (ą δ w ξ Α Λ l t R),Z (.int i),U,U]=Z (.ok .non):=cE bI (ac rfl (ac rfl (ac rfl aw))) rfl W.why;rw[au (bG q rfl)];simp only[Tc,Ta];rw[au (dR (show fB (I kP (Y 5) (fC .non)) [Z (.tup k),Z (ej h),Z (à π b j n),Z (ą δ w ξ Α Λ l t R),Z (.int i),Z .non,U]=Z (.ok D)from rfl))];have p:ab fD 4 (iZ (Y 0) (Y 2) (Y 3) (Y 4)) [Z (.tup k),Z (ej h),Z (à π b j n),Z (ą δ w ξ Α Λ l t R),Z (.int i),Z .non,U]=Z (.ok (Ó ε)):=cE fD (ac rfl (ac rfl (ac rfl (ac rfl aw)))) rfl m;rw[au (bG p rfl)];simp only[Tc,Ta];have E:(kB (bX (fB (I Ì (Y 2) (X 0)))) (fB (â Lh (az (bY [("now",4),("note",6)] (cV (Y 1)) U (ab iH 3 (dP (Y 0) (Y 2) (Y 1)))))))) [Z (.tup k),Z (ej h),Z (à π b j n),Z (ą δ w ξ Α Λ l t R),Z (.int i),Z .non,Z (Ó ε)]=Z (.ok (!π&&h.any λo=>Ik o ε i)):=by refine Aw (jh (bd (t:=π) rfl)) (bd ((ci (ac (n:=.lst (h.map λo=>N.bl (Ik o ε i))) ?_ aw)).trans (Il _ _)));exact eV Ó (λo=>N.bl (Ik o ε i)) (fW rfl) (by omega) λo v=>pH iH rfl rfl rfl (wM (z o v) A i)
 rw[EM E];have B:fB (ab aW 2 (bt (Y 6) (Y 4))) [Z (.tup k),Z (ej h),Z (à π b j n),Z (ą δ w ξ Α Λ l t R),Z (.int i),Z .non,Z (Ó ε)]=Z (.ok (ã ε i)):=bd (cg aW rfl rfl (lm ε i));rw[EM B];show _=Z (Fl.rt (if(!π&&h.any λo=>Ik o ε i)=L then .str "shadowed"else if ã ε i=L then .str "gone"else .str "kept"));split;·rfl
 ·split<;>rfl
def EN(a:List ax)(n:ax):List ax:=match a.filter (λo=>uk (key o=key n))with|[]=>a++[n]|o::_=>a.map λx=>if key x=key n then{n with md:=o.md}else x
def Ni(m:∀o∈h,Û o)(s:Û ε)(v:h.length<=20):C7 [ej h,Ó ε]=Z (.ok (ej (EN h ε))):=by have k:∀o∈h,∀(r:Ev),(fB (I ß (ab eJ 1 (az (Y 0))) (ab eJ 1 (az (Y 1))))) (Z (Ó o)::Z (Ó ε)::r)=Z (.ok (uk (key o=key ε))):=λo b r=>bd ((bg (d5 eJ rfl (rV o)) (d5 eJ rfl (rV ε))).trans (M9 (m o b) s).1);have f:=kr (c:=[("note",1)]) (μ:=cV (Y 0)) (Ο:=(fB (I ß (ab eJ 1 (az (Y 0))) (ab eJ 1 (az (Y 1)))))) (A:=Y 0) (ζ:=[Z (ej h),Z (Ó ε),U,U]) Ó (λo=>uk (key o=key ε)) Ó (fW rfl) (by omega) λo b=>⟨k o b [],rfl⟩;unfold EN;cases e:h.filter (λo=>uk (key o=key ε))with
 |nil=>
 rw[e]at f;refine dI (n:=ej (h++[ε])) ?_;show tH [Z (ej h),Z (Ó ε),U,U]=_;unfold tH;rw[au (bG f rfl)];simp only[Tc,Ta];refine oG ?_;rw[C0 (by lk)];refine bZ ?_;have j:h.length+1<=100000:=by omega
 simp[Õ,aO,dZ,Y,I,jC,ej,gJ,j]|cons o rest=>
 rw[e]at f;have b:o∈h:=(R_.mp (e▸o_:o∈h.filter _)).1;refine dI (n:=ej (h.map λx=>if key x=key ε then{ε with md:=o.md}else x)) ?_;show tH [Z (ej h),Z (Ó ε),U,U]=_;unfold tH;rw[au (bG f rfl)];simp only[Tc,Ta];have i:(fB (I ß (Y 2) (ib dZ))) [Z (ej h),Z (Ó ε),Z (.lst ((o::rest).map Ó)),U]=Z (.ok D):=by
  have p:Ğ 2 (.lst ((o::rest).map Ó)):=EA λd q=>by
   obtain⟨x,g,rfl⟩:=R7.mp q;have:x∈h.filter (λo=>uk (key o=key ε)):=by rw[e];exact g
   exact rT (m x (R_.mp this).1)
  have i2:=p.okP (by omega);have n:okP (.lst [])=L:=by lk
  have i4:ß (.lst ((o::rest).map Ó)) (.lst [])=bo D:=by unfold ß;rw[show Ŀ (.lst ((o::rest).map Ó)) (.lst [])=U from rfl,i2,n];simp[di,ç,SI,UF]
  exact bd i4
 rw[au (dR i)];have a:(I gJ (I gJ (i9 (Y 1) fL (cY (X 8))) (jC (az (I Ì (I Ì (Y 2) (X 0)) (X 8))))) (i9 (Y 1) (cY (I gJ (X 8) (X 1))) fL)) [Z (ej h),Z (Ó ε),Z (.lst ((o::rest).map Ó)),U]=Z (.ok (Ó {ε with md:=o.md})):=by lk
 rw[au (bG a rfl)];simp only[Tc,Ta];refine bZ ?_;have u:=eV (c:=[("note",1),("newer",3)]) (μ:=cV (Y 0)) (A:=(ĩ (fB (I ß (ab eJ 1 (az (Y 0))) (ab eJ 1 (az (Y 1))))) (Y 2) (Y 0))) (ζ:=[Z (ej h),Z (Ó ε),Z (.lst ((o::rest).map Ó)),Z (Ó {ε with md:=o.md})]) Ó (λx=>Ó (if key x=key ε then{ε with md:=o.md}else x)) (fW rfl) (by omega) λx g=>by
  have t:=k x g [Z (Ó {ε with md:=o.md})];by_cases c:key x=key ε;·rw[if_pos c];rw[decide_eq_true c]at t;exact(KO t).trans rfl
  ·rw[if_neg c];rw[decide_eq_false c]at t;exact(KP t).trans rfl
 rw[ci (ac u aw)];show Z (Rs.ok (N.tup _))=_;simp[ej]
def Ċ(b:List ax)(a:Int):List ax:=b.filter λn=>!ã n a
def nW(b:h.length<=20):bu [ej h,.int i]=Z (.ok (ej (Ċ h i))):=by refine dI ?_;show cA [Z (ej h),Z (.int i)]=_;unfold cA;refine bZ ?_;have e:(bY [("now",1)] (cV (Y 0)) (Z (bX (fB (ab aW 2 (bt (Y 0) (Y 1)))))) (Y 0)) [Z (ej h),Z (.int i)]=Z (.ok (.lst ((Ċ h i).map Ó))):=iM Ó _ Ó (fW rfl) (by omega) λn a=>⟨jh (bd (cg aW rfl rfl (lm n i))),rfl⟩;exact(ci (ac e aw)).trans rfl
def E8(T:N)(e:List ax)(A f:N)(a:Int)(d c b:Option N):Ev:=[Z T,Z (ej e),Z A,Z f,Z (.int a),d,c,b]
def pL(e:h.length<=20)(d:bO [n,ej h,ξ,Α,.int i]=Z (.ok Λ)){f:Ø}{r:Option Fl}(a:f (E8 n h ξ Α i (Z Λ) (Z (ej (Ċ h i))) U)=r):aI (bW 5 (ab bO 5 zz1)) (aI (bW 6 (ab bu 2 (bt (Y 1) (Y 4)))) f) (E8 n h ξ Α i U U U)=r:=by have c:bW 5 (ab bO 5 zz1) (E8 n h ξ Α i U U U)=Z (.nx (E8 n h ξ Α i (Z Λ) U U)):=bG (cE bO (ac rfl (ac rfl (ac rfl (ac rfl (ac rfl aw))))) rfl d) rfl;have b:bW 6 (ab bu 2 (bt (Y 1) (Y 4))) (E8 n h ξ Α i (Z Λ) U U)=Z (.nx (E8 n h ξ Α i (Z Λ) (Z (ej (Ċ h i))) U)):=bG (cg bu rfl rfl (nW e)) rfl;rw[au c,au b];exact a
def vy:(Ċ h i).length<=h.length:=SX _ _
def nX(b:h.length<=20)(a:bO [n,ej h,ξ,Α,.int i]=Z (.ok Λ))(c:ß Λ (.str "kept")=bo D)(d:ß Λ (.str "gone")=bo D):dz [n,ej h,ξ,Α,.int i]=Z (.ok (ej (Ċ h i))):=by refine mE ?_;show dw (E8 n h ξ Α i U U U)=_;unfold dw;refine pL b a ?_;have f:fB (I ß (Y 5) (Ð "kept")) (E8 n h ξ Α i (Z Λ) (Z (ej (Ċ h i))) U)=Z (.ok D):=bd ((bg (n:=Λ) (ξ:=.str "kept") rfl rfl).trans c);have e:fB (I ß (Y 5) (Ð "gone")) (E8 n h ξ Α i (Z Λ) (Z (ej (Ċ h i))) U)=Z (.ok D):=bd ((bg (n:=Λ) (ξ:=.str "gone") rfl rfl).trans d);rw[au (dR f),au (dR e)];rfl
def Ax(b:h.length<=20)(e:∀a∈h,Û a)(f:Û ε)(c:bO [n,ej h,ξ,Α,.int i]=Z (.ok (.str "kept")))(g:fD [n,ξ,Α,.int i]=Z (.ok (Ó ε))):dz [n,ej h,ξ,Α,.int i]=Z (.ok (ej (EN (Ċ h i) ε))):=by refine mE ?_;show dw (E8 n h ξ Α i U U U)=_;unfold dw;refine pL b c ?_;have j:fB (I ß (Y 5) (Ð "kept")) (E8 n h ξ Α i (Z (.str "kept")) (Z (ej (Ċ h i))) U)=Z (.ok L):=bd ((bg (n:=.str "kept") (ξ:=.str "kept") rfl rfl).trans (by lk));refine oG ?_;rw[C0 j];have v:ab fD 4 zz2 (E8 n h ξ Α i (Z (.str "kept")) (Z (ej (Ċ h i))) U)=Z (.ok (Ó ε)):=cE fD (ac rfl (ac rfl (ac rfl (ac rfl aw)))) rfl g;exact bZ (cg C7 rfl v (Ni (λo d=>e o (R_.mp d).1) f (RZ vy b)))
def Qb{o:ax}(a:Û o)(b:Û ε):č (ek o) (ek ε)=bo (!uk (key o=key ε)):=(M9 a b).2
def Ay(b:h.length<=20)(g:∀a∈h,Û a)(j:Û ε)(d:bO [n,ej h,ξ,Α,.int i]=Z (.ok (.str "gone")))(k:fD [n,ξ,Α,.int i]=Z (.ok (Ó ε))):dz [n,ej h,ξ,Α,.int i]=Z (.ok (ej ((Ċ h i).filter λo=>!uk (key o=key ε)))):=by have q:(Ċ h i).length<=20:=RZ vy b;refine mE ?_;show dw (E8 n h ξ Α i U U U)=_;unfold dw;refine pL b d ?_;have p:fB (I ß (Y 5) (Ð "kept")) (E8 n h ξ Α i (Z (.str "gone")) (Z (ej (Ċ h i))) U)=Z (.ok D):=bd ((bg (n:=.str "gone") (ξ:=.str "kept") rfl rfl).trans (by lk));have m:fB (I ß (Y 5) (Ð "gone")) (E8 n h ξ Α i (Z (.str "gone")) (Z (ej (Ċ h i))) U)=Z (.ok L):=bd ((bg (n:=.str "gone") (ξ:=.str "gone") rfl rfl).trans (by lk));rw[au (dR p)];refine oG ?_;rw[C0 m];have v:ab fD 4 zz2 (E8 n h ξ Α i (Z (.str "gone")) (Z (ej (Ċ h i))) U)=Z (.ok (Ó ε)):=cE fD (ac rfl (ac rfl (ac rfl (ac rfl aw)))) rfl k;have c:bW 7 (ab eJ 1 (az (ab fD 4 zz2))) (E8 n h ξ Α i (Z (.str "gone")) (Z (ej (Ċ h i))) U)=Z (.nx (E8 n h ξ Α i (Z (.str "gone")) (Z (ej (Ċ h i))) (Z (ek ε)))):=bG (d5 eJ v (rV ε)) rfl;rw[au c];refine bZ ?_;have e:(bY [("ended",7)] (cV (Y 6)) (Z (fB (I č (ab eJ 1 (az (Y 0))) (Y 1)))) (Y 0)) (E8 n h ξ Α i (Z (.str "gone")) (Z (ej (Ċ h i))) (Z (ek ε)))=Z (.ok (.lst (((Ċ h i).filter λo=>!uk (key o=key ε)).map Ó))):=iM Ó (λo=>!uk (key o=key ε)) Ó (fW rfl) (by omega) λo f=>⟨bd ((bg (n:=ek o) (ξ:=ek ε) (d5 eJ rfl (rV o)) rfl).trans (Qb (g o (R_.mp f).1) j)),rfl⟩;exact(ci (ac e aw)).trans rfl
def Ja(h:gT [n]=bo L):bj [n]=Z (.ok .non):=by simp[bj,aQ,iT,aY,cf,Õ,bX,fB,ñ,ab,aO,dZ,Y,h]
def dY(F:Ñ){a:N}{f:Ò}{b:Ev}(c:f b=Z (.ok a))(h:F [a]=Z (.ok .non)):cG (ab F 1 (az f)) b=Z (.nx b):=cW (cE F (ac c aw) rfl h)
def E6(T b A X a:N)(x:Option N):Ev:=[Z T,Z b,Z A,Z X,Z a,x]
def rwy{a:N}(g:cp [n]=bo L)(f:gT [Λ]=bo L)(e:dU [ξ]=bo L){b:N}(d:aP [Α]=Z (.ok b))(h:bc [a]=bo L):bE [n,Λ,ξ,Α,a]=Z (.ok b):=mE (by show bD (E6 n Λ ξ Α a U)=_;unfold bD;rw[au (dY aL rfl (IZ g)),au (dY bj rfl (Ja f)),au (dY cq rfl (NW e))];have c:bW 5 (ab aP 1 (az (Y 3))) (E6 n Λ ξ Α a U)=Z (.nx (E6 n Λ ξ Α a (Z b))):=bG (cE aP (ac rfl aw) rfl d) rfl;rw[au c,au (dY bq rfl (Db h))];rfl)
def Qc(g:Gv b j n ξ Α Λ t δ)(d:0<=i):∃e:Option Int,eO e=EI Α Λ i/\∀a,e=Z a->0<=a/\a<=9999:=by
 rcases M5 g d with q|⟨a,m,k,q⟩;·exact⟨U,q.symm,λa h=>by cases h⟩
 ·exact⟨Z a,q.symm,λc f=>by cases f;exact⟨m,k⟩⟩
def Im{w:Str}{l:N}{R:Str}{c d:Str}{f:Bool}{m:N}(g:Gv δ w ξ Α Λ l t R)(W:Wt k b j n δ w ξ Α Λ l t R π c d f m)(h:0<=i)(o:i<=200):∃a:ax,Ó a=ntn δ w c f d (EI Λ l i) t R i/\Û a/\a.us=i/\a.md=i:=by obtain⟨e,p,q⟩:=Qc (i:=i) g h;refine⟨⟨δ,w,c,f,d,e,t,R,i,i⟩,?_,⟨g.nm,g.w,W.hs,W.ph,g.r,q,h,W3 _,o⟩,rfl,rfl⟩;show N.tup [.str δ,.str w,.str c,.bl f,.str d,eO e,.bl t,.str R,.int i,.int i]=_;rw[p]
structure JS(now:Int)(Y:List ax):Prop where
 g:∀n∈Y,Û n
 s:Y.Pairwise λa b=>a.md<=b.md
 k:(Y.map key).Nodup
 u:∀n∈Y,n.us<=now
def JS.jar(a:JS i h)(l:h.length<=20):ķ h:=⟨a.g,λb c=>UN.mp a.s b (b+1) (by omega) c (by omega),a.k,l⟩
def JS.nil{a:Int}:JS a []:=⟨by simp,.nil,by simp,by simp⟩
def JS.later{now':Int}(a:JS i h)(q:i<=now'):JS now' h:=⟨a.g,a.s,a.k,λn b=>by have:=a.u n b;omega⟩
def JS.filt(p:ax->Bool)(a:JS i h):JS i (h.filter p)where g:=λn q=>a.g n (R_.mp q).1;s:=a.s.sublist Th;k:=a.k.sublist (Th.map key);u:=λn q=>a.u n (R_.mp q).1
def JS.put(c:JS i h)(k:Û ε)(hu:ε.us=i)(hm:ε.md=i):JS i (EN h ε)/\(EN h ε).length<=h.length+1:=by
 unfold EN;split
 · rename_i v;have H:∀x∈h,key x≠key ε:=λx u e=>by have:x∈h.filter (λo=>uk (key o=key ε)):=R_.mpr ⟨u,by simpa using e⟩;rw[v]at this;cases this
   refine⟨⟨λn q=>?_,?_,?_,λn q=>?_⟩,by simp⟩
   · rcases Sr.mp q with q|q;·exact c.g n q
     ·rw[Sf.mp q];exact k
   ·refine List.pairwise_append.mpr ⟨c.s,Yh ..,λa s b t=>?_⟩;rw[Sf.mp t];have:=c.u a s;have:=(c.g a s).mu;omega
   · rw[UQ];refine Z2.mpr ⟨c.k,Yh ..,λa s b t e=>?_⟩;obtain⟨x,u,rfl⟩:=R7.mp s;have:b=key ε:=by simpa using t
     exact H x u (e.trans this)
   · rcases Sr.mp q with q|q;·exact c.u n q
     ·rw[Sf.mp q];omega
 · rename_i g r1 v;have p:g∈h.filter (λo=>uk (key o=key ε)):=by rw[v];exact o_
   have m:=(R_.mp p).1;have r:key g=key ε:=by simpa using(R_.mp p).2
   have one:∀z∈h,key z=key ε->z=g:=λz f e=>by
    have P:=c.k;obtain⟨d,B,rfl⟩:=Zo f;obtain⟨j,A,w⟩:=Zo m;have y:=UN.mp P;rcases XQ d j with q|q|q;·exact(y d j (by simpa using B) (by simpa using A) q (by rw[VW,VW,w,r,e])).elim
    ·subst q;exact w
    ·exact(y j d (by simpa using A) (by simpa using B) q (by rw[VW,VW,w,r,e])).elim
   have md:∀z∈h,(if key z=key ε then({ε with md:=g.md}:ax)else z).md=z.md:=λz f=>by
    split;·rename_i e;rw[one z f e]
    ·rfl
   have ky:∀z∈h,key (if key z=key ε then({ε with md:=g.md}:ax)else z)=key z:=λz f=>by
    split;·rename_i e;exact e.symm
    ·rfl
   have E:=c.g g m;have u1:=c.u g m;refine⟨⟨λn q=>?_,?_,?_,λn q=>?_⟩,by simp⟩
   · obtain⟨z,f,rfl⟩:=R7.mp q;split;·exact⟨k.nm,k.w,k.house,k.path,k.R,k.ends,E.mk0,by show g.md<=ε.us;have:=E.mu;omega,k.us⟩
     ·exact c.g z f
   ·rw[VM];exact c.s.imp_of_mem λ{a b}ha hb q=>by rw[md a ha,md b hb];exact q
   ·rw[SJ];have e:h.map (key∘λz=>if key z=key ε then({ε with md:=g.md}:ax)else z)=h.map key:=Xe λz f=>ky z f;rw[e];exact c.k
   · obtain⟨z,f,rfl⟩:=R7.mp q;split;·show ε.us<=i;omega
     ·exact c.u z f
def Az(a:∀n∈h,ã n i=D)(c:ã ε i=D):∀n∈EN h ε,ã n i=D:=by
 unfold EN;split
 · intro n b;rcases Sr.mp b with q|q;·exact a n q
   ·rw[Sf.mp q];exact c
 · intro n b;obtain⟨z,d,rfl⟩:=R7.mp b;split;·exact c
   ·exact a z d
def ż:List Str:=[b_ "foreign",b_ "open",b_ "unsafe",b_ "marked",b_ "far",b_ "shadowed",b_ "gone",b_ "kept"]
def AA:∀x:Str,x∈[b_ "foreign",b_ "open",b_ "unsafe",b_ "marked",b_ "far",b_ "shadowed"]->ß (.str x) (.str "kept")=bo D/\ß (.str x) (.str "gone")=bo D:=by intro x a;simp only[w_,R6,or_false]at a;rcases a with rfl|rfl|rfl|rfl|rfl|rfl<;>exact⟨by lk,by lk⟩
def Io{w:Str}{l:N}{R:Str}(z:k∈gH Ü)(a:Ak b j n)(g:Gv δ w ξ Α Λ l t R)(s:JS i h)(f:h.length<=20)(y:0<=i)(n1:i<=200):∃(x:Str)(o:List ax),x∈ż/\bO [.tup k,ej h,à π b j n,ą δ w ξ Α Λ l t R,.int i]=Z (.ok (.str x))/\dz [.tup k,ej h,à π b j n,ą δ w ξ Α Λ l t R,.int i]=Z (.ok (ej o))/\JS i o/\o.length<=h.length+1/\∀c∈o,ã c i=D:=by
 obtain⟨H,a',ex,wd,W⟩:=PP z a g π;have sl:(Ċ h i).length<=h.length:=vy;have r:JS i (Ċ h i):=s.filt _;have q:∀c∈Ċ h i,ã c i=D:=λc m=>by simpa using(R_.mp m).2
 rcases W.win with rfl|⟨x,p,rfl⟩
 · obtain⟨d,P,gN,B,E⟩:=Im (i:=i) g W y n1;have A:=EJ z a g y (by omega) W;rw[<-P]at A;have e:=Nh (h:=h) z a g y (by omega) W P gN s.g f;unfold wv at e;dsimp only at e;split at e;·obtain⟨v,u⟩:=AA (b_ "shadowed") (by simp);exact⟨_,Ċ h i,by simp[ż],e,nX f e v u,r,by omega,q⟩
   · split at e;·exact⟨_,_,by simp[ż],e,Ay f s.g gN e A,r.filt _,RZ (SX _ _) (by omega),λc m=>q c (R_.mp m).1⟩
     ·obtain⟨J2,l2⟩:=r.put gN B E;exact⟨_,_,by simp[ż],e,Ax f s.g gN e A,J2,by omega,λc m=>Az q (by rename_i _ hq;simpa using hq) c m⟩
 ·have e:=Ng (h:=h) (i:=i) W (by simp);obtain⟨v,u⟩:=AA x (by simp only[w_,R6,or_false]at p⊢;rcases p with b|b|b|b|b<;>simp[b]);exact⟨x,Ċ h i,by simp only[w_,R6,or_false]at p;rcases p with b|b|b|b|b<;>simp[ż,b],e,nX f e v u,r,by omega,q⟩
def Iq(g:Gv b j n ξ Α Λ t δ):∃X:Str,fJ [ą b j n ξ Α Λ t δ]=Z (.ok (.str X))/\aP [.str X]=Z (.ok (ą b j n ξ Α Λ t δ)):=by obtain⟨h,p,c,d,a,e⟩:=PY g;exact⟨_,by rw[e];exact HU (PZ a),by rw[e];exact M3 a⟩
def vdo{c:Str}(g:k∈gH Ü)(a:Ak b j n)(m:aP [.str δ]=Z (.ok ξ))(p:ķ h)(f:0<=i)(e:i<=9999)(o:bO [.tup k,ej h,à t b j n,ξ,.int i]=Z (.ok (.str c))):gF [.tup k,ej h,à t b j n,.str δ,.int i]=Z (.ok (.str c)):=by refine mE ?_;show iJ [Z (.tup k),Z (ej h),Z (à t b j n),Z (.str δ),Z (.int i),U]=_;unfold iJ;have d:bW 5 (ab bE 5 (vZ (Y 0) (Y 1) (Y 2) (Y 3) (Y 4))) [Z (.tup k),Z (ej h),Z (à t b j n),Z (.str δ),Z (.int i),U]=Z (.nx [Z (.tup k),Z (ej h),Z (à t b j n),Z (.str δ),Z (.int i),Z ξ]):=bG (cE bE (ac rfl (ac rfl (ac rfl (ac rfl (ac rfl aw))))) rfl (rwy (fK g) (tQ p) (HM a) m (rN f e))) rfl;rw[au d];exact bZ (cE bO (ac rfl (ac rfl (ac rfl (ac rfl (ac rfl aw))))) rfl o)
def vz{w:Str}{l:N}{R:Str}{X:Str}(f:k∈gH Ü)(a:Ak b j n)(g:Gv δ w ξ Α Λ l t R)(r:aP [.str X]=Z (.ok (ą δ w ξ Α Λ l t R)))(m:JS i h)(z:h.length<20)(e:0<=i)(o:i<=200):∃(x:Str)(d:List ax),x∈ż/\gF [.tup k,ej h,à π b j n,.str X,.int i]=Z (.ok (.str x))/\dz [.tup k,ej h,à π b j n,ą δ w ξ Α Λ l t R,.int i]=Z (.ok (ej d))/\JS i d/\d.length<=h.length+1/\∀c∈d,ã c i=D:=by obtain⟨x,d,q,v,u,y,p,s⟩:=Io (π:=π) f a g m (by omega) e o;exact⟨x,d,q,vdo f a r (m.jar (by omega)) e (by omega) v,u,y,p,s⟩
def mJ(d:JS i h)(a:h.length<=20){k:Int}(c:0<=k)(b:k<=9999):eI [ej h,.int k]=Z (.ok (ej (Ċ h k))):=by refine mE ?_;show mx [Z (ej h),Z (.int k)]=_;unfold mx;rw[au (dY bj rfl (Ja (tQ (d.jar a)))),au (dY bq rfl (Db (rN c b)))];exact bZ (cg bu rfl rfl (nW a))
end J
end G
variable{Λ:FD.N}{Ξ:Option Str}{ε:G.J.ax}{h:List G.J.ax}
namespace RM
open FD
structure ś{α:Type}(lt:α->α->Bool):Prop where
 ir:∀a,lt a a=D
 tr:∀a b c,lt a b=L->lt b c=L->lt a c=L
def above(b:z->z->Bool)(a:List z)(n:z):Nat:=a.countP (λm=>b n m)
def keep(b:z->z->Bool)(a:List z)(r:Nat):List z:=a.filter λn=>uk (above b a n<r)
def nY{b:z->z->Bool}{a M:List z}(h:a.Perm M)(n:z):above b a n=above b M n:=h.countP_eq _
def kv{d:Type}{c:d->d->Bool}(T:ś c):∀{S:List d},S.Pairwise (λa b=>c b a=L)->S.map (above c S)=rl S.length
 |[],_=>rfl|x::S,h=>by
  rw[RY]at h;have g:=kv T h.2;have j:above c (x::S) x=0:=by
   unfold above;rw[List.countP_eq_zero];intro m f;rcases w_.mp f with rfl|f;·simp[T.ir]
   ·intro z;have:=T.tr _ _ _ z (h.1 m f);rw[T.ir]at this;cases this
  have i:∀y∈S,above c (x::S) y=above c S y+1:=λy e=>by unfold above;rw[VX,h.1 y e];simp
  rw[K_,j,SD,WD,<-g,SJ];congr 1;exact Xe λy e=>by simp[i y e]
def rX(r:Nat):∀n,(rl n).countP (λi=>uk (i<r))=min r n
 |0=>by simp|n+1=>by
  rw[W_,List.countP_append,rX r n];by_cases h:n<r;·simp[h];omega
  ·simp[h];omega
def vA{d:z->z->Bool}(T:ś d){c S:List z}(e:S.Perm c)(f:S.Pairwise (λa b=>d b a=L))(r:Nat):(keep d c r).length=min r c.length:=by
 have j:(keep d c r).length=c.countP (λn=>uk (above d c n<r)):=by unfold keep;rw[Xc]
 have h:c.countP (λn=>uk (above d c n<r))=S.countP (λn=>uk (above d S n<r)):=by rw[e.countP_eq];congr 1;funext n;rw[nY e]
 have g:S.countP (λn=>uk (above d S n<r))=(S.map (above d S)).countP (λi=>uk (i<r)):=by rw[aav];rfl
 rw[j,h,g,kv T f,rX,e.length_eq]
def AB{d:z->z->Bool}(T:ś d){c S:List z}(k:S.Perm c)(s:S.Pairwise (λa b=>d a b=L))(r:Nat)(n:z):n∈S.take (c.length-r)↔n∈c/\¬(above d c n<r):=by
 have t:S.reverse.Pairwise (λa b=>d b a=L):=YR.mpr s;have m:S.reverse.Perm c:=(Z1 S).trans k;have key:=kv T t;have q:S.length=c.length:=k.length_eq;have j:∀(i:Nat)(f:i<S.length),above d c S[i]=S.length-1-i:=λi f=>by
  have o:S.length-1-i<S.reverse.length:=by simp;omega
  have e:=congrArg (λl=>l[S.length-1-i]?) key;simp only[O_]at e;rw[s_ o,Us (by simpa using o),Ub,List.getElem_reverse]at e;have p:=Sd e;rw[nY m]at p;rw[<-p];congr 2;omega
 constructor
 · intro h;obtain⟨i,f,e⟩:=U6.mp h;have g:i<c.length-r/\i<S.length:=by simp at f;omega
   rw[Z4]at e;refine⟨k.mem_iff.mp (e▸Vr g.2),?_⟩;rw[<-e,j i g.2];omega
 ·rintro⟨v,u⟩;obtain⟨i,f,e⟩:=U6.mp (k.mem_iff.mpr v);rw[<-e,j i f]at u;rw[U6];exact⟨i,by simp;omega,by rw[Z4];exact e⟩
def Do{b:z->z->Bool}{a M:List z}(h:a.Sublist M)(n:z):above b a n<=above b M n:=h.countP_le
def mem[DecidableEq Χ](a:z->Χ)(l:List z)(g:Χ):List z:=l.filter λi=>uk (a i=g)
def iO[DecidableEq Χ](a:z->Χ)(b:z->z->Bool)(l:List z)(e:Nat):List z:=l.filter λi=>uk (above b (mem a l (a i)) i<e)
def r9[DecidableEq Χ](b:z->Χ)(a:z->z->Bool)(l:List z)(e m:Nat):List z:=keep a (iO b a l e) m
def AC[DecidableEq Χ]{a:z->Χ}{l m:List z}(h:l.Sublist m)(g:Χ):(mem a l g).Sublist (mem a m g):=h.filter _
def Ir[DecidableEq Χ]{b:z->Χ}{a:z->z->Bool}{l:List z}{e m:Nat}:(r9 b a l e m).Sublist l:=Th.trans Th
def ĉ[DecidableEq Χ]{b:z->Χ}{a:z->z->Bool}{l:List z}{e:Nat}:(iO b a l e).Sublist l:=Th
def vB{b:z->z->Bool}(T:ś b){l:List z}{i:z}(h:i∈l):above b l i<l.length:=by unfold above;refine Nat.lt_of_le_of_ne (List.countP_le_length) λa=>?_;have:=List.countP_eq_length.mp a i h;rw[T.ir]at this;cases this
def vC{a:z->z->Bool}(T:ś a){l:List z}{m:Nat}(h:l.length<=m):keep a l m=l:=by unfold keep;rw[T_];intro i b;have:=vB T b;simp;omega
def AD[DecidableEq Χ]{a:z->Χ}{b:z->z->Bool}(T:ś b){l:List z}{e:Nat}(h:l.length<=e):iO a b l e=l:=by unfold iO;rw[T_];intro i c;have f:=vB T (l:=mem a l (a i)) (i:=i) (by unfold mem;rw[R_];exact⟨c,by simp⟩);have d:(mem a l (a i)).length<=l.length:=SX _ _;simp;omega
def wN[DecidableEq Χ]{a:z->Χ}{b:z->z->Bool}{l k:List z}{e:Nat}(h:k.Sublist (iO a b l e)):iO a b k e=k:=by unfold iO;rw[T_];intro i d;have c:=h.subset d;unfold iO at c;rw[R_]at c;have g:above b (mem a k (a i)) i<=above b (mem a l (a i)) i:=Do (AC (h.trans ĉ) _) i;have f:=c.2;simp at f⊢;omega
def AE[DecidableEq Χ]{b:z->Χ}{a:z->z->Bool}(T:ś a){l:List z}{e m:Nat}(c:(r9 b a l e m).length<=m):r9 b a (r9 b a l e m) e m=r9 b a l e m:=by have d:iO b a (r9 b a l e m) e=r9 b a l e m:=wN (l:=l) Th;show keep a (iO b a (r9 b a l e m) e) m=_;rw[d];exact vC T c
def Dr[DecidableEq Χ]{c:z->Χ}{a:z->z->Bool}(T:ś a){l:List z}{e b:Nat}(d:l.length<=b):r9 c a l e b=iO c a l e:=vC T (RZ ĉ.length_le d)
def Iu[DecidableEq Χ]{f:z->Χ}{a:z->z->Bool}(T:ś a){l:List z}{b c:Nat}(e:l.length<=b)(d:l.length<=c):r9 f a l b c=l:=by rw[Dr T d,AD T e]
def AF[DecidableEq Χ]{c:z->Χ}{d:z->z->Bool}(T:ś d){l:List z}{e:Nat}(f:∀k:List z,k.Sublist l->∃S:List z,S.Perm k/\S.Pairwise (λa b=>d b a=L))(g:Χ):(mem c (iO c d l e) g).length=min e (mem c l g).length:=by
 obtain⟨S,m,j⟩:=f (mem c l g) Th;rw[<-vA T m j e];congr 1;unfold keep mem iO;rw[Vz,Vz];apply U8;intro i _;by_cases h:c i=g;·subst h;simp[mem];rfl
 ·simp[h]
end RM
namespace G
namespace J
open L2 FD TS RM
def AG{F:Ñ}{b:ax->List N}(c:∀n,F [Ó n]=Z (.ok (.tup (b n)))):∀a:List ax,iq F (a.map Ó)=Z (a.map b)|[]=>rfl|n::a=>by show(match F [Ó n],iq F (a.map Ó)with|some (.ok (.tup e)),Z d=>Z (e::d)|_,_=>U)=_;rw[c,AG c a];rfl
def Iw(n:ax):ġ (Ó n)=L:=by unfold Ó;cases h:n.ends<;>simp[ġ,Þ,eO]
def ln:∀a:List ax,Þ (a.map Ó)=L|[]=>by simp[Þ]|n::a=>by simp[Þ,Iw n,ln a]
def vD{a:ax->List N}(c:∀n,ġ (.tup (a n))=L):∀b:List ax,Þ ((b.map a).map N.tup)=L|[]=>by simp[Þ]|n::b=>by have:=vD c b;simp only[K_,Þ,pi];exact⟨c n,this⟩
def Ix{c:ax->List N}(e:List Nat)(k:∀n,Ρ [Ó n]=Z (.ok (.tup (c n))))(f:∀a,ă (c a)=e)(o:jn e=L)(m:∀a,Ch (c a)=L)(j:∀n,ġ (.tup (c n))=L){d:List ax}(h:d.length<64):lU Ρ (d.map Ó)=Z (.ok (.lst ((isortB (λa b=>!ď (c b) (c a)) d).map Ó))):=by
 have ok:ip (d.map c)=L:=by unfold ip;rw[pi,decide_eq_true_eq,S3];refine⟨by simpa using h,λr g=>?_⟩;obtain⟨n,i,rfl⟩:=R7.mp g;cases d with|nil=>simp at i|cons x d=>show(uk (ă (c n)=ă (c x))&&Ch (c n)&&jn (ă (c n)))=L;rw[f,f,o,m];simp
 unfold lU;rw[AG k];dsimp only;rw[if_pos ⟨ok,ln d,vD j d⟩];unfold lT;rw[List.zip_map',<-TS.sort_map (g:=λa b=>!ď (c b) (c a)) (λn=>(c n,Ó n)) d λ_ _ _ _=>rfl,SJ];rfl
def Nj(n:ax):List N:=[.bl n.S,.int n.us]
def ń(a b:ax):Bool:=ď (Nj a) (Nj b)
def Ds(c:List ax):List ax:=isortB (λa b=>!ń b a) c
def Iy(n:ax):nR [Ó n]=Z (.ok (.tup (Nj n))):=by simp[nR,aQ,uU,aJ,cf,Õ,aO,dZ,Y,fC,I,Ì,ó,jC,Ó,Nj]
def vE(a:h.length<64):lU nR (h.map Ó)=Z (.ok (.lst ((Ds h).map Ó))):=Ix [3,2] Iy (λ_=>rfl) rfl (λ_=>rfl) (λn=>by simp[ġ,Þ,Nj]) a
def Dt(a:List ax):(Ds a).length=a.length:=(isortB_perm _ a).length_eq
def Nk(l:List N)(n:Nat)(h:n<=l.length):xR l U (Z (n:Int))=l.take n:=by unfold xR HT.sIx;simp only[XG];rw[if_neg (by omega)];congr 1;omega
def Iz{a b:Ž}(e:A ζ=Z (.ok n))(d:a ζ=Z (.ok Β))(c:b ζ=Z (.ok Κ)):i9 A a b ζ=OQ n Β Κ:=by unfold i9;rw[e,d,c];rfl
def Du(h:A ζ=Z (.ok (.int i))):cY A ζ=Z (.ok (Z i)):=by unfold cY;rw[h];rfl
def AH(b:n=.lst (h.map Ó)\/n=ej h)(a:h.length<64)(r:Nat):eW [n,.int r]=Z (.ok (.lst (((Ds h).take (h.length-r)).map Ó))):=by
 refine dI ?_;show gz [Z n,Z (.int r),U]=_;unfold gz;have e:(â (wj nR) (az (Y 0))) [Z n,Z (.int r),U]=Z (.ok (.lst ((Ds h).map Ó))):=by
  refine(ci (ac (n:=n) rfl aw)).trans ?_;rcases b with rfl|rfl;·exact vE a
  ·exact vE a
 rw[au (bG e rfl)];simp only[Tc,Ta];refine bZ ?_;have d:gZ [n]=Z (.ok (.int h.length)):=by
  rcases b with rfl|rfl;·show Z (Rs.ok (N.int ((h.map Ó).length:Int)))=_;rw[E_]
  ·show Z (Rs.ok (N.int ((h.map Ó).length:Int)))=_;rw[E_]
 have c:(â K4 (bt (I xM (â gZ (az (Y 0))) (Y 1)) (X 0))) [Z n,Z (.int r),Z (.lst ((Ds h).map Ó))]=Z (.ok (.int ((h.length-r:Nat):Int))):=by refine(ci (ac (n:=.int ((h.length:Int)-r)) ((bg ((ci (ac (n:=n) rfl aw)).trans d) (ξ:=.int r) rfl).trans rfl) (ac (n:=.int 0) rfl aw))).trans ?_;show Z (Rs.ok (N.int (if(0:Int)>(h.length:Int)-r then 0 else(h.length:Int)-r)))=_;congr 3;split<;>omega
 refine(Iz rfl rfl (Du c)).trans ?_;show Z (Rs.ok (N.lst (xR ((Ds h).map Ó) U (Z ((h.length-r:Nat):Int)))))=_;rw[Nk _ _ (by rw[E_,Dt];omega),List.map_take]
def out(b a:List ax):List ax:=b.filter λn=>!a.any λm=>uk (m=n)
variable{Θ:List ax}
def AI(c:∀n∈h,Û n)(b:∀n∈Θ,Û n)(g:h.length<=1000):gA [ej h,.lst (Θ.map Ó)]=Z (.ok (ej (out h Θ))):=by refine dI ?_;show iC [Z (ej h),Z (.lst (Θ.map Ó))]=_;unfold iC;refine bZ ?_;have e:(bY [("dropped",1)] (cV (Y 0)) (Z (fB (I kJ (Y 0) (Y 1)))) (Y 0)) [Z (ej h),Z (.lst (Θ.map Ó))]=Z (.ok (.lst ((out h Θ).map Ó))):=iM (l:=h) Ó (λn=>!Θ.any λm=>uk (m=n)) Ó (fW rfl) (by omega) λn d=>⟨bd ((bg (n:=Ó n) (ξ:=.lst (Θ.map Ó)) rfl rfl).trans (Pz ((rT (c n d)).le (by omega)) rfl (λa f=>(rT (b a f)).le (by omega)) λa _=>Ie a n).2.1),rfl⟩;exact(ci (ac e aw)).trans rfl
def Nl(a:ax):ń a a=D:=yX _
def Nm{b c:ax}(h:ń ε b=L)(a:ń b c=L):ń ε c=L:=yY h a
def AJ{b c:ax}(h:ń ε c=L):ń ε b=L\/ń b c=L:=yZ rfl rfl rfl h
def ğ(c:List ax)(a b:ax):Bool:=ń a b||(!ń b a&&uk (c.idxOf a<c.idxOf b))
def ě{b:ax}:ğ h ε b=L↔ń ε b=L\/(ń b ε=D/\h.idxOf ε<h.idxOf b):=by unfold ğ;simp
def kx(f:List ax):ś (ğ f)where
 ir:=λa=>by cases h:ğ f a a with|false=>rfl|true=>
   rcases ě.mp h with q|q;·rw[Nl]at q;cases q
   ·omega
 tr:=λa b c e d=>by
  rw[ě]at*;rcases e with e|⟨e,g⟩
  · rcases d with d|⟨d,i2⟩;·exact .inl (Nm e d)
    · rcases AJ (b:=c) e with q|q;·exact .inl q
      ·rw[q]at d;cases d
  · rcases d with d|⟨d,i2⟩
    · rcases AJ (b:=a) d with q|q;·rw[q]at e;cases e
      ·exact .inl q
    ·refine .inr ⟨?_,by omega⟩;cases q:ń c a with|false=>rfl|true=>
      rcases AJ (b:=b) q with z|z;·rw[z]at d;cases d
      ·rw[z]at e;cases e
def Ń(c d:List ax):Prop:=d.Pairwise (λa b=>c.idxOf a<c.idxOf b)
def EO(b:h.Nodup){i:Nat}(a:i<h.length):h.idxOf h[i]=i:=b.idxOf_getElem i a
def Dw(b:h.Nodup):Ń h h:=by unfold Ń;rw[UN];intro i j d c a;rw[EO b d,EO b c];exact a
def EQ{d:List ax}(x:ax):∀l:List ax,(∀y∈l,d.idxOf x<d.idxOf y)->l.Pairwise (λa b=>ğ d a b=L)->(mP (λa b=>!ń b a) x l).Pairwise (λa b=>ğ d a b=L)
 |[],_,_=>by simp[mP]|y::l,g,h=>by
  unfold mP;rw[RY]at h;split
  · rename_i f;have e:ğ d x y=L:=ě.mpr (.inr ⟨by simpa using f,g y o_⟩);rw[RY,RY];refine⟨λz c=>?_,h⟩;rcases w_.mp c with rfl|c;·exact e
    ·exact(kx d).tr _ _ _ e (h.1 z c)
  · rename_i f;rw[RY];refine⟨λz c=>?_,EQ x l (λz c=>g z (m_ _ c)) h.2⟩;rcases w_.mp ((io _ x l).mem_iff.mp c)with rfl|c;·exact ě.mpr (.inl (by simpa using f))
    ·exact h.1 z c
def AK{d:List ax}:∀{c:List ax},Ń d c->(Ds c).Pairwise (λa b=>ğ d a b=L)|[],_=>.nil|x::c,h=>by unfold Ń at h;rw[RY]at h;exact EQ x _ (λy e=>h.1 y ((isortB_perm _ c).mem_iff.mp e)) (AK h.2)
def Ů(a:List ax)(r:Nat):List ax:=(Ds a).take (a.length-r)
def pM(a:Ń h Θ)(r:Nat)(n:ax):n∈Ů Θ r↔n∈Θ/\¬(above (ğ h) Θ n<r):=AB (kx h) (isortB_perm _ Θ) (AK a) r n
def Dx(a:Ń h Θ)(r:Nat):out Θ (Ů Θ r)=keep (ğ h) Θ r:=by
 unfold out keep;apply U8;intro n c;rw[SS];simp only[Tu,XR,decide_eq_true_eq];constructor;·intro z;cases b:uk (above (ğ h) Θ n<r)with|true=>simpa using b|false=>exact absurd rfl (z n ((pM a r n).mpr ⟨c,by simpa using b⟩))
 ·intro z m d e;subst e;exact((pM a r m).mp d).2 z
def nZ:∀a:List Str,cD (a.map N.str)=Z a|[]=>rfl|k::a=>by show(cD (a.map N.str)).map (k::·)=_;rw[nZ a];rfl
def vF(h:A ζ=Z (.ok (.lst k))):cV A ζ=Z (.ok k):=by unfold cV;rw[h];rfl
def oa(h:v.length<=59):jk [.lst (v.map N.str)]=Z (.ok (.lst ((isortB leS (ST.ddk v)).map N.str))):=by show(match cD (v.map N.str)with|some v=>if v.length<=59 then(Z (.ok (.lst ((isortB leS (ST.ddk v)).map N.str))):Option (Rs N))else U|none=>U)=_;rw[nZ];dsimp only;rw[if_pos h]
def ð(t:List N)(n:ax):Str:=match bV [.tup t,.str n.house]with|some (.ok (.str z))=>z|_=>n.house
def AM(a:k∈gH Ü)(g:Û ε):bz [.tup k,Ó ε]=Z (.ok (.str (ð k ε))):=by
 obtain⟨m,o,_,b,e⟩:=wK a g.house;rcases b with rfl|⟨z,rfl⟩
 · have q:ð k ε=ε.house:=by unfold ð;rw[e]
   rw[q];simp[bz,aQ,gy,aI,sq,aY,aJ,bW,cf,Õ,fB,ñ,ab,aO,dZ,Y,fC,I,Ì,ó,Ą,Ó,e]
 · have q:ð k ε=z:=by unfold ð;rw[e]
   rw[q];simp[bz,aQ,gy,aI,sq,aY,aJ,bW,cf,Õ,fB,ñ,ab,aO,dZ,Y,fC,I,Ì,ó,Ą,Ó,e]
def AN(a b:Str):ß (.str a) (.str b)=Z (.ok (.bl (uk (a=b)))):=by show Z (Rs.ok (N.bl (seq a b)))=_;congr 3;rw[<-uj];rw[SS];simp
def Ģ(t:List N)(a:List ax):List Str:=isortB leS (ST.ddk (a.map (ð t)))
def ũ(t:List N)(b:List ax)(e:Nat)(c:List Str)(a:List ax):List ax:=c.foldl (λa g=>out a (Ů (mem (ð t) b g) e)) a
def pN(a:∀n∈h,Û n):∀n∈out h Θ,Û n:=λn b=>a n (R_.mp b).1
def AO(a:∀n∈h,Û n):∀n∈Ů h c,Û n:=λn b=>a n ((isortB_perm _ h).mem_iff.mp (List.mem_of_mem_take b))
def Dy(a:∀n∈h,Û n):∀n∈mem (ð k) h b,Û n:=λn c=>a n (R_.mp c).1
def AQ:(out h Θ).length<=h.length:=SX _ _
def IA(d:k∈gH Ü)(b:∀n∈h,Û n)(f:h.length<=18){a:List ax}(i:∀n∈a,Û n)(p:a.length<=18)(g:Str):jr [Z (.tup k),Z (ej h),Z (.int c),Z (.int m),Z (ej a),Z (.str g),U]=Z (.nx [Z (.tup k),Z (ej h),Z (.int c),Z (.int m),Z (ej (out a (Ů (mem (ð k) h g) c))),Z (.str g),Z (.lst ((mem (ð k) h g).map Ó))]):=by unfold jr;have j:(bP 1 [("table",0),("group",5)] (cV (Y 1)) (gN 0) (Z (fB (I ß (ab bz 2 (bt (Y 1) (Y 0))) (Y 2)))) (Y 0)) [Z (.tup k),Z (ej h),Z (.int c),Z (.int m),Z (ej a),Z (.str g),U]=Z (.ok (.lst ((mem (ð k) h g).map Ó))):=kr Ó (λn=>uk (ð k n=g)) Ó (fW rfl) (by omega) λn e=>⟨bd ((bg (n:=.str (ð k n)) (ξ:=.str g) (cg bz rfl rfl (AM d (b n e))) rfl).trans (AN _ _)),rfl⟩;rw[au (bG j rfl)];simp only[Tc,Ta];have o:(mem (ð k) h g).length<=18:=RZ (SX _ _) f;refine bG (n:=ej (out a (Ů (mem (ð k) h g) c))) ?_ rfl;exact cg gA rfl (cg eW rfl rfl (AH (h:=mem (ð k) h g) (.inl rfl) (by omega) c)) (AI i (AO (Dy b)) (by omega))
def AR{t:List N}{d:List ax}{e m:Nat}(j:t∈gH Ü)(p:∀n∈d,Û n)(k:d.length<=18):∀(f:List Str)(c:List ax)(a b:Option N),(∀n∈c,Û n)->c.length<=18->mN 5 [5,6] jr (f.map N.str) [Z (.tup t),Z (ej d),Z (.int e),Z (.int m),Z (ej c),a,b]=Z (.nx [Z (.tup t),Z (ej d),Z (.int e),Z (.int m),Z (ej (ũ t d e f c)),U,U])|[],c,a,b,_,_=>rfl|g::f,c,a,b,q,h=>by unfold mN;have r:(fgt [5,6] [Z (.tup t),Z (ej d),Z (.int e),Z (.int m),Z (ej c),a,b]).set 5 (Z (.str g))=[Z (.tup t),Z (ej d),Z (.int e),Z (.int m),Z (ej c),Z (.str g),U]:=rfl;show(match jr ((fgt [5,6] [Z (.tup t),Z (ej d),Z (.int e),Z (.int m),Z (ej c),a,b]).set 5 (Z (.str g)))with|some (.nx i)=>mN 5 [5,6] jr (f.map N.str) i|o=>o)=_;rw[r,IA j p k q h g];exact AR j p k f _ _ _ (pN q) (RZ AQ h)
def Dz:∀{b:List ax},(∀n∈b,Û n)->(∀n∈ũ k h c v b,Û n)/\(ũ k h c v b).length<=b.length:=by induction v with|nil=>exactλa=>⟨a,r_ _⟩|cons g v d=>exactλ{b}a=>⟨(d (pN a)).1,RZ (d (pN a)).2 AQ⟩
def Nn(b:k∈gH Ü)(a:∀n∈h,Û n)(d:h.length<=18):o5 [.tup k,ej h,.int c,.int m]=Z (.ok (ej (out (ũ k h c (Ģ k h) h) (Ů (ũ k h c (Ģ k h) h) m)))):=by
 refine dI ?_;show zM [Z (.tup k),Z (ej h),Z (.int c),Z (.int m),U,U,U]=_;unfold zM;rw[au (bG (n:=ej h) rfl rfl)];simp only[Tc,Ta];have i:(bY [("table",0)] (cV (Y 1)) U (ab bz 2 (bt (Y 1) (Y 0)))) [Z (.tup k),Z (ej h),Z (.int c),Z (.int m),Z (ej h),U,U]=Z (.ok (.lst ((h.map (ð k)).map N.str))):=by rw[SJ];exact eV Ó (λn=>.str (ð k n)) (fW rfl) (by omega) λn f=>cg bz rfl rfl (AM b (a n f))
 have g:(cV (â jk (az (bY [("table",0)] (cV (Y 1)) U (ab bz 2 (bt (Y 1) (Y 0))))))) [Z (.tup k),Z (ej h),Z (.int c),Z (.int m),Z (ej h),U,U]=Z (.ok ((Ģ k h).map N.str)):=by exact vF ((ci (ac i aw)).trans (oa (by simp;omega)))
 rw[au ((F8 g).trans (AR b a d (Ģ k h) h U U a d))];obtain⟨e,j⟩:=Dz (k:=k) (h:=h) (c:=c) (v:=Ģ k h) a;refine bZ ?_;exact cg gA rfl (cg eW rfl rfl (AH (h:=ũ k h c (Ģ k h) h) (.inr rfl) (by omega) m)) (AI e (AO e) (by omega))
def AS[DecidableEq z]{a:List z}{k x:z}(h:x∈a\/x=k):x∈ST.addK a k:=by
 unfold ST.addK;split
 · rcases h with h|rfl;·exact h
   ·assumption
 · rcases h with h|rfl;·exact m_ _ h
   ·exact o_
def AT{c:Type}[DecidableEq c]:∀(b a:List c)(x:c),x∈a\/x∈b->x∈b.foldl ST.addK a
 |[],a,x,h=>by rcases h with h|h;exact h;simp at h|k::b,a,x,h=>by
  refine AT b _ x ?_;rcases h with h|h;·exact .inl (AS (.inl h))
  · rcases w_.mp h with rfl|h;·exact .inl (AS (.inr rfl))
    ·exact .inr h
def pO{b:List ax}(a:Ń h Θ)(s:b.Sublist Θ):Ń h b:=List.Pairwise.sublist s a
def No(a:ε∈h):ð k ε∈Ģ k h:=by unfold Ģ;rw[(isortB_perm leS _).mem_iff];exact AT _ _ _ (.inr (List.mem_map_of_mem a))
def ES{t:List N}{c:List ax}{e:Nat}:∀(b:List Str)(a:List ax),ũ t c e b a=a.filter λn=>b.all λg=>!(Ů (mem (ð t) c g) e).any λk=>uk (k=n)|[],a=>by show a=_;rw[T_.mpr (by simp)]|g::b,a=>by show ũ t c e b (out a (Ů (mem (ð t) c g) e))=_;rw[ES b];unfold out;rw[Vz];apply U8;intro n _;rw[Tn,Bool.and_comm]
def AU(b:Ń h Θ):ũ k Θ c (Ģ k Θ) Θ=iO (ð k) (ğ h) Θ c:=by
 rw[ES];unfold iO;apply U8;intro n e;have o:n∈mem (ð k) Θ (ð k n):=by unfold mem;rw[R_];exact⟨e,by simp⟩
 have i:∀g,Ń h (mem (ð k) Θ g):=λg=>pO b Th;rw[SS];simp only[S3,Tu,XR,decide_eq_true_eq];constructor;·intro z;have j:=z (ð k n) (No e);cases f:uk (above (ğ h) (mem (ð k) Θ (ð k n)) n<c)with|true=>simpa using f|false=>exact absurd rfl (j n ((pM (i _) c n).mpr ⟨o,by simpa using f⟩))
 · intro z g q a p ek;subst ek;obtain⟨d,m⟩:=(pM (i g) c a).mp p;have:ð k a=g:=by unfold mem at d;rw[R_]at d;simpa using d.2
   subst this;exact m z
def ET(b:k∈gH Ü)(e:∀n∈Θ,Û n)(d:Θ.length<=18)(a:Ń h Θ):o5 [.tup k,ej Θ,.int c,.int m]=Z (.ok (ej (r9 (ð k) (ğ h) Θ c m))):=by rw[Nn b e d,AU a,Dx (pO a ĉ)];rfl
def vG(h:c<=20):bN [.int c]=Z (.ok .non):=by
 have e:aE [.int c,.int 0,.int 20]=bo L:=by
  have b:(0:Int)<=(c:Int):=by omega
  have a:(c:Int)<=20:=by omega
  simp[aE,aQ,aS,aI,sq,aY,aJ,cf,Õ,ÿ,bX,fB,ñ,Y,f1,I,ij,i7,dH,oJ,ī,b,a]
 simp[bN,aQ,gQ,aY,cf,Õ,bX,fB,ñ,ab,aO,dZ,Y,fC,e]
def AV(c:Ń h Θ):∀k:List ax,k.Sublist Θ->∃S:List ax,S.Perm k/\S.Pairwise (λa b=>ğ h b a=L):=λk d=>⟨(Ds k).reverse,(Z1 _).trans (isortB_perm _ k),YR.mpr (AK (pO c d))⟩
def IB(a:Ń h Θ):(r9 (ð k) (ğ h) Θ c m).length=min m (iO (ð k) (ğ h) Θ c).length:=by obtain⟨S,d,b⟩:=AV a _ (ĉ (b:=ð k) (a:=ğ h) (e:=c));exact vA (kx h) d b m
def Np(a:Ń h Θ)(g:Str):(mem (ð k) (r9 (ð k) (ğ h) Θ c m) g).length<=c:=by have b:(mem (ð k) (r9 (ð k) (ğ h) Θ c m) g).length<=(mem (ð k) (iO (ð k) (ğ h) Θ c) g).length:=(AC Th g).length_le;rw[AF (kx h) (AV a) g]at b;omega
def row(t:List N)(a:List ax)(g:Str):N:=.tup [.str g,.int (mem (ð t) a g).length]
def Nq(g:Str):NI ((h.map (ð k)).map N.str) [.str g]=Z (.ok (.int (mem (ð k) h g).length))\/100000<h.length:=by
 by_cases a:h.length<=100000
 · left;have c:((h.map (ð k)).map N.str).all gm=L:=by simp[List.all_map,gm]
   have b:((h.map (ð k)).map N.str).countP (λy=>Ŷ y (.str g))=(mem (ð k) h g).length:=by rw[SJ,aav];unfold mem;rw[Xc];congr 1;apply U8;intro n _;show seq (ð k n) g=_;rw[<-uj,SS];simp
   show(if _ then Z (Rs.ok (N.int (((h.map (ð k)).map N.str).countP (λy=>Ŷ y (.str g)):Nat)))else U)=_;rw[c,b,if_pos (by simp[gm,a])]
 ·right;omega
def AX(a:k∈gH Ü)(J:ķ h):iX [.tup k,ej h]=Z (.ok (.lst ((Ģ k h).map (row k h)))):=by
 have e:=J.l;refine dI ?_;show jY [Z (.tup k),Z (ej h),U]=_;unfold jY;rw[au (cW (d5 aL rfl (IZ (fK a)))),au (cW (d5 bj rfl (Ja (tQ J))))];have c:(bY [("table",0)] (cV (Y 1)) U (ab bz 2 (bt (Y 1) (Y 0)))) [Z (.tup k),Z (ej h),U]=Z (.ok (.lst ((h.map (ð k)).map N.str))):=by rw[SJ];exact eV Ó (λn=>.str (ð k n)) (fW rfl) (by omega) λn b=>cg bz rfl rfl (AM a (J.g n b))
 rw[au (bG c rfl)];simp only[Tc,Ta];refine bZ ?_;have d:(Ģ k h).length<=20:=by unfold Ģ;rw[(isortB_perm leS _).length_eq];have:=ST.ddk_le (h.map (ð k));simp at this;omega
 refine eV N.str (row k h) (vF ((ci (ac (n:=.lst ((h.map (ð k)).map N.str)) rfl aw)).trans (oa (by simp;omega)))) (by show(Ģ k h).length<=100000;omega) λg f=>?_;refine xY (ac rfl (ac ?_ aw)) (by show 2<=100000;decide);have:=(Nq (k:=k) (h:=h) g).resolve_right (by omega);exact this
structure AW(h p:Str)(O:N):Prop where
 hn:h∈En
 pn:cj [.str p]=bo L
 o:O=.non\/∃o∈Č,O=.str o
 un:∀q∈î,aZ [.str p,.str q]=bo (P' p q)
def Qd(a:Ak b j n):AW b j n:=⟨a.h,NV a.p,a.o,λq c=>Nf a.p c⟩
def Nr(a:AW b j n):dU [à t b j n]=bo L:=by
 have e:bH [.tup [.bl t,.str b,.str j,n],.int 4]=bo L:=by lk
 have d:=HL a.hn;have c:=a.pn;rcases a.o with rfl|⟨o,f,rfl⟩;·simp[dU,aQ,gV,aI,sq,aY,aJ,cf,Õ,bX,fB,ñ,ab,aO,dZ,Y,fC,f1,I,Ì,ó,Ě,ib,â,Ą,i7,dH,e,d,c,mO,i5]
 ·have g:=HL (me f);simp[dU,aQ,gV,aI,sq,aY,aJ,cf,Õ,bX,fB,ñ,ab,aO,dZ,Y,fC,f1,I,Ì,ó,Ě,ib,â,Ą,i7,dH,e,d,c,g,mO,i5]
def Nt(c:k∈gH Ü){h:Str}{O:N}(j:h∈En)(g:O=.non\/∃o∈Č,O=.str o):∃a,(O=.non->a=L)/\∀s p,ag [.tup k,à s h p O]=bo a:=by
 rcases g with rfl|⟨o,i,rfl⟩;·exact⟨L,λ_=>rfl,λs p=>by simp[ag,aQ,aF,aI,sq,aY,aJ,bW,cf,Õ,ÿ,fB,ñ,Y,fC,I,Ì,ó,Ą]⟩
 ·obtain⟨v,t,_,n,b⟩:=wK c j;obtain⟨u,r,_,m,d⟩:=wK c (me i);cases q:seq o h with|true=>exact⟨L,λ_=>rfl,λs p=>by simp[ag,aQ,aF,aI,sq,aY,aJ,bW,cf,Õ,ÿ,fB,ñ,Y,fC,I,Ì,ó,Ą,ß,Ŀ,q]⟩|false=>
 rcases n with rfl|⟨f,rfl⟩;·exact⟨D,(λz=>nomatch z),λs p=>by simp[ag,aQ,aF,aI,sq,aY,aJ,bW,cf,Õ,ÿ,fB,ñ,ab,aO,dZ,Y,fC,I,Ì,ó,ij,Ą,kP,ß,Ŀ,q,b]⟩
 · rcases m with rfl|⟨e,rfl⟩;·exact⟨D,(λz=>nomatch z),λs p=>by simp[ag,aQ,aF,aI,sq,aY,aJ,bW,cf,Õ,ÿ,fB,ñ,ab,aO,dZ,Y,fC,I,Ì,ó,ij,Ą,kP,ß,Ŀ,q,b,d]⟩
   ·exact⟨seq f e,(λz=>nomatch z),λs p=>by simp[ag,aQ,aF,aI,sq,aY,aJ,bW,cf,Õ,ÿ,fB,ñ,ab,aO,dZ,Y,fC,I,Ì,ó,ij,Ą,kP,ß,Ŀ,q,b,d]⟩
def DA(x y:Str):seq x y=seq y x:=by unfold seq;rw[SS];simp;exact⟨λh=>h.symm,λh=>h.symm⟩
def gB(b:Bool)(n:ax)(s:Bool)(h p:Str)(a:Int):Bool:=!ã n a&&(if n.ex=L then seq h n.house else ŀ h n.house)&&P' p n.path&&(!(n.S&&!s))&&(seq n.R (b_ "any")||b)
def AY(a:Ο ζ=Z (.ok t)):aI (aY Ο (aJ (fC (.bl D))) í) Τ ζ=if t=L then Z (.rt (.bl D))else Τ ζ:=by unfold aI aY;rw[a];cases t<;>rfl
def EU(g:Û ε)(a:AW b j n)(u:∀π j,ag [.tup k,à π b j n]=bo t):jU [.tup k,Ó ε,à π b j n,.int i]=bo (gB t ε π b j i):=by
 have o:=Dl a.hn g.house;have p:=a.un ε.path g.path;have q:ß (.str ε.house) (.str b)=bo (seq b ε.house):=by rw[DA];rfl
 have v:=lm ε i;have f:=u π j;obtain⟨c,e⟩:∃d,d=à π b j n:=⟨_,rfl⟩;have i0:Ì c (.int 0)=Z (.ok (.bl π)):=by rw[e];rfl
 have r:Ì c (.int 1)=Z (.ok (.str b)):=by rw[e];rfl
 have i2:Ì c (.int 2)=Z (.ok (.str j)):=by rw[e];rfl
 rw[<-e]at f⊢;have f1:iW [Ó ε,.str b]=bo (if ε.ex=L then seq b ε.house else ŀ b ε.house):=by cases s:ε.ex<;>simp[iW,aQ,lg,aI,sq,aY,aJ,cf,Õ,fB,ñ,ab,aO,dZ,Y,fC,I,Ì,ó,Ó,s,q,o]
 have y:(kB (fB (I Ì (Y 1) (X 6))) (bX (fB (I Ì (Y 2) (X 0))))) [Z (.tup k),Z (Ó ε),Z c,Z (.int i)]=Z (.ok (ε.S&&!π)):=Aw (bd (t:=ε.S) rfl) (jh (bd ((bg (n:=c) (ξ:=.int 0) rfl rfl).trans i0)));have m:I ß (I Ì (Y 1) (X 7)) (Ð "any") [Z (.tup k),Z (Ó ε),Z c,Z (.int i)]=bo (seq ε.R (b_ "any")):=(bg (n:=.str ε.R) (ξ:=.str "any") rfl rfl).trans rfl;have A:(ÿ (fB (ab aW 2 (bt (Y 1) (Y 3)))) (bX (fB (ab iW 2 (bt (Y 1) (I Ì (Y 2) (X 1))))))) [Z (.tup k),Z (Ó ε),Z c,Z (.int i)]=Z (.ok (ã ε i||!(if ε.ex=L then seq b ε.house else ŀ b ε.house))):=nV (bd (cg aW rfl rfl v)) (jh (bd (cg iW rfl ((bg (n:=c) (ξ:=.int 1) rfl rfl).trans r) f1)));have z:(bX (fB (ab aZ 2 (bt (I Ì (Y 2) (X 2)) (I Ì (Y 1) (X 4)))))) [Z (.tup k),Z (Ó ε),Z c,Z (.int i)]=Z (.ok (!P' j ε.path)):=jh (bd (cg aZ ((bg (n:=c) (ξ:=.int 2) rfl rfl).trans i2) rfl p));have w:(Ě (I ß (I Ì (Y 1) (X 7)) (Ð "any")) (ab ag 2 (bt (Y 0) (Y 2)))) [Z (.tup k),Z (Ó ε),Z c,Z (.int i)]=bo (seq ε.R (b_ "any")||t):=by
  have h:ab ag 2 (bt (Y 0) (Y 2)) [Z (.tup k),Z (Ó ε),Z c,Z (.int i)]=bo t:=cg ag rfl rfl f;unfold Ě;rw[m];cases seq ε.R (b_ "any");·exact h
  ·rfl
 refine dI ?_;show rq [Z (.tup k),Z (Ó ε),Z c,Z (.int i)]=_;unfold rq;rw[AY A,AY z,AY y,HS w];unfold gB;cases ã ε i<;>cases(if ε.ex=L then seq b ε.house else ŀ b ε.house)<;>cases P' j ε.path<;>cases(ε.S&&!π)<;>rfl
def į(b:Bool)(c:List ax)(s:Bool)(h p:Str)(a:Int):List ax:=c.filter λn=>gB b n s h p a
def kp(n:ax):Int:=-(n.path.length:Int)
def IC:(î.all λp=>uk (p.length<=100000))=L:=by lk
def Qe(g:Û ε):IV 1 (f1 D7 (â gZ (az (I Ì (Y 0) (X 4))))) [Ó ε]=Z (.ok (.int (kp ε))):=by
 have h:ε.path.length<=100000:=by simpa using aR (p:=λp:Str=>uk (p.length<=100000)) IC g.path
 show f1 D7 (â gZ (az (I Ì (Y 0) (X 4)))) [Z (Ó ε)]=_;have e:gZ [.str ε.path]=Z (.ok (.int (ε.path.length:Int))):=by show(if ε.path.length<=100000 then Z (Rs.ok (N.int (ε.path.length:Int)))else U)=_;rw[if_pos h]
 exact(OP ((ci (ac (n:=.str ε.path) rfl aw)).trans e)).trans rfl
def og{F:Ñ}:∀{l:List ax},(∀n∈l,F [Ó n]=Z (.ok (.int (kp n))))->iw F (l.map Ó)=Z (l.map kp)|[],_=>rfl|n::l,h=>by show(match F [Ó n],iw F (l.map Ó)with|some (.ok (.int k)),Z a=>Z (k::a)|_,_=>U)=_;rw[h n o_,og λm b=>h m (m_ _ b)];rfl
def Ī(l:List ax):List ax:=isortB (λa b=>!uk (kp b<kp a)) l
def vH(l:List ax):(Ī l).Perm l:=isortB_perm _ _
def DB(c:∀n∈h,Ρ [Ó n]=Z (.ok (.int (kp n))))(f:h.length<64):wo Ρ [.lst (h.map Ó)]=Z (.ok (.lst ((Ī h).map Ó))):=by
 show(match iw Ρ (h.map Ó)with|some d=>if d.length<64/\Þ (h.map Ó)=L then Z (Rs.ok (N.lst (iy d (h.map Ó))))else U|none=>U)=_;rw[og c];dsimp only;rw[if_pos ⟨by simpa using f,ln h⟩];unfold iy Ī;have e:(h.map kp).zip (h.map Ó)=h.map λn=>(kp n,Ó n):=by clear c f;induction h with|nil=>rfl|cons n h g=>rw[K_,K_,Vx,g];rfl
 rw[e,<-sort_map (g:=λa b=>!uk (kp b<kp a)) (λn=>(kp n,Ó n)) h λ_ _ _ _=>rfl,SJ];rfl
def a4{k m:Ò}(h:A ζ=Z (.ok n))(c:È ζ=Z (.ok ξ))(a:k ζ=Z (.ok Α))(b:m ζ=Z (.ok Λ)):iZ A È k m ζ=Z (.ok [n,ξ,Α,Λ]):=ac h (ac c (ac a (ac b aw)))
def mZ(F:Ñ){f g k m:Ò}{i:Ev}{a b c d e:N}(h:f i=Z (.ok a))(p:g i=Z (.ok b))(j:k i=Z (.ok c))(o:m i=Z (.ok d))(n:F [a,b,c,d]=Z (.ok e)):ab F 4 (iZ f g k m) i=Z (.ok e):=k7 (a4 h p j o) rfl n
def nsd(c:k∈gH Ü)(g:ķ h)(a:AW b j n)(f:0<=i)(d:i<=9999):cr [.tup k,ej h,à t b j n,.int i]=Z (.ok .non):=by
 have e:cQ [Z (.tup k),Z (ej h),Z (à t b j n),Z (.int i)]=Z (.nx [Z (.tup k),Z (ej h),Z (à t b j n),Z (.int i)]):=by unfold cQ;rw[au (dY aL rfl (IZ (fK c))),au (dY bj rfl (Ja (tQ g))),au (dY cq rfl (NW (Nr a)))];exact dY bq rfl (Db (rN f d))
 exact PB e
def Nu(g:k∈gH Ü)(d:ķ h)(a:AW b j n)(e:∀π j,ag [.tup k,à π b j n]=bo t)(o:0<=i)(m:i<=9999):rB [.tup k,ej h,à π b j n,.int i]=Z (.ok (.lst ((Ī (į t h π b j i)).map Ó))):=by have q:=d.l;have r:(į t h π b j i).length<=h.length:=SX _ _;refine mE ?_;show rA [Z (.tup k),Z (ej h),Z (à π b j n),Z (.int i),U]=_;unfold rA;rw[au (cW (mZ cr rfl rfl rfl rfl (nsd g d a o m)))];have p:(bP 1 [("table",0),("ask",2),("now",3)] (cV (Y 1)) (gN 0) (Z (fB (ab jU 4 (iZ (Y 1) (Y 0) (Y 2) (Y 3))))) (Y 0)) [Z (.tup k),Z (ej h),Z (à π b j n),Z (.int i),U]=Z (.ok (.lst ((į t h π b j i).map Ó))):=kr Ó (λc=>gB t c π b j i) Ó (fW rfl) (by omega) λc f=>⟨bd (mZ jU rfl rfl rfl rfl (EU (d.g c f) a e)),rfl⟩;rw[au (bG (a:=[Z (.tup k),Z (ej h),Z (à π b j n),Z (.int i),Z (.lst ((į t h π b j i).map Ó))]) p rfl)];exact bZ ((ci (ac rfl aw)).trans (DB (λc e=>Qe (d.g c (R_.mp e).1)) (by omega)))
def tx(l:List ax):Str:=Vl (b_ "; ") (l.map λn=>n.nm++b_ "="++n.w)
def EV(g:Û ε):ε.nm.length<=50/\ε.w.length<=50:=by have b:=aR (p:=λx:Str=>uk (x.length<=50)) G.len_all.1 g.nm;have a:=aR (p:=λx:Str=>uk (x.length<=50)) G.len_all.2.1 g.w;exact⟨by simpa using b,by simpa using a⟩
def ā(b:Bool)(s:Bool)(h p:Str)(a:Int)(n:ax):ax:=if gB b n s h p a=L then{n with us:=if a>n.us then a else n.us}else n
def fMo{g:_}{f:Ò}{A:_}{r:_}{x:_}{d:_}(h:f r=Z (.ok (N.str x)))(i:A r=Z (.ok d)):fM g f A r=g x d:=by unfold fM;rw[h,i];rfl
def EW(u:k∈gH Ü)(o:ķ h)(r:h.length<=10)(a:AW b j n)(f:∀π j,ag [.tup k,à π b j n]=bo t)(y:0<=i)(w:i<=9999):dg [.tup k,ej h,à π b j n,.int i]=Z (.ok (.str (tx (Ī (į t h π b j i))))):=by
 have v:(Ī (į t h π b j i)).length<=10:=by rw[(vH _).length_eq];exact RZ (SX _ _) r
 have m:∀c∈Ī (į t h π b j i),Û c:=λc f=>o.g c (R_.mp ((vH _).mem_iff.mp f)).1;refine dI ?_;show fH [Z (.tup k),Z (ej h),Z (à π b j n),Z (.int i)]=_;unfold fH;refine bZ ?_;have A:(bY [] (cV (ab rB 4 (iZ (Y 0) (Y 1) (Y 2) (Y 3)))) U (I cH (I cH (I Ì (Y 0) (X 0)) (Ð "=")) (I Ì (Y 0) (X 1)))) [Z (.tup k),Z (ej h),Z (à π b j n),Z (.int i)]=Z (.ok (.lst ((Ī (į t h π b j i)).map λc=>N.str (c.nm++b_ "="++c.w)))):=eV Ó (λc=>N.str (c.nm++b_ "="++c.w)) (vF (mZ rB rfl rfl rfl rfl (Nu u o a f y w))) (by omega) λc d=>by obtain⟨q,p⟩:=EV (m c d);have e:(b_ "=").length=1:=rfl;exact(bg (n:=.str (c.nm++b_ "=")) (ξ:=.str c.w) ((bg (n:=.str c.nm) (ξ:=.str "=") rfl rfl).trans (HR (by rw[e];omega))) rfl).trans (HR (by rw[fP,e];omega))
 have z:v7 (b_ "; ") [.lst ((Ī (į t h π b j i)).map λc=>N.str (c.nm++b_ "="++c.w))]=Z (.ok (.str (tx (Ī (į t h π b j i))))):=by
  show(match oE ((Ī (į t h π b j i)).map λc=>N.str (c.nm++b_ "="++c.w))with|some g=>if JoinOk (b_ "; ") g=L then Z (Rs.ok (N.str (Vl (b_ "; ") g)))else U|none=>U)=_;rw[show((Ī (į t h π b j i)).map λc=>N.str (c.nm++b_ "="++c.w))=((Ī (į t h π b j i)).map λc=>c.nm++b_ "="++c.w).map N.str by rw[SJ];rfl,rO];dsimp only;rw[if_pos (HQ (λx s=>?_) (by rw[E_];exact v) (by decide))];·rfl
  ·obtain⟨c,d,rfl⟩:=R7.mp s;obtain⟨q,p⟩:=EV (m c d);have e:(b_ "=").length=1:=rfl;rw[fP,fP,e];omega
 exact(fMo (x:=b_ "; ") rfl (ac A aw)).trans z
def Nv(n:ax):iK [Ó n,.int i]=Z (.ok (Ó {n with us:=if i>n.us then i else n.us})):=by refine dI ?_;show jV [Z (Ó n),Z (.int i)]=_;rfl
def AZ(g:k∈gH Ü)(d:ķ h)(a:AW b j n)(m:∀π j,ag [.tup k,à π b j n]=bo t)(p:0<=i)(o:i<=9999):rF [.tup k,ej h,à π b j n,.int i]=Z (.ok (ej (h.map (ā t π b j i)))):=by
 have s:=d.l;refine dI ?_;show rE [Z (.tup k),Z (ej h),Z (à π b j n),Z (.int i)]=_;unfold rE;rw[au (cW (mZ cr rfl rfl rfl rfl (nsd g d a p o)))];refine bZ ?_;have r:(bY [("table",0),("ask",2),("now",3)] (cV (Y 1)) U (ĩ (fB (ab jU 4 (iZ (Y 1) (Y 0) (Y 2) (Y 3)))) (ab iK 2 (bt (Y 0) (Y 3))) (Y 0))) [Z (.tup k),Z (ej h),Z (à π b j n),Z (.int i)]=Z (.ok (.lst (h.map λc=>Ó (ā t π b j i c)))):=eV Ó (λc=>Ó (ā t π b j i c)) (fW rfl) (by omega) λc e=>by have q:fB (ab jU 4 (iZ (Y 1) (Y 0) (Y 2) (Y 3))) [Z (Ó c),Z (.tup k),Z (à π b j n),Z (.int i)]=Z (.ok (gB t c π b j i)):=bd (mZ jU rfl rfl rfl rfl (EU (d.g c e) a m));show ĩ _ _ _ [Z (Ó c),Z (.tup k),Z (à π b j n),Z (.int i)]=_;unfold ā;cases f:gB t c π b j i with|true=>rw[f]at q;rw[KO q,if_pos rfl];exact cg iK rfl rfl (Nv c)|false=>rw[f]at q;rw[KP q,if_neg (by simp)];rfl
 refine(ci (ac r aw)).trans ?_;show Z (Rs.ok (N.tup (h.map λc=>Ó (ā t π b j i c))))=_;unfold ej;rw[SJ];rfl
def pP(n:ax):(ā t π b j i n).nm=n.nm/\(ā t π b j i n).w=n.w/\key (ā t π b j i n)=key n/\(ā t π b j i n).md=n.md/\(ā t π b j i n).path=n.path/\(∀k,ã (ā t π b j i n) k=ã n k)/\gB t (ā t π b j i n) π b j i=gB t n π b j i:=by unfold ā;split<;>exact⟨rfl,rfl,rfl,rfl,rfl,λ_=>rfl,rfl⟩
def EX(a:ε.us<=i):(ā t π b j i ε).us<=i/\ε.us<=(ā t π b j i ε).us:=by
 unfold ā;split;·show(if i>ε.us then i else ε.us)<=i/\ε.us<=(if i>ε.us then i else ε.us);split<;>omega
 ·omega
def DC(g:Û ε)(d:ε.us<=i)(f:i<=200):Û (ā t π b j i ε):=by
 obtain⟨c,a⟩:=EX (t:=t) (π:=π) (b:=b) (j:=j) d;have m:=g.mu;unfold ā at c a⊢;split;·rename_i e;rw[if_pos e]at c a;exact⟨g.nm,g.w,g.house,g.path,g.R,g.ends,g.mk0,Z6 m a,Z6 c f⟩
 ·exact g
def EY{s:Bool}(e:JS i h)(m:i<=200):JS i (h.map (ā t s b j i))where
 g:=λn d=>by obtain⟨z,f,rfl⟩:=R7.mp d;exact DC (e.g z f) (e.u z f) m
 s:=by rw[VM];exact e.s.imp λ{a c}q=>by rw[(pP a).2.2.2.1,(pP c).2.2.2.1];exact q
 k:=by rw[SJ,show(key∘ā t s b j i)=key from funext λn=>(pP n).2.2.1];exact e.k
 u:=λn d=>by obtain⟨z,f,rfl⟩:=R7.mp d;exact(EX (e.u z f)).1
def ID(n:ax):ā t π b j i (ā t π b j i n)=ā t π b j i n:=by
 by_cases q:gB t n π b j i=L;·have e:ā t π b j i n={n with us:=if i>n.us then i else n.us}:=if_pos q;rw[e];unfold ā;rw[if_pos (show gB t {n with us:=if i>n.us then i else n.us} π b j i=L from q)];congr 1;show(if i>(if i>n.us then i else n.us)then i else(if i>n.us then i else n.us))=_;split<;>first|rfl|omega|(split<;>omega)
 ·have e:ā t π b j i n=n:=if_neg q;rw[e,e]
def vI{f:ax->ax}(c:∀n,kp (f n)=kp n)(x:ax):∀l:List ax,mP (λa b=>!uk (kp b<kp a)) (f x) (l.map f)=(mP (λa b=>!uk (kp b<kp a)) x l).map f
 |[]=>rfl|y::l=>by
  have d:=vI c x l;simp only[K_,mP,c];split;·simp
  ·simp[d]
def A0{f:ax->ax}(a:∀n,kp (f n)=kp n):∀l:List ax,Ī (l.map f)=(Ī l).map f|[]=>rfl|x::l=>by show mP _ (f x) (Ī (l.map f))=(mP _ x (Ī l)).map f;rw[A0 a l,vI a]
def Nw(a:List ax):tx (Ī (į t (a.map (ā t π b j i)) π b j i))=tx (Ī (į t a π b j i)):=by
 have e:į t (a.map (ā t π b j i)) π b j i=(į t a π b j i).map (ā t π b j i):=by unfold į;rw[List.filter_map];congr 1;exact U8 λn _=>(pP n).2.2.2.2.2.2
 rw[e,A0 λn=>by unfold kp;rw[(pP n).2.2.2.2.1]];unfold tx;rw[SJ];congr 1;exact Xe λn _=>by show(ā t π b j i n).nm++_++(ā t π b j i n).w=_;rw[(pP n).1,(pP n).2.1]
variable{Æ:ä}
def aA{a:þ}{F K:cu}(h:F η Ι=Z (.nx a Æ)):dt F K η Ι=K Æ a:=by unfold dt;rw[h];rfl
def bA{a:þ}{u:Uv}(h:Φ η Ι=Z (.ok u Æ))(e:Ι.set c (Z u)=a):jO c Φ η Ι=Z (.nx a Æ):=by unfold jO;rw[h,<-e];rfl
def fX{u:Uv}(h:Φ η Ι=Z (.ok u Æ)):l0 Φ η Ι=Z (.nx Ι Æ):=by unfold l0;rw[h];rfl
def kz{u:Uv}(h:Φ η Ι=Z (.ok u Æ)):oR Φ η Ι=Z (.rt u Æ):=by unfold oR;rw[h];rfl
def aj(h:A (ć η Ι)=Z (.ok n))(a:pl n=L):aD A η Ι=Z (.ok (.inl n) η):=by unfold aD;rw[h];exact if_pos a
def dh{u:Uv}(h:Ι[c]?=Z (Z u)):iS c η Ι=Z (.ok u η):=by unfold iS;rw[h]
def aT{c:ä}{b:lY}{u:Uv}{a:List Uv}(h:Φ η Ι=Z (.ok u Æ))(d:b Æ Ι=Z (.ok a c)):bw Φ b η Ι=Z (.ok (u::a) c):=by unfold bw mM;rw[h];dsimp only;rw[d]
def cX{d:ä}{b:lY}{a:List Uv}{i:List Uv}(h:Φ η Ι=Z (.ok (.inr ψ) Æ))(e:Æ[ψ]?=Z (.obj c i))(g:b Æ Ι=Z (.ok a d))(f:a.length=m):ie c Á m Φ b η Ι=Á d (.inr ψ::a):=by unfold ie mM;rw[h];dsimp only;rw[e];dsimp only;rw[if_pos rfl,g];exact if_pos f
def Nx{F K:cu}{p:oQ}(h:p η Ι=Z (.ok D Æ)):ň p F K η Ι=K Æ Ι:=by unfold ň;rw[h];rfl
def dG(h:Ο (ć η Ι)=Z (.ok t)):gq Ο η Ι=Z (.ok t η):=by unfold gq;rw[h]
def mK{F:cu}{u:Uv}{a:List Uv}(h:F η (a.map Z++P_ (c-a.length) U)=Z (.rt u Æ)):l4 c F η a=Z (.ok u Æ):=by unfold l4;rw[h]
def tR{F:cu}{a:List Uv}(h:F η (a.map Z++P_ (c-a.length) U)=Z (.nx Ι Æ)):l4 c F η a=Z (.ok (.inl .non) Æ):=by unfold l4;rw[h]
def IE{b:ä}{o:û}{d a:List Uv}{w:Uv}(g:Φ η Ι=Z (.ok w Æ))(h:o Æ Ι=Z (.ok (.inr ψ) b))(e:b[ψ]?=Z (.obj c d))(f:oU c m w d=Z a):qV c m o Φ η Ι=Z (.nx Ι (b.set ψ (.obj c a))):=by unfold qV Ey;rw[g];dsimp only;rw[h];dsimp only;rw[e];dsimp only;rw[if_pos rfl,f]
def Qf{l:List z}(h:l[c]?=Z É):c<l.length:=(xy.mp h).1
def m5(a:List ax):pl (ej a)=L:=by show Þ (a.map Ó)=L;exact ln a
def Ba(a:List ax):gZ [ej a]=Z (.ok (.int (a.length:Nat))):=by simp[gZ,ej]
def cE2(F:Ñ){f g:Ò}{c:Ev}{a b:N}{r:N}(h:f c=Z (.ok a))(e:g c=Z (.ok b))(d:F [a,b]=Z (.ok r)):ab F 2 (bt f g) c=Z (.ok r):=cE F (ac h (ac e aw)) rfl d
def cE5(F:Ñ){f g k m q:Ò}{i:Ev}{a b c d e:N}{r:N}(h:f i=Z (.ok a))(s:g i=Z (.ok b))(j:k i=Z (.ok c))(p:m i=Z (.ok d))(o:q i=Z (.ok e))(n:F [a,b,c,d,e]=Z (.ok r)):ab F 5 (vZ f g k m q) i=Z (.ok r):=cE F (ac h (ac s (ac j (ac p (ac o aw))))) rfl n
def rY(S:List z)(x y:z)(r:List z):(S++x::r).set S.length y=S++y::r:=by rw[List.set_append_right _ _ (r_ _),WC];rfl
def rZ(S:List z)(x:z)(r:List z):(S++x::r)[S.length]?=Z x:=by rw[Sn (r_ _),WC];rfl
def Qg(h:cp [n]=bo L):aL [n]=Z (.ok .non):=by simp[aL,aQ,el,aY,cf,Õ,bX,fB,ñ,ab,aO,dZ,Y,h]
def QZ(a:k∈gH Ü):pl (.tup k)=L:=by
 have:(gH Ü).all (λk=>pl (.tup k))=L:=by lk
 exact aR (p:=λk=>pl (.tup k)) this a
def wO(a:Ak b j n):pl (à t b j n)=L:=by rcases a.o with rfl|⟨o,_,rfl⟩<;>rfl
def lr{a:N->N->Option (Rs N)}(h:Φ η Ι=Z (.ok (.inl n) Æ))(d:A (ć Æ Ι)=Z (.ok ξ))(c:a n ξ=Z (.ok (.bl t))):kT a Φ A η Ι=Z (.ok (.inl (.bl t)) Æ):=by unfold kT mM;rw[h];dsimp only;rw[d];show(match a n ξ with|some (.ok (.bl b))=>Z (Ru.ok (VT (N.bl b)) Æ)|_=>U)=_;rw[c]
def wP(h:Φ η Ι=Z (.ok (.inl (.bl t)) Æ)):uB Φ η Ι=Z (.ok t Æ):=by unfold uB mM;rw[h];rfl
def Ny{g:û}(h:Φ η Ι=Z (.ok (.inl (.bl L)) Æ)):NS Φ g η Ι=g Æ Ι:=by unfold NS mM;rw[h]
def gY{p:oQ}{A:cu}(h:p η Ι=Z (.ok D Æ)):ň p A wS η Ι=Z (.nx Ι Æ):=(Nx h).trans rfl
def DD(x:Int):č (.int x) (.int x)=bo D:=Di (c:=0) vk (by omega)
def DE(a:∀n∈h,Û n):č (ej h) (ej h)=bo D:=Di (Dj a) (by omega)
def Bb{p q:oQ}(h:p η Ι=Z (.ok D Æ)):ŵ p q η Ι=q Æ Ι:=by unfold ŵ mM;rw[h];rfl
def tV{p:oQ}(h:p η Ι=Z (.ok t Æ)):IX p η Ι=Z (.ok (!t) Æ):=by unfold IX mM;rw[h]
def IF{r:Option (Rs N)}(b:A ζ=Z (.ok (.bl L)))(a:È ζ=r):ij A È ζ=r:=by unfold ij;rw[b];exact a
def RW(h:bC [.str b]=bo L):fk [.str b]=Z (.ok .non):=by simp[fk,aQ,gU,aY,cf,Õ,bX,fB,ñ,ab,aO,dZ,Y,h]
def j4(a:List ax)(h:Str):List ax:=a.filter λn=>!ŀ n.house h
def vJ(c:JS i h)(d:h.length<=20){a:Str}(b:a∈En):fq [ej h,.str a]=Z (.ok (ej (j4 h a))):=by refine mE ?_;show fm [Z (ej h),Z (.str a)]=_;unfold fm;rw[au (dY bj rfl (Ja (tQ (c.jar d)))),au (dY fk rfl (RW (HL b)))];refine bZ ?_;have e:(bY [("house",1)] (cV (Y 0)) (Z (bX (fB (ab aB 2 (bt (I Ì (Y 0) (X 2)) (Y 1)))))) (Y 0)) [Z (ej h),Z (.str a)]=Z (.ok (.lst ((j4 h a).map Ó))):=iM Ó _ Ó (fW rfl) (by omega) λn f=>⟨jh (bd (cg aB (a:=.str n.house) (b:=.str a) rfl rfl (Dl (c.g n f).house b))),rfl⟩;exact(ci (ac e aw)).trans rfl
def kc(T:N)(e m:Nat)(a:List ax)(c:Int):CB:=.obj 0 [.inl T,.inl (.int e),.inl (.int m),.inl (ej a),.inl (.int c)]
def L'(T:N)(e m:Nat)(a:List ax)(c:Int):N:=.obj 0 [T,.int e,.int m,ej a,.int c]
def kvw(a:η[c]?=Z (kc n m ψ h i)):vw η (.inr c)=Z (L' n m ψ h i):=by simp[vw,a,kc,vwL,vw1,L']
def Š{a:Nat}(b:η[c]?=Z (kc n m ψ h i))(d:Ι[a]?=Z (Z (.inr c))):(ć η Ι)[a]?=Z (Z (L' n m ψ h i)):=by unfold ć;rw[O_,d];show Z (vw η (.inr c))=_;rw[kvw b]
def kf(a:ζ[0]?=Z (Z (L' n c m h i)))(b:mQ 0 ψ (L' n c m h i)=Z (.ok ξ)):f1 (mQ 0 ψ) (Y 0) ζ=Z (.ok ξ):=by unfold f1 Y;rw[a];exact b
def Jb(a:η[c]?=Z (kc n m ψ h i))(x:CB):(η.set c x)[c]?=Z x:=Sh (Qf a)
def IG{b:Int}(a:η[c]?=Z (kc n m ψ h i))(d:i<=b):aV η [.inr c,.inl (.int b)]=Z (.ok (.inl .non) η):=by refine tR (Ι:=[Z (.inr c),Z (.inl (.int b))]) ?_;show aU η [Z (.inr c),Z (.inl (.int b))]=_;unfold aU;refine(Nx (dG (bd ((bg (n:=.int b) (ξ:=.int i) rfl (kf (Š a rfl) rfl)).trans ?_)))).trans rfl;show Z (Rs.ok (N.bl (uk (b<i))))=_;rw[decide_eq_false (show¬b<i by omega)]
def wT{b a:List Uv}(h:η[c]?=Z (.obj 0 b))(g:Ι[0]?=Z (Z (.inr c)))(f:A (ć η Ι)=Z (.ok n))(d:pl n=L)(e:oU 0 m (.inl n) b=Z a):qV 0 m (iS 0) (aD A) η Ι=Z (.nx Ι (η.set c (.obj 0 a))):=IE (aj f d) (dh g) h e
def K6(n:Nat)(A X:N)(a:Int)(x y:Option Uv):þ:=[Z (.inr n),Z (.inl A),Z (.inl X),Z (.inl (.int a)),x,y]
def tW{e:List ax}{d:Int}(a:η[c]?=Z (kc n m ψ h i))(t:pl ξ=L)(s:pl Α=L)(k:gF [n,ej h,ξ,Α,.int d]=Z (.ok (.str b)))(r:i<=d)(p:aP [Α]=Z (.ok Λ))(o:dz [n,ej h,ξ,Λ,.int d]=Z (.ok (ej Θ)))(q:o5 [n,ej Θ,.int m,.int ψ]=Z (.ok (ej e))):bL η [.inr c,.inl ξ,.inl Α,.inl (.int d)]=Z (.ok (.inl (.str b)) (η.set c (kc n m ψ e d))):=by refine mK ?_;show cP η (K6 c ξ Α d U U)=_;unfold cP;have j:=Š (Ι:=K6 c ξ Α d U U) (a:=0) a rfl;have g:=Š (Ι:=K6 c ξ Α d (Z (.inl (.str b))) U) (a:=0) a rfl;have f:=Š (Ι:=K6 c ξ Α d (Z (.inl (.str b))) (Z (.inl (ej Θ)))) (a:=0) a rfl;refine N_ (aA (bA (a:=K6 c ξ Α d (Z (.inl (.str b))) U) (aj (n:=.str b) (cE5 gF (kf j rfl) (kf j rfl) (c:=ξ) (d:=Α) (e:=.int d) rfl rfl rfl k) rfl) rfl)) ?_;refine N_ (aA (fX ((cX (a:=[.inl (.int d)]) (dh rfl) a (aT (aj (n:=.int d) rfl rfl) rfl) rfl).trans (IG a r)))) ?_;refine N_ (aA (bA (a:=K6 c ξ Α d (Z (.inl (.str b))) (Z (.inl (ej Θ)))) (aj (n:=ej Θ) (cE5 dz (kf g rfl) (kf g rfl) (c:=ξ) (d:=Λ) (e:=.int d) rfl (cE aP (ac (n:=Α) rfl aw) rfl p) rfl o) (m5 Θ)) rfl)) ?_;refine N_ (aA (wT (n:=ej e) (a:=[.inl n,.inl (.int m),.inl (.int ψ),.inl (ej e),.inl (.int i)]) a rfl (cE o5 (ac (kf f rfl) (ac (n:=ej Θ) rfl (ac (kf f rfl) (ac (kf f rfl) aw)))) rfl q) (m5 e) (by simp[oU]))) ?_;refine N_ (aA (wT (n:=.int d) (a:=[.inl n,.inl (.int m),.inl (.int ψ),.inl (ej e),.inl (.int d)]) (Jb a _) rfl rfl rfl (by simp[oU]))) ?_;rw[Xl];exact kz (aj (n:=.str b) rfl rfl)
def oh(a:η[c]?=Z (kc n m ψ h i)){k:Str}(e:fq [ej h,.str k]=Z (.ok (ej Θ))):bQ η [.inr c,.inl (.str k)]=Z (.ok (.inl (.int ((h.length:Int)-(Θ.length:Int)))) (η.set c (kc n m ψ Θ i))):=by refine mK ?_;show cm η [Z (.inr c),Z (.inl (.str k)),U,U]=_;unfold cm;have d:=Š (Ι:=[Z (.inr c),Z (.inl (.str k)),U,U]) (a:=0) a rfl;have b:=Š (Ι:=[Z (.inr c),Z (.inl (.str k)),Z (.inl (ej Θ)),U]) (a:=0) a rfl;refine N_ (aA (bA (a:=[Z (.inr c),Z (.inl (.str k)),Z (.inl (ej Θ)),U]) (aj (n:=ej Θ) (cE2 fq (kf d rfl) (b:=.str k) rfl e) (m5 Θ)) rfl)) ?_;refine N_ (aA (bA (a:=[Z (.inr c),Z (.inl (.str k)),Z (.inl (ej Θ)),Z (.inl (.int ((h.length:Int)-(Θ.length:Int))))]) (aj (n:=.int ((h.length:Int)-(Θ.length:Int))) ((bg (n:=.int (h.length:Nat)) (ξ:=.int (Θ.length:Nat)) ((ci (ac (n:=ej h) (kf b rfl) aw)).trans (Ba h)) ((ci (ac (n:=ej Θ) rfl aw)).trans (Ba Θ))).trans rfl) rfl) rfl)) ?_;refine N_ (aA (wT (n:=ej Θ) (a:=[.inl n,.inl (.int m),.inl (.int ψ),.inl (ej Θ),.inl (.int i)]) a rfl rfl (m5 Θ) (by simp[oU]))) ?_;exact kz (aj (n:=.int ((h.length:Int)-(Θ.length:Int))) rfl rfl)
def vK{b:Int}(a:η[c]?=Z (kc n m ψ h i))(e:i<=b)(f:eI [ej h,.int b]=Z (.ok (ej Θ))):dX η [.inr c,.inl (.int b)]=Z (.ok (.inl .non) (η.set c (kc n m ψ Θ b))):=by refine tR (Ι:=[Z (.inr c),Z (.inl (.int b)),Z (.inl (ej Θ))]) ?_;show cU η [Z (.inr c),Z (.inl (.int b)),U]=_;unfold cU;have d:=Š (Ι:=[Z (.inr c),Z (.inl (.int b)),U]) (a:=0) a rfl;refine N_ (aA (bA (a:=[Z (.inr c),Z (.inl (.int b)),Z (.inl (ej Θ))]) (aj (n:=ej Θ) (cE2 eI (kf d rfl) (b:=.int b) rfl f) (m5 Θ)) rfl)) ?_;refine N_ (aA (fX ((cX (a:=[.inl (.int b)]) (dh rfl) a (aT (aj (n:=.int b) rfl rfl) rfl) rfl).trans (IG a e)))) ?_;refine N_ (aA (wT (n:=ej Θ) (a:=[.inl n,.inl (.int m),.inl (.int ψ),.inl (ej Θ),.inl (.int i)]) a rfl rfl (m5 Θ) (by simp[oU]))) ?_;refine(wT (n:=.int b) (a:=[.inl n,.inl (.int m),.inl (.int ψ),.inl (ej Θ),.inl (.int b)]) (Jb a _) rfl rfl rfl (by simp[oU])).trans ?_;rw[Xl];rfl
def DF(o:cp [n]=bo L)(i:pl n=L)(k:c<=20)(j:m<=20):ba (η++[.obj 0 []]) [.inr η.length,.inl n,.inl (.int c),.inl (.int m)]=Z (.ok (.inl .non) (η++[kc n c m [] 0])):=by
 obtain⟨d,a⟩:∃d:þ,d=[Z (.inr η.length),Z (.inl n),Z (.inl (.int c)),Z (.inl (.int m))]:=⟨_,rfl⟩;refine tR (Ι:=d) ?_;show bT (η++[.obj 0 []]) [Z (.inr η.length),Z (.inl n),Z (.inl (.int c)),Z (.inl (.int m))]=_;rw[<-a];unfold bT;have e:d[0]?=Z (Z (.inr η.length)):=by rw[a];rfl
 have h:∀b:ä,Y 1 (ć b d)=Z (.ok n):=λb=>by rw[a];rfl
 have g:∀b:ä,Y 2 (ć b d)=Z (.ok (.int c)):=λb=>by rw[a];rfl
 have f:∀b:ä,Y 3 (ć b d)=Z (.ok (.int m)):=λb=>by rw[a];rfl
 refine N_ (aA (fX (aj (cE aL (ac (h _) aw) rfl (Qg o)) rfl))) ?_;refine N_ (aA (fX (aj (cE bN (ac (g _) aw) rfl (vG k)) rfl))) ?_;refine N_ (aA (fX (aj (cE bN (ac (f _) aw) rfl (vG j)) rfl))) ?_;refine N_ (aA (wT (a:=[.inl n]) (rZ η _ []) e (h _) i (by simp[oU,ċ]))) ?_;rw[rY];refine N_ (aA (wT (a:=[.inl n,.inl (.int c)]) (rZ η _ []) e (g _) rfl (by simp[oU,ċ]))) ?_;rw[rY];refine N_ (aA (wT (a:=[.inl n,.inl (.int c),.inl (.int m)]) (rZ η _ []) e (f _) rfl (by simp[oU,ċ]))) ?_;rw[rY];refine N_ (aA (wT (n:=ej []) (a:=[.inl n,.inl (.int c),.inl (.int m),.inl (ej [])]) (rZ η _ []) e rfl (m5 []) (by simp[oU,ċ]))) ?_;rw[rY];refine(wT (n:=.int 0) (a:=[.inl n,.inl (.int c),.inl (.int m),.inl (ej []),.inl (.int 0)]) (rZ η _ []) e rfl rfl (by simp[oU,ċ])).trans ?_;rw[rY];rfl
def pQ{a:lY}(g:cp [n]=bo L)(b:pl n=L)(f:c<=20)(d:m<=20)(e:a η Ι=Z (.ok [.inl n,.inl (.int c),.inl (.int m)] η)):sU 0 ba 3 a η Ι=Z (.ok (.inr η.length) (η++[kc n c m [] 0])):=by unfold sU mM;rw[e];dsimp only;rw[show([VT n,VT (N.int c),VT (N.int m)]:List Uv).length=3 from rfl,if_pos rfl,DF g b f d]
def Bc{e:List ax}{d:Int}(a:η[c]?=Z (kc n m ψ h i))(q:pl ξ=L)(p:i<=d)(j:dg [n,ej h,ξ,.int d]=Z (.ok (.str b)))(o:eI [ej h,.int d]=Z (.ok (ej Θ)))(k:rF [n,ej Θ,ξ,.int d]=Z (.ok (ej e))):cT η [.inr c,.inl ξ,.inl (.int d)]=Z (.ok (.inl (.str b)) (η.set c (kc n m ψ e d))):=by refine mK ?_;show cR η [Z (.inr c),Z (.inl ξ),Z (.inl (.int d)),U]=_;unfold cR;have g:=Š (Ι:=[Z (.inr c),Z (.inl ξ),Z (.inl (.int d)),U]) (a:=0) a rfl;have f:=Š (Ι:=[Z (.inr c),Z (.inl ξ),Z (.inl (.int d)),Z (.inl (.str b))]) (a:=0) a rfl;refine N_ (aA (bA (a:=[Z (.inr c),Z (.inl ξ),Z (.inl (.int d)),Z (.inl (.str b))]) (aj (n:=.str b) (mZ dg (kf g rfl) (kf g rfl) (c:=ξ) (d:=.int d) rfl rfl j) rfl) rfl)) ?_;refine N_ (aA (fX ((cX (a:=[.inl (.int d)]) (dh rfl) a (aT (aj (n:=.int d) rfl rfl) rfl) rfl).trans (IG a p)))) ?_;refine N_ (aA (wT (n:=ej e) (a:=[.inl n,.inl (.int m),.inl (.int ψ),.inl (ej e),.inl (.int i)]) a rfl (mZ rF (kf f rfl) (cg eI (kf f rfl) (b:=.int d) rfl o) (c:=ξ) (d:=.int d) rfl rfl k) (m5 e) (by simp[oU]))) ?_;refine N_ (aA (wT (n:=.int d) (a:=[.inl n,.inl (.int m),.inl (.int ψ),.inl (ej e),.inl (.int d)]) (Jb a _) rfl rfl rfl (by simp[oU]))) ?_;rw[Xl];exact kz (aj (n:=.str b) rfl rfl)
def mL{a:Nat}(b:η[c]?=Z (kc n m ψ h i))(d:Ι[a]?=Z (Z (.inr c))):cO 0 aH (Y a) (ć η Ι)=Z (.ok (ej h)):=by unfold cO Y;rw[Š b d];show(if V' 0 (L' n m ψ h i)=L then _ else U)=_;rw[if_pos (by rfl)];rfl
def Qh{a:Nat}(b:η[c]?=Z (kc n m ψ h i))(d:Ι[a]?=Z (Z (.inr c))):cO 0 cy (Y a) (ć η Ι)=Z (.ok (.int i)):=by unfold cO Y;rw[Š b d];show(if V' 0 (L' n m ψ h i)=L then _ else U)=_;rw[if_pos (by rfl)];rfl
def EZ:ß (.str b) (.str b)=bo L:=by show Z (Rs.ok (N.bl (seq b b)))=_;congr 3;unfold seq;simp
def vL(d:η[c]?=Z (kc (.tup k) m ψ h i))(q:k∈gH Ü)(u:JS i h)(P:h.length<=10)(g:∀c∈h,ã c i=D)(a:Ak b j n)(e:∀t j,ag [.tup k,à t b j n]=bo π)(f:0<=i)(n1:i<=200):ce η [.inl (.tup k),.inr c,.inl (à t b j n),.inl (.int i)]=Z (.ok (.inl (.bl L)) (η.set c (kc (.tup k) m ψ (h.map (ā π t b j i)) i))):=by
 have J1:=EY (t:=π) (s:=t) (b:=b) (j:=j) u n1;have Jr:=u.jar (by omega);have l1:(h.map (ā π t b j i)).length<=10:=by rw[E_];exact P
 have o:=J1.jar (by omega);have w:=Qd a;have B:∀{l:List ax},(∀c∈l,ã c i=D)->Ċ l i=l:=λ{l}hl=>T_.mpr λc e=>by simp[hl c e]
 have v:∀c∈h.map (ā π t b j i),ã c i=D:=λc e=>by obtain⟨z,hz,rfl⟩:=R7.mp e;rw[(pP z).2.2.2.2.2.1];exact g z hz
 have x0:=EW (π:=t) q Jr P w e f (by omega);have p:=EW (π:=t) q o l1 w e f (by omega);rw[Nw]at p;have H:=mJ u (by omega) f (show i<=9999 by omega);have E:=mJ J1 (by omega) f (show i<=9999 by omega);rw[B g]at H;rw[B v]at E;have u0:=AZ (π:=t) q Jr w e f (show i<=9999 by omega);have A:=AZ (π:=t) q o w e f (show i<=9999 by omega);rw[SJ,show(ā π t b j i∘ā π t b j i)=ā π t b j i from funext ID]at A;have e1:=Bc d (wO a) (W3 _) x0 H u0;have r:=Jb d (kc (.tup k) m ψ (h.map (ā π t b j i)) i);have s:=Bc r (wO a) (W3 _) p E A;rw[Xl]at s;obtain⟨X,hX⟩:∃X,X=tx (Ī (į π h t b j i)):=⟨_,rfl⟩;rw[<-hX]at p e1 s;refine mK ?_;show dD η [Z (.inl (.tup k)),Z (.inr c),Z (.inl (à t b j n)),Z (.inl (.int i)),U]=_;unfold dD;have ar:∀(η:ä)(y:Option Uv),bw (aD (Y 2)) (bw (aD (Y 3)) lZ) η [Z (.inl (.tup k)),Z (.inr c),Z (.inl (à t b j n)),Z (.inl (.int i)),y]=Z (.ok [.inl (à t b j n),.inl (.int i)] η):=λη y=>aT (aj (n:=à t b j n) rfl (wO a)) (aT (aj (n:=.int i) rfl rfl) rfl);refine N_ (aA (bA (a:=[Z (.inl (.tup k)),Z (.inr c),Z (.inl (à t b j n)),Z (.inl (.int i)),Z (.inl (.str X))]) ((cX (a:=[.inl (à t b j n),.inl (.int i)]) (dh rfl) d (ar η U) rfl).trans e1) rfl)) ?_;refine kz ?_;refine N_ (Ny (Æ:=η.set c (kc (.tup k) m ψ (h.map (ā π t b j i)) i)) (aj (n:=.bl L) ((bg (n:=.str X) (ξ:=.str X) rfl (mZ dg (a:=.tup k) (c:=à t b j n) (d:=.int i) rfl (mL r rfl) rfl rfl p)).trans EZ) rfl)) ?_;exact lr (ξ:=.str X) ((cX (a:=[.inl (à t b j n),.inl (.int i)]) (dh rfl) r (ar _ _) rfl).trans s) rfl EZ
def Qi(a:∀n∈h,Û n):ß (ej h) (ej h)=bo L:=HI ((Dj a).okP (by omega)) (Dj a).p
def DG(k:η[c]?=Z (kc n m ψ h i))(a:JS i h)(o:h.length<=20)(e:∀c∈h,ã c i=D)(q:0<=i)(t:i<=200):eU η [.inr c,.inl (.int i)]=Z (.ok (.inl (.bl L)) (η.set c (kc n m ψ (Ċ h 9999) 9999))):=by have g:=mJ a o q (show i<=9999 by omega);rw[show Ċ h i=h from T_.mpr λc d=>by simp[e c d]]at g;have s:=vK k (W3 _) g;have b:=Jb k (kc n m ψ h i);have f:=mJ a o (k:=9999) (by omega) (by omega);have p:=vK b (show i<=9999 by omega) f;rw[Xl]at p;have j:=Jb k (kc n m ψ (Ċ h 9999) 9999);have r:∀c∈Ċ h 9999,Û c:=λc d=>a.g c (R_.mp d).1;refine mK ?_;show dF η [Z (.inr c),Z (.inl (.int i)),U]=_;unfold dF;refine N_ (aA (bA (a:=[Z (.inr c),Z (.inl (.int i)),Z (.inl (ej h))]) (aj (mL k rfl) (m5 h)) rfl)) ?_;refine N_ (aA (fX ((cX (a:=[.inl (.int i)]) (dh rfl) k (aT (aj (n:=.int i) rfl rfl) rfl) rfl).trans s))) ?_;refine N_ (aA (gY (N_ (Bb (dG (bd ((bg (mL b rfl) (ξ:=ej h) rfl).trans (Di (Dj a.g) (by omega)))))) (wP (t:=D) (lr (n:=.non) (ξ:=.non) ((cX (a:=[.inl (.int 9999)]) (dh rfl) b (aT (aj (n:=.int 9999) rfl rfl) rfl) rfl).trans p) rfl rfl))))) ?_;refine kz (aj (n:=.bl L) ?_ rfl);exact IF ((bg (Qh j rfl) (ξ:=.int 9999) rfl).trans rfl) ((bg (mL j rfl) (cg eI (a:=ej h) (b:=.int 9999) rfl rfl f)).trans (Qi r))
def JS.sub(a:JS i h)(s:Θ.Sublist h):JS i Θ where g:=λn q=>a.g n (s.subset q);s:=a.s.sublist s;k:=a.k.sublist (s.map key);u:=λn q=>a.u n (s.subset q)
def ņ(t:List N)(a:List ax)(e m:Nat):List ax:=r9 (ð t) (ğ a) a e m
def vM(d:k∈gH Ü)(e:JS i h)(n:h.length<=18)(s:c<=20)(r:m<=20):o5 [.tup k,ej h,.int c,.int m]=Z (.ok (ej (ņ k h c m)))/\(ņ k h c m).Sublist h/\(ņ k h c m).length<=m/\jX [.tup k,ej (ņ k h c m),.int c,.int m]=Z (.ok (ej (ņ k h c m)))/\(∀g,(mem (ð k) (ņ k h c m) g).length<=c)/\(h.length<=c->h.length<=m->ņ k h c m=h):=by
 have q:h.Nodup:=(VM.mp e.k).imp λa c=>a (congrArg key c);have I:=Dw q;have b:(ņ k h c m).Sublist h:=Ir;have j:(ņ k h c m).length<=m:=by unfold ņ;rw[IB I];omega
 have p:=e.sub b;have f:=RZ b.length_le n;refine⟨ET d e.g n I,b,j,?_,λg=>Np I g,λu t=>Iu (kx h) u t⟩;refine dI ?_;show jW [Z (.tup k),Z (ej (ņ k h c m)),Z (.int c),Z (.int m)]=_;unfold jW;rw[au (cW (d5 aL rfl (IZ (fK d)))),au (cW (d5 bj rfl (Ja (tQ (p.jar (by omega)))))),au (cW (d5 bN rfl (vG s))),au (cW (d5 bN rfl (vG r)))];have o:=ET (c:=c) (m:=m) d p.g f (pO I b);rw[show r9 (ð k) (ğ h) (ņ k h c m) c m=ņ k h c m from AE (kx h) j]at o;exact bZ (mZ o5 rfl rfl rfl rfl o)
def vN{c:Ò}{d:Ev}{e:Type}(u v f:e->N):∀{l:List e},(∀a∈l,c ((d.set 0 (Z (u a))).set 1 (Z (v a)))=Z (.ok (f a)))->jy (gP 0 1) U c d (l.map λa=>.tup [u a,v a])=Z (l.map f)|[],_=>rfl|a::l,h=>by have g:=vN (c:=c) (d:=d) u v f (l:=l) λb i=>h b (m_ _ i);have j:=h a o_;rw[K_];unfold jy;show(match c ((d.set 0 (Z (u a))).set 1 (Z (v a)))with|some (.ok y)=>_|_=>_)=_;simp only[j,g,K_]
def Bd{b:Type}(f:b->Int):∀l:List b,je (l.map (λa=>N.int (f a))++[.int 0])=Z (l.map f++[0])|[]=>rfl|a::l=>by show(je (l.map (λa=>N.int (f a))++[.int 0])).map (f a::·)=_;rw[Bd f l];rfl
def Nz(f:z->Int)(l:List z){b:Int}(h:∀a∈l,f a<=b)(j:0<=b):∃M,NN [.lst (l.map (λa=>N.int (f a))++[.int 0])]=Z (.ok (.int M))/\M<=b:=by
 obtain⟨x,c,g⟩:∃x c,l.map f++[0]=x::c:=by cases l with|nil=>exact⟨0,[],rfl⟩|cons o r=>exact⟨_,_,rfl⟩
 refine⟨ĳ x c,?_,?_⟩;·show(match je (l.map (λa=>N.int (f a))++[.int 0])with|some (n::i)=>Z (Rs.ok (N.int (ĳ n i)))|_=>U)=_;rw[Bd,g]
 · have d:ĳ x c∈l.map f++[0]:=by
    rw[g];rcases(yC c x).2.2 with q|q;·rw[q];exact o_
    ·exact m_ _ q
   rcases Sr.mp d with q|q;·obtain⟨a,k,e⟩:=R7.mp q;rw[<-e];exact h a k
   ·rw[Sf.mp q];exact j
def St(T:N)(e m:Nat)(a b:List ax)(c:Int):ä:=[kc T e m a c,kc T e m a c,kc T 20 20 b c]
def Q(j:List Int)(T:N)(e m:Nat)(g:Int)(i h f d c b a:Option Uv):þ:=[Z (.inl (.scr j)),Z (.inl T),Z (.inl (.int e)),Z (.inl (.int m)),Z (.inr 0),Z (.inr 1),Z (.inr 2),Z (.inl (.int g)),i,h,f,d,c,b,a,U,U,U]
def IH:(ż.all λx=>Sl (.str x))=L:=by lk
def Qj(h:b∈ż):č (.str b) (.str b)=bo D:=Di (jZ (aR (p:=λb=>Sl (.str b)) IH h)) (by omega)
def pR{b:lY}{a:List Uv}{r:Option (Ru Uv)}(h:b η Ι=Z (.ok a Æ))(d:a.length=c)(e:Á Æ a=r):oV Á c b η Ι=r:=by unfold oV mM;rw[h];dsimp only;rw[if_pos d,e]
def Qk{r:List Int}{q p f e d b:Option Uv}(t:η[0]?=Z (kc (.tup k) c m h i))(a:JS i h)(o:h.length<=20)(g:∀n∈h,ã n i=D)(s:0<=i)(v:i<=200):tK (ć η (Q r (.tup k) c m i q p f e d (Z (.inl (ej h))) b))=Z (.ok D):=by have j:=mJ a o s (show i<=9999 by omega);rw[show Ċ h i=h from T_.mpr λn u=>by simp[g n u]]at j;refine nV (t:=D) (π:=D) (jh (bd (d5 gT (a:=ej h) rfl (tQ (a.jar o))))) (nV (t:=D) (π:=D) (bd ((bg (n:=ej h) (ξ:=ej h) (cg eI (a:=ej h) (b:=.int i) rfl rfl j) rfl).trans (DE a.g))) (bd ((bg (Qh t rfl) (ξ:=.int i) rfl).trans (DD _))))
def Ql{j:List Int}{g f e d b a:Option Uv}(p:jX [.tup k,ej h,.int c,.int m]=Z (.ok (ej h)))(o:∀n∈h,Û n):tL (ć η (Q j (.tup k) c m i g f e d b (Z (.inl (ej h))) a))=Z (.ok D):=bd ((bg (n:=ej h) (ξ:=ej h) (mZ jX (a:=.tup k) (b:=ej h) (c:=.int c) (d:=.int m) rfl rfl rfl rfl p) rfl).trans (DE o))
def Qm{n:List Int}{j f e d b a:Option Uv}(p:k∈gH Ü)(o:ķ h)(w:h.length<=m)(q:∀g,(mem (ð k) h g).length<=c):tM (ć η (Q n (.tup k) c m i j f e d b (Z (.inl (ej h))) a))=Z (.ok D):=by
 obtain⟨M,r,y⟩:=Nz (λg=>((mem (ð k) h g).length:Int)) (Ģ k h) (b:=c) (λg _=>by have:=q g;omega) (by omega);have v:=o.l;have z:(Ģ k h).length<=20:=by unfold Ģ;rw[(isortB_perm leS _).length_eq];have:=ST.ddk_le (h.map (ð k));simp at this;omega
 have t:(bP 2 [] (cV (ab iX 2 (bt (Y 1) (Y 13)))) (gP 0 1) U (Y 1)) (ć η (Q n (.tup k) c m i j f e d b (Z (.inl (ej h))) a))=Z (.ok (.lst ((Ģ k h).map λg=>N.int ((mem (ð k) h g).length:Int)))):=by unfold bP;rw[vF (cg iX (a:=.tup k) (b:=ej h) rfl rfl (AX p o))];show(match jy (gP 0 1) U (Y 1) (hU 2 [] (ć η (Q n (.tup k) c m i j f e d b (Z (.inl (ej h))) a))) ((Ģ k h).map λg=>.tup [.str g,.int (mem (ð k) h g).length])with|some u=>_|none=>_)=_;rw[vN (λg=>N.str g) (λg=>N.int (mem (ð k) h g).length) (λg=>N.int ((mem (ð k) h g).length:Int)) λg _=>rfl];dsimp only;rw[if_pos ⟨by simp;omega,by simp;omega⟩]
 have s:I gJ (bP 2 [] (cV (ab iX 2 (bt (Y 1) (Y 13)))) (gP 0 1) U (Y 1)) (ib (az (X 0))) (ć η (Q n (.tup k) c m i j f e d b (Z (.inl (ej h))) a))=Z (.ok (.lst ((Ģ k h).map (λg=>N.int ((mem (ð k) h g).length:Int))++[.int 0]))):=by refine(bg t (sE (ac (n:=.int 0) rfl aw) (by show 1<=100000;decide))).trans ?_;show(if((Ģ k h).map λg=>N.int ((mem (ð k) h g).length:Int)).length+1<=100000 then Z (Rs.ok (N.lst ((Ģ k h).map (λg=>N.int ((mem (ð k) h g).length:Int))++[.int 0])))else U)=_;rw[if_pos (by simp;omega)]
 refine nV (t:=D) (π:=D) (bd ((bg (n:=.int M) (ξ:=.int c) ((ci (ac s aw)).trans r) rfl).trans ?_)) (bd ((bg (n:=.int (h.length:Nat)) (ξ:=.int m) ((ci (ac (n:=ej h) rfl aw)).trans (Ba h)) rfl).trans ?_));·show Z (Rs.ok (N.bl (uk (M>(c:Int)))))=_;rw[decide_eq_false (by omega)]
 ·show Z (Rs.ok (N.bl (uk (((h.length:Nat):Int)>(m:Int)))))=_;rw[decide_eq_false (by omega)]
def Qn{g:List Int}{f e d b a:Option Uv}(p:η[2]?=Z (kc (.tup k) 20 20 Θ i))(r:∀n∈h,Û n)(s:ψ=0->ej Θ=ej h):mB (ć η (Q g (.tup k) c m i (Z (.inl (.int (ψ:Nat)))) f e d b (Z (.inl (ej h))) a))=Z (.ok D):=by
 have o:fB (I ß (Y 8) (X 0)) (ć η (Q g (.tup k) c m i (Z (.inl (.int (ψ:Nat)))) f e d b (Z (.inl (ej h))) a))=Z (.ok (((ψ:Nat):Int)==0)):=bd ((bg (n:=.int (ψ:Nat)) (ξ:=.int 0) rfl rfl).trans rfl);by_cases j:ψ=0;·have q:=bd ((bg (g:=č) (mL (Ι:=Q g (.tup k) c m i (Z (.inl (.int (ψ:Nat)))) f e d b (Z (.inl (ej h))) a) (a:=6) p rfl) (ξ:=ej h) (È:=Y 13) rfl).trans (by rw[s j];exact DE r));unfold mB kB;rw[o,j];exact q
 ·unfold mB kB;rw[o,show(((ψ:Nat):Int)==0)=D by simpa using j];rfl
def II{f:List Nat}{F:cu}{a:Int}{b:þ}(h:F η ((Hc f Ι).set c (Z (.inl (.int (i+(m:Int)*a)))))=Z (.nx b Æ)):mR c f F i a (ψ+1) m η Ι=mR c f F i a ψ (m+1) Æ b:=by show(match F η ((Hc f Ι).set c (Z (.inl (.int (i+(m:Int)*a)))))with|some (.nx b Æ)=>mR c f F i a ψ (m+1) Æ b|o=>o)=_;rw[h]
def DH{f:List Nat}{w:FnI}{F:cu}{a:Int}{r:Option š}(h:w (ć η Ι)=Z (i,a,m))(e:mR c f F i a m 0 η Ι=r):wu c f w F η Ι=r:=by unfold wu;rw[h];exact e
def NA(h:μ ζ=Z (.ok [.int (c:Int)]))(a:c<=1000):iU1 μ ζ=Z (0,1,c):=by unfold iU1;rw[h];show(if okR (c:Int)then Z ((0:Int),(1:Int),(c:Int).toNat)else U)=_;rw[if_pos ⟨by omega,by omega⟩];rfl
def Qo{o:List Int}(hl:o.length<=63)(B:k∈gH Ü)(hk:ψ<6)(e1:1<=c)(e4:c<=4)(m1:1<=m)(m6:m<=6)(Js:JS i h)(jl:h.length<=6)(Jw:JS i Θ)(wl:Θ.length<=ψ)(h0:ψ=0->h=[]/\Θ=[])(n0:0<=i)(n1:i<=4*ψ):∃b' c' f y9 o' n' m' l' k',mC (St (.tup k) c m h Θ i) (Q o (.tup k) c m i (Z (.inl (.int (ψ:Nat)))) U U U U U U)=Z (.nx (Q o (.tup k) c m f (Z (.inl (.int (ψ:Nat)))) y9 o' n' m' l' k') (St (.tup k) c m b' c' f))/\JS f b'/\b'.length<=6/\JS f c'/\c'.length<=ψ+1/\(∀n∈b',ã n f=D)/\0<=f/\f<=4*(ψ+1:Nat):=by
 obtain⟨z,hz⟩:∃z:Int,z=20+40*(ψ:Int):=⟨_,rfl⟩;obtain⟨d,d0,d1,e0⟩:=bJ o hl z 5 (by omega);obtain⟨s,b,p,O,hh,hp,hO,eA⟩:=vn o hl (z+1);have a:Ak b p O:=⟨me hh,hp,hO⟩;obtain⟨nm,w,H,P,u,l,S0,R,g,eG⟩:=Dg o hl (z+10) hh;obtain⟨X,eX,eR⟩:=Iq g;obtain⟨t,r,q,v,u',t',i',w'⟩:=vn o hl (z+30);have a':Ak r q v:=⟨me u',t',i'⟩;obtain⟨nr,-,g'⟩:=Nt B a'.h i';obtain⟨f,hn⟩:∃n:Int,n=i+d:=⟨_,rfl⟩;obtain⟨x,ys,hx,ev,ei,J2,l2,q'⟩:=vz (π:=s) B a g eR (Js.later (now':=f) (by omega)) (by omega) (by omega) (by omega);obtain⟨xw,vs,y',v',f',J3,l3,x'⟩:=vz (π:=s) B a g eR (Jw.later (now':=f) (by omega)) (by omega) (by omega) (by omega);obtain⟨f1,e',f3,f4,f5,f6⟩:=vM (c:=c) (m:=m) B J2 (by omega) (by omega) (by omega);obtain⟨g1,-,-,-,-,g6⟩:=vM (c:=20) (m:=20) B J3 (by omega) (by omega) (by omega);rw[g6 (by omega) (by omega)]at g1;obtain⟨j,r'⟩:∃j,j=ņ k ys c m:=⟨_,rfl⟩;rw[<-r']at f1 e' f3 f4 f5 f6;have Jz:=J2.sub e';have E:∀n∈j,ã n f=D:=λn hn=>q' n (e'.subset hn);have same:ψ=0->ej vs=ej j:=λk0=>by obtain⟨q1,q2⟩:=h0 k0;rw[q1]at ei l2;rw[q2]at f';rw[f6 (by simp at l2;omega) (by simp at l2;omega)];exact Rs.ok.inj (Sd (f'.symm.trans ei))
 have pA:=wO (t:=s) a;have r1:bL (St (.tup k) c m h Θ i) [.inr 0,.inl (à s b p O),.inl (.str X),.inl (.int f)]=Z (.ok (.inl (.str x)) [kc (.tup k) c m j f,kc (.tup k) c m h i,kc (.tup k) 20 20 Θ i]):=tW (c:=0) rfl pA (Α:=.str X) rfl ev (show i<=f by omega) eR ei f1;have r2:bL [kc (.tup k) c m j f,kc (.tup k) c m h i,kc (.tup k) 20 20 Θ i] [.inr 1,.inl (à s b p O),.inl (.str X),.inl (.int f)]=Z (.ok (.inl (.str x)) [kc (.tup k) c m j f,kc (.tup k) c m j f,kc (.tup k) 20 20 Θ i]):=tW (c:=1) rfl pA (Α:=.str X) rfl ev (show i<=f by omega) eR ei f1;have r3:bL [kc (.tup k) c m j f,kc (.tup k) c m j f,kc (.tup k) 20 20 Θ i] [.inr 2,.inl (à s b p O),.inl (.str X),.inl (.int f)]=Z (.ok (.inl (.str xw)) (St (.tup k) c m j vs f)):=tW (c:=2) rfl pA (Α:=.str X) rfl v' (show i<=f by omega) eR f' g1;have q1:ce (St (.tup k) c m j vs f) [.inl (.tup k),.inr 0,.inl (à t r q v),.inl (.int f)]=Z (.ok (.inl (.bl L)) [kc (.tup k) c m (j.map (ā nr t r q f)) f,kc (.tup k) c m j f,kc (.tup k) 20 20 vs f]):=vL (c:=0) rfl B Jz (by omega) E a' g' (by omega) (by omega);have q2:ce [kc (.tup k) c m (j.map (ā nr t r q f)) f,kc (.tup k) c m j f,kc (.tup k) 20 20 vs f] [.inl (.tup k),.inr 1,.inl (à t r q v),.inl (.int f)]=Z (.ok (.inl (.bl L)) (St (.tup k) c m (j.map (ā nr t r q f)) vs f)):=vL (c:=1) rfl B Jz (by omega) E a' g' (by omega) (by omega);obtain⟨A,d'⟩:∃y:Option Uv,y=Z (.inl (.int (ψ:Nat))):=⟨_,rfl⟩;refine⟨j.map (ā nr t r q f),vs,f,Z (.inl (.int z)),Z (.inl (à s b p O)),Z (.inl (.str X)),Z (.inl (.str x)),Z (.inl (ej j)),Z (.inl (à t r q v)),?_,EY Jz (by omega),by rw[E_];omega,J3,by omega,λn hn=>by obtain⟨y,hy,rfl⟩:=R7.mp hn;rw[(pP y).2.2.2.2.2.1];exact E y hy,by omega,by omega⟩;rw[<-d'];unfold mC;refine N_ (aA (bA (a:=Q o (.tup k) c m i A (Z (.inl (.int z))) U U U U U) (u:=.inl (.int z)) (aj (n:=.int z) (by rw[d',hz];rfl) rfl) rfl)) ?_;refine N_ (aA (bA (a:=Q o (.tup k) c m f A (Z (.inl (.int z))) U U U U U) (u:=.inl (.int f)) (aj (n:=.int f) ((bg (n:=.int i) (ξ:=.int d) rfl (pH ae (a:=.scr o) (b:=.int z) (c:=.int 5) rfl rfl rfl e0)).trans (by rw[hn];rfl)) rfl) rfl)) ?_;refine N_ (aA (bA (a:=Q o (.tup k) c m f A (Z (.inl (.int z))) (Z (.inl (à s b p O))) U U U U) (u:=.inl (à s b p O)) (aj (n:=à s b p O) (cg eZ (a:=.scr o) (b:=.int (z+1)) rfl rfl eA) pA) rfl)) ?_;refine N_ (aA (bA (a:=Q o (.tup k) c m f A (Z (.inl (.int z))) (Z (.inl (à s b p O))) (Z (.inl (.str X))) U U U) (u:=.inl (.str X)) (aj (n:=.str X) (d5 fJ (pH ez (a:=.scr o) (b:=.int (z+10)) (c:=.str b) rfl rfl rfl eG) eX) rfl) rfl)) ?_;have ar:∀(S:ä)(y:Option Uv),bw (aD (Y 10)) (bw (aD (Y 11)) (bw (aD (Y 7)) lZ)) S (Q o (.tup k) c m f A (Z (.inl (.int z))) (Z (.inl (à s b p O))) (Z (.inl (.str X))) y U U)=Z (.ok [.inl (à s b p O),.inl (.str X),.inl (.int f)] S):=λS y=>aT (aj (n:=à s b p O) rfl pA) (aT (aj (n:=.str X) rfl rfl) (aT (aj (n:=.int f) rfl rfl) rfl));refine N_ (aA (bA (a:=Q o (.tup k) c m f A (Z (.inl (.int z))) (Z (.inl (à s b p O))) (Z (.inl (.str X))) (Z (.inl (.str x))) U U) ((cX (ψ:=0) (a:=[.inl (à s b p O),.inl (.str X),.inl (.int f)]) (dh rfl) rfl (ar _ U) rfl).trans r1) rfl)) ?_;refine N_ (aA (gY (N_ (Bb (wP (lr (ξ:=.str x) ((cX (ψ:=1) (a:=[.inl (à s b p O),.inl (.str X),.inl (.int f)]) (dh rfl) rfl (ar _ _) rfl).trans r2) rfl (Qj hx)))) (dG (bd ((bg (mL (c:=0) (i:=f) (h:=j) (n:=.tup k) (m:=c) (ψ:=m) rfl rfl) (mL (c:=1) (i:=f) (h:=j) (n:=.tup k) (m:=c) (ψ:=m) rfl rfl)).trans (DE Jz.g))))))) ?_;refine N_ (aA (fX ((cX (ψ:=2) (a:=[.inl (à s b p O),.inl (.str X),.inl (.int f)]) (dh rfl) rfl (ar _ _) rfl).trans r3))) ?_;refine N_ (aA (bA (a:=Q o (.tup k) c m f A (Z (.inl (.int z))) (Z (.inl (à s b p O))) (Z (.inl (.str X))) (Z (.inl (.str x))) (Z (.inl (ej j))) U) (u:=.inl (ej j)) (aj (mL (c:=0) (i:=f) (n:=.tup k) (m:=c) (ψ:=m) rfl rfl) (m5 j)) rfl)) ?_;refine N_ (aA (gY (dG (Qk rfl Jz (by omega) E (by omega) (by omega))))) ?_;refine N_ (aA (gY (dG (Ql f4 Jz.g)))) ?_;refine N_ (aA (gY (dG (Qm B (Jz.jar (by omega)) f3 f5)))) ?_;refine N_ (aA (gY (dG (by rw[d'];exact Qn (ψ:=ψ) (Θ:=vs) rfl Jz.g same)))) ?_;refine N_ (aA (bA (a:=Q o (.tup k) c m f A (Z (.inl (.int z))) (Z (.inl (à s b p O))) (Z (.inl (.str X))) (Z (.inl (.str x))) (Z (.inl (ej j))) (Z (.inl (à t r q v)))) (u:=.inl (à t r q v)) (aj (n:=à t r q v) (cg eZ (a:=.scr o) (b:=.int (z+30)) rfl rfl w') (wO a')) rfl)) ?_;have br:∀(S:ä)(e:Nat)(n:Nat),(Q o (.tup k) c m f A (Z (.inl (.int z))) (Z (.inl (à s b p O))) (Z (.inl (.str X))) (Z (.inl (.str x))) (Z (.inl (ej j))) (Z (.inl (à t r q v))))[e]?=Z (Z (.inr n))->bw (aD (Y 1)) (bw (iS e) (bw (aD (Y 14)) (bw (aD (Y 7)) lZ))) S (Q o (.tup k) c m f A (Z (.inl (.int z))) (Z (.inl (à s b p O))) (Z (.inl (.str X))) (Z (.inl (.str x))) (Z (.inl (ej j))) (Z (.inl (à t r q v))))=Z (.ok [.inl (.tup k),.inr n,.inl (à t r q v),.inl (.int f)] S):=λS e n hi=>aT (aj (n:=.tup k) rfl (QZ B)) (aT (dh hi) (aT (aj (n:=à t r q v) rfl (wO a')) (aT (aj (n:=.int f) rfl rfl) rfl)));exact gY (N_ (Bb (tV (wP (pR (br _ 4 0 rfl) rfl q1)))) (tV (wP (pR (br _ 5 1 rfl) rfl q2))))
def NB{t:List N}{e m:Nat}{E:List Int}(hl:E.length<=63)(ht:t∈gH Ü)(e1:1<=e)(e4:e<=4)(m1:1<=m)(m6:m<=6):∀(r k:Nat)(c d:List ax)(now:Int)(B A v u s p o:Option Uv),k+r<=6->JS now c->c.length<=6->JS now d->d.length<=k->(k=0->c=[]/\d=[])->(∀n∈c,ã n now=D)->0<=now->now<=4*k->∃b f' a y8 y j i h g f,mR 8 [8,9,10,11,12,13,14] mC 0 1 r k (St (.tup t) e m c d now) (Q E (.tup t) e m now B A v u s p o)=Z (.nx (Q E (.tup t) e m a y8 y j i h g f) (St (.tup t) e m b f' a))/\JS a b/\b.length<=6/\(∀n∈b,ã n a=D)/\0<=a/\a<=24|0,k,c,d,now,B,A,v,u,s,p,o,hk,Js,P,Jw,wl,h0,w,H,n1=>⟨c,d,now,U,U,U,U,U,U,U,rfl,Js,P,w,H,by omega⟩|r+1,k,c,d,now,B,A,v,u,s,p,o,hk,Js,P,Jw,wl,h0,w,H,n1=>by obtain⟨j1,w1,n',y,j,i,h,g,f,q1,J1,l1,K1,g',h',m0,mm⟩:=Qo hl ht (by omega) e1 e4 m1 m6 Js P Jw wl h0 H n1;obtain⟨j2,w2,n2,z8,z9,e',d',c',b',a',q2,q⟩:=NB hl ht e1 e4 m1 m6 r (k+1) j1 w1 n' (Z (.inl (.int (k:Nat)))) y j i h g f (by omega) J1 l1 K1 g' (λz=>by omega) h' m0 mm;refine⟨j2,w2,n2,z8,z9,e',d',c',b',a',N_ (II ?_) q2,q⟩;rw[show(0:Int)+(k:Int)*1=((k:Nat):Int)by omega];exact q1
def IJ(a:A ζ=Z (.ok (ej h))):cV A ζ=Z (.ok (h.map Ó)):=by unfold cV;rw[a];rfl
def IK:(En.all λh=>ŀ h h)=L:=by lk
def QE(o:List Int)(T:N)(e m:Nat)(j:Int)(n k i h g f d c b a:Option Uv):þ:=[Z (.inl (.scr o)),Z (.inl T),Z (.inl (.int e)),Z (.inl (.int m)),Z (.inr 0),Z (.inr 1),Z (.inr 2),Z (.inl (.int j)),n,k,i,h,g,f,d,c,b,a]
def IL{o:List Int}{s r j g f e d:Option Uv}(hl:o.length<=63)(B:JS i h)(jl:h.length<=6)(v:∀n∈h,ã n i=D)(n0:0<=i)(n1:i<=200):∃S',dt pD (dt pC (dt pB (dt pv (dt pq (oR (aD (I ß (bY [("_law_house",15)] (cV (cO 0 aH (Y 4))) (Z (fB (I ß (I Ì (Y 0) (X 2)) (Y 1)))) (Y 0)) (ib dZ)))))))) (St (.tup k) c m h Θ i) (QE o (.tup k) c m i s r j g f e d U U U)=Z (.rt (.inl (.bl L)) S'):=by
 obtain⟨a,hh,eN⟩:=pF o hl 13;have u:=me hh;obtain⟨b,p⟩:∃b,b=Ċ h 9999:=⟨_,rfl⟩;have A:JS i b:=by rw[p];exact B.filt _
 have lv:b.length<=6:=by rw[p];exact RZ vy jl
 have P:eU (St (.tup k) c m h Θ i) [.inr 0,.inl (.int i)]=Z (.ok (.inl (.bl L)) [kc (.tup k) c m b 9999,kc (.tup k) c m h i,kc (.tup k) 20 20 Θ i]):=by rw[p];exact DG (c:=0) rfl B (by omega) v n0 n1
 have ef:=vJ A (by omega) u;have Jf:JS i (j4 b a):=A.filt _;have lf:(j4 b a).length<=b.length:=SX _ _;have t:=vJ Jf (by omega) u;have same:j4 (j4 b a) a=j4 b a:=by unfold j4;rw[Vz];congr 1;funext n;simp
 rw[same]at t;have H:bQ [kc (.tup k) c m b 9999,kc (.tup k) c m h i,kc (.tup k) 20 20 Θ i] [.inr 0,.inl (.str a)]=Z (.ok (.inl (.int ((b.length:Int)-((j4 b a).length:Int)))) [kc (.tup k) c m (j4 b a) 9999,kc (.tup k) c m h i,kc (.tup k) 20 20 Θ i]):=oh (c:=0) rfl ef;have E:bQ [kc (.tup k) c m (j4 b a) 9999,kc (.tup k) c m h i,kc (.tup k) 20 20 Θ i] [.inr 0,.inl (.str a)]=Z (.ok (.inl (.int (((j4 b a).length:Int)-((j4 b a).length:Int)))) [kc (.tup k) c m (j4 b a) 9999,kc (.tup k) c m h i,kc (.tup k) 20 20 Θ i]):=oh (c:=0) rfl t;refine⟨[kc (.tup k) c m (j4 b a) 9999,kc (.tup k) c m h i,kc (.tup k) 20 20 Θ i],?_⟩;refine N_ (aA (gY (N_ (Bb (dG (bd ((bg (Qh (c:=2) (a:=6) (n:=.tup k) (m:=20) (ψ:=20) (h:=Θ) rfl rfl) (ξ:=.int i) rfl).trans (DD _))))) (tV (wP (pR (a:=[.inr 0,.inl (.int i)]) (aT (dh rfl) (aT (aj (n:=.int i) rfl rfl) rfl)) rfl P)))))) ?_;refine N_ (aA (bA (a:=QE o (.tup k) c m i s r j g f e d (Z (.inl (.str a))) U U) (u:=.inl (.str a)) (aj (n:=.str a) (cg aX (a:=.scr o) (b:=.int 13) rfl rfl eN) rfl) rfl)) ?_;refine N_ (aA (bA (a:=QE o (.tup k) c m i s r j g f e d (Z (.inl (.str a))) (Z (.inl (.int (b.length:Nat)))) U) (u:=.inl (.int (b.length:Nat))) (aj ((ci (ac (mL (c:=0) (n:=.tup k) (m:=c) (ψ:=m) (i:=9999) rfl rfl) aw)).trans (Ba b)) rfl) rfl)) ?_;have z:∀(S:ä)(x y:Option Uv),bw (aD (Y 15)) lZ S (QE o (.tup k) c m i s r j g f e d (Z (.inl (.str a))) x y)=Z (.ok [.inl (.str a)] S):=λS x y=>aT (aj (n:=.str a) rfl rfl) rfl;refine N_ (aA (bA (a:=QE o (.tup k) c m i s r j g f e d (Z (.inl (.str a))) (Z (.inl (.int (b.length:Nat)))) (Z (.inl (.int ((b.length:Int)-((j4 b a).length:Int)))))) ((cX (ψ:=0) (a:=[.inl (.str a)]) (dh rfl) rfl (z _ _ _) rfl).trans H) rfl)) ?_;refine N_ (aA (gY (N_ (Bb (dG (bd ((bg (n:=.int ((j4 b a).length:Nat)) (ξ:=.int ((b.length:Int)-((b.length:Int)-((j4 b a).length:Int)))) ((ci (ac (mL (c:=0) (n:=.tup k) (m:=c) (ψ:=m) (i:=9999) rfl rfl) aw)).trans (Ba _)) ((bg (n:=.int (b.length:Nat)) (ξ:=.int ((b.length:Int)-((j4 b a).length:Int))) rfl rfl).trans rfl)).trans (by rw[show(b.length:Int)-((b.length:Int)-((j4 b a).length:Int))=((j4 b a).length:Nat)by omega];exact DD _))))) (wP (lr (ξ:=.int 0) ((cX (ψ:=0) (a:=[.inl (.str a)]) (dh rfl) rfl (z _ _ _) rfl).trans E) rfl (by rw[show((j4 b a).length:Int)-((j4 b a).length:Int)=0 by omega];exact DD _)))))) ?_;refine kz (aj (n:=.bl L) ?_ rfl);have w:(bY [("_law_house",15)] (cV (cO 0 aH (Y 4))) (Z (fB (I ß (I Ì (Y 0) (X 2)) (Y 1)))) (Y 0)) (ć [kc (.tup k) c m (j4 b a) 9999,kc (.tup k) c m h i,kc (.tup k) 20 20 Θ i] (QE o (.tup k) c m i s r j g f e d (Z (.inl (.str a))) (Z (.inl (.int (b.length:Nat)))) (Z (.inl (.int ((b.length:Int)-((j4 b a).length:Int)))))))=Z (.ok (.lst (((j4 b a).filter λn=>uk (n.house=a)).map Ó))):=iM Ó (λn=>uk (n.house=a)) Ó (IJ (mL (c:=0) (n:=.tup k) (m:=c) (ψ:=m) (i:=9999) rfl rfl)) (by omega) λn hn=>⟨bd ((bg (n:=.str n.house) (ξ:=.str a) rfl rfl).trans (AN _ _)),rfl⟩;rw[show(j4 b a).filter (λn=>uk (n.house=a))=[]from by
 unfold j4;rw[Vz];refine List.filter_eq_nil_iff.mpr λn _=>?_;by_cases q:n.house=a;·rw[q,aR (p:=λa=>ŀ a a) IK u];simp
 ·simp[q]]at w;exact(bg w (ξ:=.lst []) rfl).trans rfl
end J
open L2 FD
open J
def DI(a:List Int)(g:a.length<=63):wJ [.scr a]=Z (.ok (.bl L)):=by
 obtain⟨t,i,eT⟩:=Da a g;have hT:=fK i;have f:=QZ i;obtain⟨d,d0,d1,e0⟩:=bJ a g 12 7 (by omega);obtain⟨k,e',d',ee⟩:=bJ a g 10 4 (by omega);obtain⟨j,c',b',P⟩:=bJ a g 11 6 (by omega);obtain⟨e,H⟩:∃e:Nat,(e:Int)=1+k:=⟨1+k.toNat,by omega⟩;obtain⟨m,E⟩:∃m:Nat,(m:Int)=1+j:=⟨1+j.toNat,by omega⟩;suffices h:∃v,wI [] [Z (.inl (.scr a)),U,U,U,U,U,U,U,U,U,U,U,U,U,U,U,U,U]=Z (.rt (.inl (.bl L)) v)by obtain⟨v,h⟩:=h;unfold wJ NR;show(match wI [] [Z (.inl (.scr a)),U,U,U,U,U,U,U,U,U,U,U,U,U,U,U,U,U]with|some (.rt (.inl d) _)=>Z (Rs.ok d)|_=>U)=_;rw[h]
 obtain⟨a',s,w,z,y,r,q,p,o,n,eL,Jl,B,u,A,mm⟩:=NB (e:=e) (m:=m) g i (by omega) (by omega) (by omega) (by omega) d.toNat 0 [] [] 0 U U U U U U U (by omega) JS.nil (by simp) JS.nil (by simp) (λ_=>⟨rfl,rfl⟩) (by simp) (W3 _) (by simp);obtain⟨S2,eE⟩:=IL (k:=t) (Θ:=s) (c:=e) (m:=m) (s:=z) (r:=y) (j:=r) (g:=q) (f:=p) (e:=o) (d:=n) g Jl B u A (by omega);refine⟨S2,?_⟩;unfold wI;refine N_ (aA (bA (a:=[Z (.inl (.scr a)),Z (.inl (.tup t)),U,U,U,U,U,U,U,U,U,U,U,U,U,U,U,U]) (u:=.inl (.tup t)) (aj (n:=.tup t) (cg eC (a:=.scr a) (b:=.int 0) rfl rfl eT) f) rfl)) ?_;refine N_ (aA (bA (a:=[Z (.inl (.scr a)),Z (.inl (.tup t)),Z (.inl (.int e)),U,U,U,U,U,U,U,U,U,U,U,U,U,U,U]) (u:=.inl (.int e)) (aj (n:=.int e) ((bg (n:=.int 1) (ξ:=.int k) rfl (pH ae (a:=.scr a) (b:=.int 10) (c:=.int 4) rfl rfl rfl ee)).trans (by rw[H];rfl)) rfl) rfl)) ?_;refine N_ (aA (bA (a:=[Z (.inl (.scr a)),Z (.inl (.tup t)),Z (.inl (.int e)),Z (.inl (.int m)),U,U,U,U,U,U,U,U,U,U,U,U,U,U]) (u:=.inl (.int m)) (aj (n:=.int m) ((bg (n:=.int 1) (ξ:=.int j) rfl (pH ae (a:=.scr a) (b:=.int 11) (c:=.int 6) rfl rfl rfl P)).trans (by rw[E];rfl)) rfl) rfl)) ?_;have c:e<=20:=by omega
 have b:m<=20:=by omega
 refine N_ (aA (Æ:=[kc (.tup t) e m [] 0]) (bA (u:=.inr 0) (a:=[Z (.inl (.scr a)),Z (.inl (.tup t)),Z (.inl (.int e)),Z (.inl (.int m)),Z (.inr 0),U,U,U,U,U,U,U,U,U,U,U,U,U]) (pQ (η:=[]) hT f c b (aT (aj (n:=.tup t) rfl f) (aT (aj (n:=.int e) rfl rfl) (aT (aj (n:=.int m) rfl rfl) rfl)))) rfl)) ?_;refine N_ (aA (Æ:=[kc (.tup t) e m [] 0,kc (.tup t) e m [] 0]) (bA (u:=.inr 1) (a:=[Z (.inl (.scr a)),Z (.inl (.tup t)),Z (.inl (.int e)),Z (.inl (.int m)),Z (.inr 0),Z (.inr 1),U,U,U,U,U,U,U,U,U,U,U,U]) (pQ (η:=[kc (.tup t) e m [] 0]) hT f c b (aT (aj (n:=.tup t) rfl f) (aT (aj (n:=.int e) rfl rfl) (aT (aj (n:=.int m) rfl rfl) rfl)))) rfl)) ?_;refine N_ (aA (Æ:=St (.tup t) e m [] [] 0) (bA (u:=.inr 2) (a:=[Z (.inl (.scr a)),Z (.inl (.tup t)),Z (.inl (.int e)),Z (.inl (.int m)),Z (.inr 0),Z (.inr 1),Z (.inr 2),U,U,U,U,U,U,U,U,U,U,U]) (pQ (η:=[kc (.tup t) e m [] 0,kc (.tup t) e m [] 0]) (c:=20) (m:=20) hT f (by omega) (by omega) (aT (aj (n:=.tup t) rfl f) (aT (aj (n:=.int ((20:Nat):Int)) rfl rfl) (aT (aj (n:=.int ((20:Nat):Int)) rfl rfl) rfl)))) rfl)) ?_;refine N_ (aA (bA (a:=Q a (.tup t) e m 0 U U U U U U U) (u:=.inl (.int 0)) (aj (n:=.int 0) rfl rfl) rfl)) ?_;refine N_ (aA (DH (i:=0) (a:=1) (m:=d.toNat) (NA ?_ (by omega)) eL)) eE;rw[show((d.toNat:Nat):Int)=d by omega];exact ac (pH ae (a:=.scr a) (b:=.int 12) (c:=.int 7) rfl rfl rfl e0) aw
def walk{l:YG}{B:(Str->Option R)->M_->Prop}{i:z_->M_->Prop}{d:DefRec}{K:W7->d_}(t:l.most=Z 63)(j:d.params.defaults=[])(A:∀(w:z_)(h:M_),i w h->(K w.params).In h)(k:∀(w:z_)(h:M_),i w h->h.get? e=Z {cls:=.none,data:=.fields #[]}/\Y0 h e/\(K w.params).lookup e=U)(F:∀(w:z_)(g:Str->Option R)(o:O)(h:M_),(K w.params).In h->h.Ns H_ g->g d.name=Z (.ref o)->∃n:SO,(∀(s:g_)(u:R),ZV s n ⟨[u],[]⟩ [("_law_script",u)])/\∀c:M_,(K w.params).In c->c.Ns H_ g->ê l.prog w (K w.params) g c ù 12 o n ["_law_script"] (ų e qL (K w.params) wJ 1)):aaV q v B i l.row.toRowW d [] (λf p=>aaF f p):=CZ (c:=63) (m:=12) (b:="_law_script") (CX:=λ_=>ù) (sp:=λw=>ų e qL (K w.params) wJ 1) t (by decide) j ⟨rfl,by decide,by decide,rfl⟩ A k F (λ_ _ a m y hS hT=>⟨hT,[.scr m],⟨.ref a,[],rfl,⟨a,rfl,hS⟩,rfl⟩,rfl,by rw[DI m y];exactλb E _ r=>r⟩) λ_ _ _ _ _ z=>z
end G
variable{Θ:List G.J.ax}{Æ:FD.ä}
open PySem.W
set_option maxRecDepth 100000 in
theorem PySem.Challenge.cw_notejar_k71_whole_keepers_holds : PySem.Challenge.rw_notejar_k71_whole_keepers.Holds := by
 refine G.hld fun b=>?_;refine PySem.W.holds_open (q:=G.VQ) (loose:=G.VL) (Xt:=fun s=>recOk [] s) (XP:=fun _ _=>True) (Yf:=Hook.obs (aaZ G.KK G.KA G.KA_ok)) (Ya:=Hook.val (aaZ G.KK G.KA G.KA_ok)) (YP:=Hook.says (aaZ G.KK G.KA G.KA_ok)) (N:=10204) G.left (Hook.of (aaZ G.KK G.KA G.KA_ok)) (Hook.keeps (aaZ G.KK G.KA G.KA_ok)) (fun _ _=>trivial) (fun _ _ _ _ _=>trivial) (by rfl) (by rfl) (by rfl) (fun s e=>recFacts_of e) (by rfl) (by first | assumption | decide +kernel) (by decide +kernel) G.hbr ?hw ?hc
 (case hw=>w_witness2)
 refine G.walk (l:=r9_) rfl rfl (K:=G.KL) (e:=505) (fun w h Y=>G.KL_in (Y2 Y)) (fun w h Y=>⟨G.KT_in (Y2 Y),FD.ctB_tab (r:=508) (G.KL_in (Y2 Y)) (by lk),by lk⟩) ?F
 case F =>
  intro w f g h d c a;exact G.all_mk d c a (G.af 123 "notejar.kinds" 319) (G.af 532 "notejar.room" 901) (G.af 116 "notejar.kinds" 319) (G.af 137 "notejar.names" 344) (G.af 142 "notejar.names" 344) (G.af 149 "notejar.names" 344) (G.af 154 "notejar.names" 344) (G.af 168 "notejar.names" 344) (G.af 175 "notejar.names" 344) (G.af 400 "notejar.notes" 629) (G.af 436 "notejar.jars" 765) (G.af 431 "notejar.jars" 765) (G.af 243 "notejar.asks" 482) (G.af 250 "notejar.asks" 482) (G.af 285 "notejar.giving" 542) (G.af 215 "notejar.paths" 446) (G.af 297 "notejar.giving" 542) (G.af 130 "notejar.kinds" 319) (G.af 290 "notejar.giving" 542) (G.af 365 "notejar.notes" 629) (G.af 426 "notejar.jars" 765) (G.af 443 "notejar.jars" 765) (G.af 161 "notejar.names" 344) (G.af 460 "notejar.jars" 765) (G.af 180 "notejar.names" 344) (G.af 187 "notejar.names" 344) (G.af 194 "notejar.names" 344) (G.af 201 "notejar.names" 344) (G.af 208 "notejar.names" 344) (G.af 539 "notejar.room" 901) (G.af 570 "notejar.room" 901) (G.af 563 "notejar.room" 901) (G.af 575 "notejar.room" 901) (G.af 556 "notejar.room" 901) (G.af 318 "notejar.giving" 542) (G.af 325 "notejar.giving" 542) (G.af 330 "notejar.giving" 542) (G.af 386 "notejar.notes" 629) (G.af 372 "notejar.notes" 629) (G.af 337 "notejar.notes" 629) (G.af 344 "notejar.notes" 629) (G.af 264 "notejar.asks" 482) (G.af 271 "notejar.asks" 482) (G.af 304 "notejar.giving" 542) (G.af 311 "notejar.giving" 542) (G.af 257 "notejar.asks" 482) (G.af 222 "notejar.paths" 446) (G.af 229 "notejar.paths" 446) (G.af 379 "notejar.notes" 629) (G.af 278 "notejar.asks" 482) (G.af 351 "notejar.notes" 629) (G.af 358 "notejar.notes" 629) (G.af 393 "notejar.notes" 629) (G.af 465 "notejar.jars" 765) (G.af 407 "notejar.notes" 629) (G.af 455 "notejar.jars" 765) (G.af 236 "notejar.paths" 446) (G.af 491 "notejar.jars" 765) (G.af 484 "notejar.jars" 765) (G.af 496 "notejar.jars" 765) (G.af 472 "notejar.jars" 765) (G.af 479 "notejar.jars" 765) (G.af 652) (G.af 659) (G.af 666) (G.af 678) (G.af 685) (G.af 692) (G.af 414 "notejar.notes" 629) (G.af 421 "notejar.notes" 629) (G.af 503 "notejar.jars" 765) (G.af 508 "notejar.jars" 765) (G.af 513 "notejar.jars" 765) (G.af 450 "notejar.jars" 765) (G.af 525 "notejar.jars" 765) (G.af 518 "notejar.jars" 765) (G.af 706) (G.af 713) (G.af 671) (G.af 699) (G.af 551 "notejar.room" 901) (G.af 544 "notejar.room" 901) (FD.ck_mk (c:=0) (e:=641) (by lk) (by lk) (by lk) (by lk) (by lk) (by lk)) (G.amf 589 "notejar.keepers" 965 588) ⟨by lk,by lk,by lk,by lk⟩ (G.am (G.amf 603 "notejar.keepers" 965 602)) (G.am (G.amf 638 "notejar.keepers" 965 637)) (G.am (G.amf 610 "notejar.keepers" 965 609)) (G.am (G.amf 617 "notejar.keepers" 965 616)) (G.am (G.amf 596 "notejar.keepers" 965 595)) (G.am (G.amf 624 "notejar.keepers" 965 623)) (G.am (G.amf 631 "notejar.keepers" 965 630)) (G.af 718) (by lk) (by lk) (by lk)
#print axioms PySem.Challenge.cw_notejar_k71_whole_keepers_holds
