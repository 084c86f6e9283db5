import PyProof.Rows.All
import Wide.All
import OpenK.AllK
import Wide.FinOn
import Lean
import PyProof.EqAt
import PyProof.EqKinds
import PyProof.TupleCall
import PySem.SetTable
import PyProof.SetKind
import PyProof.TupleKey
import PyProof.DictKinds
import PyProof.Rows.SetFrom
import PyProof.ZipIter
import KE.KIntText
import PyProof.EnumIter
import PyProof.Rows.SortStr
import PyProof.Rows.SortWalk
import PyProof.Rows.MinMaxN
import PyProof.ConsumeWalk
import PyProof.CollectWalk
import PyProof.WalksMore
import PyProof.CollectStr
import PyProof.Rows.SortShellK
import PyProof.Rows.SortRunsK
import PyProof.SeqI3
import KE.KSortKey
import PyProof.Rows.CallKwBuiltin
import PyProof.SumAny
import KE.KLam
import PyProof.ReprRoads
import PyProof.StrLawsTight
import PyProof.Rows.StrDigits
import PySem.Challenge.RW_notejar_k53_whole_taken
open Option renaming some → a_, none → ck, isSome_iff_exists → MO, map_some → Nb, bind_eq_some_iff → NY, map_eq_some_iff → Og, all_some → OQ, getD_some → Sb, getD_none → Sd
open PySem.Str renaming ofString → b_, length → O_, join → SV, empty → S8
open PySem renaming wpAny_bind → c_, Value → g_, Shared → h_, wpAny_pure → j_, starEach → k_, Addr → l_, Program → rl, wpAny → v_, mainGlobals → z_, World → C_, Around → E_, model → F_, Expr → H_, Heap → KO, behindInMarks → KT, assignEach → KU, foldedSetIterable → K9, compareOp → K_, backTo → Lc, wpAny_mono → Lf, cellsFrom → Lh, wpAny_holding → Lp, FuncData → Lv, wpAny_setState_of → Lx, wpAny_field → LH, wpAny_seqItems → LJ, codeAny_builtin → LN, bootBuiltins → LO, wpAny_callSpecial?_slot → LS, reprText → LU, Stmt → L3, binaryOp → L5, Scope → L6, keywordEach → Mb, wpAny_truthy_bool → Me, wpAny_newObj_type → Mf, swapsWith → Mk, wpAny_Call_Name_kw → Ml, setSearchFrom → ML, mem_of_lookup → MP, wpAny_getItem_str_slice → MQ, wpAny_forIn_list → MR, wpAny_call_entry → MS, NameKind → MU, wpAny_setField_rec → M0, codeAny_mono → M1, closureFor → M3, assign → M4, wpAny_eqIsQuiet_tuple → Ni, wpAny_pyIter_list → Nn, Keyword → No, sizeLine_eq → Nt, call_meets → Nu, backToKw → Nv, codeAny → NC, Builtin → NF, attributeBase → NP, wpAny_passesOwn → NS, unsupported → NV, sliceBounds → NW, wpAny_typeOf → N4, wpAny_storeSet_of → N5, searchCouldBeSeen → N6, ofAClassStatement → N7, holding → N8, IsPair → Oa, GenState → Oc, wpAny_rule → Ou, typeIs_str → Ov, post_val_or_str → OI, letOwnedTupleGo → OJ, codeAny_of_tree → OK, Params → OL, PassesOwn → O3, wpAny_pyIter_tuple → O5, wpAny_newFunctionEnv_cells → O6, wpAny_comprehension_free → Pu, wpAny_attempt → Pv, pyNext → Pw, plainId_quiet → Px, noFill_tuple_add → PD, codeAmong → PF, setAddHashed → P0, notedBy → P6, getItem → P7, IsPart → P_, wpAny_execs_nil → Qg, importedModules → Qh, weight_type_call_type → Qq, wpAny_updateSeq_pair → Qv, wpAny_runValue → Qw, rawInt → Qx, newFunctionEnv → Qy, lookup_relabel_local → Qz, isCodeTable → QC, hashByValue → QD, codeAny_call_builtin → QE, bindArgs → QF, Result → QM, IsZip → QN, treeTable → QY, callerA → QZ, BindsTo → Q0, wpAny_standAt → Ri, wpAny_onRaise → Rj, wpAny_newList → Rk, swapsWithSole → Rl, swappedStores → Rm, seq_tuple_add → Rn, Model → Rq, wpAny_call → Rt, list_append → RI, concat_meets → RJ, compEnvC → RK, putSet_of → R0, TriplesOk → R5, Thread → R6, Fin → Sa, wpAny_of_eq → Si, wpAny_mkInt → Sj, wpAny_letGo → Sk, wpAny_alloc → Sl, subscripted → Sm, strIterType → Sn, seqIndex_of → So, storeSet → SG, setRelay → SH, isSame → SI, intText? → SJ, field → SK, call → SL, boot_len → SN, bindL → SO, bindC → SQ, ZipApart → SR
open Bool renaming true → d_, false → e_, and_eq_true → pi, false_eq_true → p_, false_ne_true → xy, and_eq_true_iff → Lg, eq_iff_iff → Lm, not_true → LM, not_eq_true' → L0, not_false → Ms, beq_eq_decide_eq → Nm, and_false → Op, and_self → Rr, not_not → RX, or_eq_true → Sz
open PySem.W renaming Frag → f_, kia_one → LC, keepIn → LK, emptyDict → LY, nsIn → L9, instObj → My, kitOne → MT, fnOf → M5, kla_obj → Na, mg_of → Nf, hideAll_none → Nw, cellsFrom_some → N9, hideAll_get → OS, of_hideAll → O7, codeIn → O8, methodObj → Pq, absHeap → P8, OpenLaw → Qi, lookIn → QG, kla_fn → QH, kIn_of → QI, pyHash_slot → Q2, excIn → Ro, kitx_list → RL, kitx_dict → RM, plainGet → R1, hideAll → Ss, through → SD, openEnds → SS, findIn → SU, WalkO → S3, kHook → S6
open PySem.Heap renaming get?_push_of_some → i_, get?_push_size → t_, lt_size → w_, size_push → K8, get?_update_ne → L1, SameBut → ME, get?_update_self → Nj, get?_update_other → Ob, get?_none_of_le → OF, size_update → R_
open List renaming mem_append_right → m_, mem_cons_of_mem → n_, mem_cons_self → on, range → o_, mem_cons → s_, replicate → y_, size_toArray → A_, getElem?_eq_getElem → B_, mem_append → D_, mem_append_left → G_, not_mem_nil → I_, mem_singleton → KN, getElem?_eq_some_iff → KQ, length_map → KR, length_append → KS, mem_map → KY, map_cons → K0, getElem?_map → La, pairwise_cons → Le, lookup_cons → Li, mem_range → Lk, mem_filter → Ll, getElem?_set_ne → Lq, getElem?_set_self → Lu, append_nil → LD, all_eq_true → LF, replicate_succ → LG, map_append → LP, length_set → LQ, getElem?_append_right → LZ, getElem?_append_left → L4, set_cons_zero → Mp, set_cons_succ → Mq, lookup_append → Mr, length_filter_le → Mv, reverse_cons → MG, mem_of_getElem? → MH, flatten_cons → MI, append_assoc → MJ, length_eq_zero_iff → MW, length_cons → MX, any_eq_true → MY, filter_eq_nil_iff → M_, nodup_cons → Nd, all_cons → Nh, length_replicate → Nk, getElem?_eq_none → Nl, perm_append_singleton → NA, getD_eq_getElem?_getD → NB, pairwise_iff_getElem → NK, reverse_append → NM, getElem?_range → NN, filterMap_cons → NO, filterMap_map → NU, pairwise_singleton → NZ, getElem?_replicate → N0, getElem?_cons_succ → N1, getD → N2, take_of_length_le → Ol, map_map → Om, length_range → On, any_eq_false → Oo, length_drop → Oz, getElem_mem → OA, drop_length → OB, any_cons → OE, length → OH, of_mem_zip → OR, attach_map_subtype_val → O2, mem_filterMap → Pl, getElem?_drop → Pm, forIn_nil → Pn, pairwise_map → Ps, getElem?_take_of_lt → PC, pmap_eq_map_attach → PU, length_take → PV, filter_cons_of_pos → PX, filter_cons_of_neg → PY, range_succ_eq_map → Qd, pairwise_lt_range → Qe, range_succ → Qk, nil_append → Ql, forIn_cons → Qm, foldl_cons → Qn, take_append_drop → Qs, length_singleton → Qt, filterMap_eq_map → Qu, pairwise_append → QT, mem_iff_getElem → QU, drop_zero → QV, toList_toArray → Rf, filter_sublist → Rg, filter_eq_self → Rh, getElem?_pmap → RD, foldl → RE, filter_append → RF, nodup_append → RU, ext_getElem? → RV, zipIdx_cons → Se, mem_reverse → Sf, getElem_inj → Sg, zipIdx_nil → Sx, all_append → Sy
open PySem.Value renaming ref → q_, type → x_, none → KW, bool → Lj, builtin → MM, str → ND, isStrOf_shape → Q3, int → R3
open Nat renaming le_refl → r_, lt_of_lt_of_le → J_, ne_of_lt → KP, zero_le → K3, le_trans → K5, eq_of_beq_eq_true → Lb, lt_irrefl → LX, le_add_right → L8, ne_of_beq_eq_false → Mi, le_of_ble_eq_true → Mu, le_of_lt_succ → MF, ne_of_gt → M9, not_lt_zero → Nc, lt_succ_of_lt → Nq, le_succ → Nz, zero_add → NG, le_of_lt → NH, beq → NI, succ_pos → Oi, le_of_eq → Oj, lt_succ_self → Oy, mod_lt → Pk, min_le_right → PQ, add_sub_cancel_left → PR, add_left_cancel → Re, mul_comm → RS, lt_trans → RT, ble → SE
open PySem.SetTable renaming insertAt → uk, insertAt_perm → M6, grown → Ny, tooFull → Ow, fill → Pz, turns → Qj, sameMemory → Q4, leap → Rp, gaveWay → R7, advance → R8, relaid → Su, runEnd → SW, probe → SX, layClean → SY, fits → S4
open Decidable renaming decide → u_
open Option.some renaming inj → KZ, injEq → Np
open PySem.Txt renaming startswith → K1, stripChars → Mc, partition → Mj, split → Mz, join → Nx, endswith → OW, slice_le → P9, slice → R4, rfind → S7
open PySem.Builtin.Str renaming occurrences → K2, strKind → Mg, glued → RO
open Array renaming length_toList → K4, getElem?_eq_some_iff → Lo, mem_toList_iff → LB, forIn_toList → Mt, size_map → MZ, getD_eq_getD_getElem? → Nr, toList_push → Oq, size_append → Os, getElem?_toList → Ot, append_assoc → Po, getElem?_eq_getElem → Pp, toList_filterMap → Qf, replicate → Qp, getElem?_map → RH, getElem_mem → RY, mem_filter → Sh
open PySem.PyData renaming canLay0 → K6, eqv → Ld, strOk → Ly, canLayAll0 → LI, eqvAll → L_, depthAll → MB, depth → N_, shownAll → Sw
open PySem.Obj renaming mapSeq → K7, putSet → Mm, mk → M7, data_mapFields → Ry
open PyProof.Rows renaming slot_tuple_getitem → Ln, callWith_type1 → Lz, seqObj → LA, envOfC → M8, get?_update_seq → NT, SortSt → Of, callWith_builtin1 → Ox, listUpdate_at → OD, arrOf → OT, AllBare → OZ, pendingOf → PP, subscriptTail_builtinR → Qa, listItems_at → Qb, IntsAre → Qc, SortKind → QS, failedOf → RP, Keyed → RQ, IsTup → S0
open PySem.Builtin.SmallTypes renaming nextOf → Lr, ownedTupleIsFree → LL, ownedTupleHandOut → NL
open PySem.F renaming called_set → Ls, slot_tuple_iterator_next → Mn, args_tuple_add_2 → NQ, entry_tuple_add → NX, slot_str_split → N3, slot_tuple_add → Oe, slot_list_append → OG, slot_zip_next → OM, plain_set_new → ON, args_tuple_iterator_next_1 → OO, entry_tuple_iterator_next → OX, excBase_ValueError → Pd, args_str_split_2 → Pe, entry_str_split → Pr, slot_str_partition → PJ, slot_list_index → PK, plainAttrs_list → PM, sub_list_frozenset → QO, args_list_append_2 → QP, entry_list_append → Rc
open False renaming elim → Lw
open Int renaming emod_lt_of_pos → LR, emod_nonneg → MD, lt_of_le_of_lt → RG, toNat_natCast → RW, le_refl → Sq
open PyProof.Rows.F renaming plain_set_update_loop → LV, entry_set_update_loop → MV
open PySem.NameKind renaming free → LW, cell → Ma
open PySem.ClassData renaming mk → L7
open PySem.Around renaming under_plainId → Md, under_plain → RC
open PySem.Heap.SameBut renaming update → Mh
open PySem.Builtin.Slice renaming slicePlaces → Mw, sliceAdjust → NJ, sliceApplied → Pi
open List.cons renaming injEq → MC
open List.Pairwise renaming nil → MK
open PySem.Builtin.Tuple renaming tupleExact → MN, tupleItemsOf → Ph
open PySem.Data renaming dict → Ng, cls → PN, fields → QQ
open PySem.Builtin.List renaming listTooLong → NR, listExtendWith → OY
open Ne renaming symm → Oh
open PySem.SetTable.layClean renaming free → OC
open PySem.Builtin.Frozenset renaming updateFrom → OP, newClass → Pj
open PySem.W.Fast renaming tw11892475500146522536 → OU, tw10156331382660048174 → OV, tw6613529449190102663 → O9
open True renaming intro → O4
open PySem.SeqAt.EqAt renaming str_int → Pb, int_str → Pc, none_bool → QJ, bool_none → QK, bool_bool → QL, str_none → Q5, str_bool → Q6, none_str → Q7, none_int → Q8, int_none → Q9, int_bool → Q_, bool_str → Ra, bool_int → Rb, str_str → Rv, int_int → Rw, same → Sv
open PySem.Code renaming quiet_builtin → Pf
open PySem.Calls renaming Name_function_global → Pg, evalArgs_plain → QR, spliced_cons → Rz, spliced_nil → RN
open PySem.Shared renaming TypeIs → Py
open PySem.SetTable.probe renaming go → PH
open And renaming intro → PZ
open ForInStep renaming yield → Qo
open PySem.StrLaws renaming glued_eq_join → Qr
open Sum renaming inr → QW, inl → QX
open LawfulBEq renaming eq_of_beq → Q1
open PySem.Walks renaming list → Ru
open PySem.P renaming str_of_int → Rx
open Std.Legacy renaming Range → RZ
open PySem.IsL renaming update → R9
open StateT renaming run_pure → Sr
open ToString renaming toString → SF
open PySem.SetFound renaming there → SZ
open List.Perm renaming swap → S1
open ForIn renaming forIn → S2
open Function renaming comp → S5
open PyProof.Rows.IsTup renaming new → S9
open PySem.SetTable.below renaming go → S_
set_option maxHeartbeats 4000000
set_option Elab.async false
namespace TR
open PySem PySem.W
def jy (tb:String→Option NF) (p:rl) (w:C_) (n₀:Nat) (ann:Option g_):Nat→SharedT→R6→Option SharedT
 | 0,_,_=>ck
 | n + 1,s,t=>match SD t with
  | true=>a_ s
  | false=>match stepOk n₀ ann t with
   | false=>ck
   | true=>match stepT (denote tb) p w s t with
    | some (s',t')=>jy tb p w n₀ ann n s' t'
    | none=>ck
def kg:List Obj→BT→Nat→Option (BT×Nat)
 | [],t,n=>a_ (t,n)
 | o :: os,t,n=>match ((t.ins n o).get n).isSome with
  | true=>kg os (t.ins n o) (n + 1)
  | false=>ck
def vQ (tb:String→Option NF) (p:rl) (w:C_) (N:Nat):Option h_:=(fencedOpening tb p w N).bind fun s₀=>match s₀.heap.isNs z_ && s₀.gens.size == 0 with
 | true=>(kg s₀.heap.objs.toList .nil 0).bind fun x=>(jy tb p w s₀.heap.objs.size (s₀.heap.nsMap z_ "__annotations__") N ⟨x.1,x.2,s₀.heap.life,s₀.gens,s₀.drawn,s₀.toks,s₀.os⟩ (topStub p)).bind fun sT=>match staticsOk (Qh p.main.body) s₀.heap sT.abs.heap && namesBound p sT.abs.heap && gensDone sT.abs && laidKept s₀.heap sT.abs.heap with
  | true=>a_ sT.abs
  | false=>ck
 | false=>ck
section
variable {tb:String→Option NF} {p:rl} {w:C_} {n₀:Nat} {ann:Option g_}
theorem jU:∀ (n:Nat) (s:SharedT) (t:R6) (s':SharedT),jy tb p w n₀ ann n s t=a_ s'→topRun tb p w n₀ ann n s.abs t=a_ s'.abs
 | 0,_,_,_,h=>by cases h
 | n + 1,s,t,s',h=>by
  unfold jy at h;unfold topRun;cases ht:SD t with
  | true=>rw [ht] at h; cases h; rfl
  | false =>
   rw [ht] at h;cases hk:stepOk n₀ ann t with
   | false=>rw [hk] at h; cases h
   | true =>
    rw [hk] at h;cases hs:stepT (denote tb) p w s t with
    | none=>rw [hs] at h; cases h
    | some x =>
     obtain ⟨s1,t1⟩:=x;rw [hs] at h;dsimp only at h ⊢;rw [stepT_spec hs];exact jU n s1 t1 s' h
theorem kh {life:Life}:∀ (os:List Obj) (t:BT) (n:Nat) (t':BT) (n':Nat),kg os t n=a_ (t',n')→(P8 t' n' life).objs=(P8 t n life).objs ++ os.toArray
 | [],t,n,t',n',h=>by cases h; simp
 | o :: os,t,n,t',n',h=>by
  unfold kg at h;cases e:((t.ins n o).get n).isSome with
  | false=>rw [e] at h; cases h
  | true =>
   rw [e] at h;rw [kh os _ _ _ _ h,absHeap_ins e];show (P8 t n life).objs.push o ++ os.toArray=_;simp
theorem qP {N:Nat} {s:h_} (h:vQ tb p w N=a_ s):SS tb p w N=a_ s:=by
 unfold vQ at h;unfold SS;obtain ⟨s₀,h0,h1⟩:=NY.mp h;rw [h0];show topFrom tb p w N s₀=a_ s;unfold topFrom;cases hc:(s₀.heap.isNs z_ && s₀.gens.size == 0) with
 | false=>rw [hc] at h1; cases h1
 | true =>
  rw [hc] at h1;dsimp only at h1 ⊢;obtain ⟨⟨t',n'⟩,h2,h3⟩:=NY.mp h1;obtain ⟨sT,h4,h5⟩:=NY.mp h3;have e:=kh (life:=s₀.heap.life) _ _ _ _ _ h2;have e2:P8 t' n' s₀.heap.life=s₀.heap:=by
   have e3:(P8 t' n' s₀.heap.life).objs=s₀.heap.objs:=by
    rw [e];show (P8 BT.nil 0 s₀.heap.life).objs ++ s₀.heap.objs.toList.toArray=_;simp [P8,BT.list]
   obtain ⟨⟨objs,life⟩,g,d,k,os⟩:=s₀;show Heap.mk _ _=Heap.mk _ _;exact congrArg (Heap.mk · life) e3
  have r:=jU _ _ _ _ h4;have ea:(SharedT.abs ⟨t',n',s₀.heap.life,s₀.gens,s₀.drawn,s₀.toks,s₀.os⟩)=s₀:=by
   show Shared.mk (P8 t' n' s₀.heap.life) _ _ _ _=s₀;rw [e2]
  rw [ea] at r;rw [r];exact h5
theorem rV {α:Type} {N:Nat} {f:h_→α} {a:α} (h:(vQ tb p w N).map f=a_ a):(SS tb p w N).map f=a_ a:=by
 obtain ⟨s,h1,h2⟩:=Og.mp h;rw [qP h1];exact congrArg a_ h2
end
noncomputable def Gp (tb:String→Option NF) (p:rl) (w:C_) (n₀:Nat) (ann:Option g_) (n:Nat):SharedT→R6→Option SharedT :=
 @Nat.rec (fun _=>SharedT→R6→Option SharedT) (fun _ _=>ck) (fun _ ih s t=>@Bool.rec (fun _=>Option SharedT) (@Bool.rec (fun _=>Option SharedT) ck (@Option.rec (SharedT×R6) (fun _=>Option SharedT) ck (fun x=>ih x.1 x.2) (OV (OU tb) p w s t)) (O9 n₀ ann t)) (a_ s) (SD t)) n
theorem rW {tb:String→Option NF} {p:rl} {w:C_} {n₀:Nat} {ann:Option g_}:∀ (n:Nat) (s:SharedT) (t:R6),Gp tb p w n₀ ann n s t=jy tb p w n₀ ann n s t
 | 0,_,_=>rfl
 | n + 1,s,t=>by
  show @Bool.rec (fun _=>Option SharedT) (@Bool.rec (fun _=>Option SharedT) ck (@Option.rec (SharedT×R6) (fun _=>Option SharedT) ck (fun x=>Gp tb p w n₀ ann n x.1 x.2) (OV (OU tb) p w s t)) (O9 n₀ ann t)) (a_ s) (SD t)=_;unfold jy;rw [← Fast.te10156331382660048174,← Fast.te11892475500146522536,← Fast.te6613529449190102663];cases SD t with
  | true=>rfl
  | false =>
   cases stepOk n₀ ann t with
   | false=>rfl
   | true =>
    cases stepT (denote tb) p w s t with
    | none=>rfl
    | some x=>exact rW n x.1 x.2
noncomputable def openQ (tb:String→Option NF) (p:rl) (w:C_) (N:Nat):Option h_:=(fencedOpening tb p w N).bind fun s₀=>match s₀.heap.isNs z_ && s₀.gens.size == 0 with
 | true=>(kg s₀.heap.objs.toList .nil 0).bind fun x=>(Gp tb p w s₀.heap.objs.size (s₀.heap.nsMap z_ "__annotations__") N ⟨x.1,x.2,s₀.heap.life,s₀.gens,s₀.drawn,s₀.toks,s₀.os⟩ (topStub p)).bind fun sT=>match staticsOk (Qh p.main.body) s₀.heap sT.abs.heap && namesBound p sT.abs.heap && gensDone sT.abs && laidKept s₀.heap sT.abs.heap with
  | true=>a_ sT.abs
  | false=>ck
 | false=>ck
theorem openQ_map {tb:String→Option NF} {p:rl} {w:C_} {α:Type} {N:Nat} {f:h_→α} {a:α} (h:(openQ tb p w N).map f=a_ a):(SS tb p w N).map f=a_ a:=by
 refine rV ?_;unfold openQ at h;unfold vQ;simp only [rW] at h;exact h
end TR
namespace G
open PySem PySem.W PyProof.Rows
noncomputable def hT (i:Nat):L3:=PySem.Challenge.pw_notejar_k53_whole_taken.main.body.getD i (.Pass ⟨0,0,0,0⟩)
noncomputable def hA (s:L3):Arguments:=match s with
 | .FunctionDef _ a _ _ _ _ _ _ _ _=>a
 | _=>{ posonlyargs:=[],args:=[],vararg:=ck,kwonlyargs:=[],kw_defaults:=[],kwarg:=ck,defaults:=[] }
noncomputable def hB (s:L3):List L3:=match s with
 | .FunctionDef _ _ b _ _ _ _ _ _ _=>b
 | _=>[]
noncomputable def hS (s:L3):L6:=match s with
 | .FunctionDef _ _ _ _ _ _ sc _ _ _=>sc
 | _=>{ kind:=.function,names:=[],isGenerator:=e_,isCoroutine:=e_ }
noncomputable abbrev kS (s:String) (t:Nat):g_:=.str (b_ s) t
noncomputable abbrev kR (a:Nat):g_:=.ref a
noncomputable abbrev kI (i:Int) (t:Nat):g_:=.int i t
noncomputable abbrev kE (P:OL) (s:String) (t:Nat) (v:g_):DictEntry:=⟨PySem.PyData.keyHash P (b_ s),.str (b_ s) t,v⟩
noncomputable def kF (x:String) (i:Nat) (m:String) (t c:Nat):Obj:=M7 (x_ "function") ck (Data.func (fnOf (b_ x) (b_ x) (hA (hT i)) (hB (hT i)) (hS (hT i)) .none KW KW (kS m t) ck (kR c) KW)) #[]
noncomputable def kF' (x:String) (i c:Nat):=kF x i "law_notejar_k53_whole_taken" 873 c
noncomputable def kC (x:String) (a b c:Nat) (d e f:Int) (g:Nat) (h:Int) (i j:Nat) (k l:Int) (m:Nat):Obj:=M7 (x_ "code") ck (QQ #[kS x a,kS x b,kS "/claim/cut.py" c,kI d 0,kI e 0,kI 0 0,kI 0 0,kI f 0,kR g,Lj d_,kI h 0,kR i,KW,KW,KW,kR j,kI k 0,kI l 0,kS "/claim/cut.py" m]) #[]
noncomputable def kD (x:String) (a b c:Nat) (d e f:Int) (g:Nat) (h:Int) (i u v j:Nat) (k l:Int) (m:Nat):Obj:=M7 (x_ "code") ck (QQ #[kS x a,kS x b,kS "/claim/cut.py" c,kI d 0,kI e 0,kI 0 0,kI 0 0,kI f 0,kR g,Lj d_,kI h 0,kR i,KW,kR u,kR v,kR j,kI k 0,kI l 0,kS "/claim/cut.py" m]) #[]
noncomputable def KKa (P:OL):Frag:=[(2,M7 KW ck (Ng #[]) #[]),
 (3,M7 (x_ "dict") ck (Ng #[kE P "__name__" 165 (kS "law_notejar_k53_whole_taken" 873),kE P "__doc__" 166 KW,kE P "__package__" 167 KW,kE P "__loader__" 168 (MM "__main__.__loader__#opaque"),kE P "__spec__" 169 KW,kE P "__annotations__" 170 (kR 6),kE P "__builtins__" 171 (kR 4),kE P "__file__" 173 (kS "/claim/cut.py" 172),kE P "__cached__" 174 KW,kE P "JarError" 206 (kR 24),kE P "NoTable" 222 (kR 37),kE P "NoPath" 238 (kR 49),kE P "NoAsk" 254 (kR 61),kE P "NoNote" 270 (kR 73),kE P "NoJar" 286 (kR 85),kE P "NoNumber" 302 (kR 97),kE P "is_text_of" 310 (kR 104),kE P "is_whole_number" 319 (kR 111),kE P "is_tuple_of" 327 (kR 118),kE P "FIGURES" 331 (kS "0123456789" 330),kE P "LABEL_SIGNS" 333 (kS "abcdefghijklmnopqrstuvwxyz0123456789-" 332),kE P "LONGEST_LABEL" 335 (kI 8 334),kE P "MOST_LABELS" 337 (kI 5 336),kE P "MOST_RULES" 339 (kI 8 338),kE P "is_label" 346 (kR 125),kE P "is_name" 352 (kR 130),kE P "is_rule" 359 (kR 137),kE P "is_table" 365 (kR 142),kE P "need_table" 372 (kR 149),kE P "lies_within" 380 (kR 156),kE P "ends_longest_first" 386 (kR 161),kE P "behind_first_dot" 393 (kR 168),kE P "is_told_open" 401 (kR 175),kE P "find_open_end" 411 (kR 182),kE P "find_own_end" 422 (kR 189),kE P "PATH_SIGNS" 426 (kS "abcdefghijklmnopqrstuvwxyz0123456789-_./" 425),kE P "LONGEST_PATH" 428 (kI 20 427),kE P "is_path" 435 (kR 196),kE P "need_path" 442 (kR 203),kE P "folder" 450 (kR 210),kE P "under" 458 (kR 217),kE P "lies_under" 466 (kR 224),kE P "LAST_MOMENT" 470 (kI 9999 469),kE P "ASK_SAFE" 472 (kI 0 471),kE P "ASK_HOUSE" 474 (kI 1 473),kE P "ASK_PATH" 476 (kI 2 475),kE P "ASK_ORIGIN" 478 (kI 3 477),kE P "ASK_PARTS" 480 (kI 4 479),kE P "is_moment" 487 (kR 231),kE P "is_moment_or_none" 494 (kR 238),kE P "need_moment" 501 (kR 245),kE P "is_ask" 508 (kR 252),kE P "need_ask" 515 (kR 259),kE P "comes_from_near" 526 (kR 266),kE P "NOTE_NAME_SIGNS" 530 (kS "abcdefghijklmnopqrstuvwxyzABCDEFGHIJKLMNOPQRSTUVWXYZ0123456789-_" 529),kE P "LONGEST_NOTE_NAME" 532 (kI 10 531),kE P "NO_WORTH_SIGNS" 534 (kS ";,=" 533),kE P "LONGEST_WORTH" 536 (kI 12 535),kE P "MOST_FIGURES" 538 (kI 4 537),kE P "GIVEN_NAME" 540 (kI 0 539),kE P "GIVEN_WORTH" 542 (kI 1 541),kE P "GIVEN_HOUSE" 544 (kI 2 543),kE P "GIVEN_PATH" 546 (kI 3 545),kE P "GIVEN_UNTIL" 548 (kI 4 547),kE P "GIVEN_LASTS" 550 (kI 5 549),kE P "GIVEN_SAFE" 552 (kI 6 551),kE P "GIVEN_REACH" 554 (kI 7 553),kE P "GIVEN_PARTS" 556 (kI 8 555),kE P "is_note_name" 563 (kR 273),kE P "is_worth" 569 (kR 278),kE P "is_reach" 576 (kR 285),kE P "is_given" 583 (kR 292),kE P "need_given" 590 (kR 299),kE P "is_written_moment" 597 (kR 306),kE P "what_is_told" 607 (kR 313),kE P "read_given" 613 (kR 318),kE P "NOTE_NAME" 617 (kI 0 616),kE P "NOTE_WORTH" 619 (kI 1 618),kE P "NOTE_HOUSE" 621 (kI 2 620),kE P "NOTE_EXACT" 623 (kI 3 622),kE P "NOTE_PATH" 625 (kI 4 624),kE P "NOTE_ENDS" 627 (kI 5 626),kE P "NOTE_SAFE" 629 (kI 6 628),kE P "NOTE_REACH" 631 (kI 7 630),kE P "NOTE_MADE" 633 (kI 8 632),kE P "NOTE_USED" 635 (kI 9 634),kE P "NOTE_PARTS" 637 (kI 10 636),kE P "is_open" 645 (kR 325),kE P "is_exact" 655 (kR 332),kE P "keeps_its_mark" 665 (kR 339),kE P "why_refused" 675 (kR 346),kE P "is_note" 682 (kR 353),kE P "house_for" 690 (kR 360),kE P "path_for" 698 (kR 367),kE P "end_for" 706 (kR 374),kE P "made" 716 (kR 381),kE P "key" 723 (kR 388),kE P "has_ended" 731 (kR 395),kE P "is_for" 739 (kR 402),kE P "goes" 749 (kR 409),kE P "MOST_NOTES" 753 (kI 20 752),kE P "is_jar" 759 (kR 414),kE P "is_by_made" 765 (kR 419),kE P "has_no_key_twice" 771 (kR 424),kE P "need_jar" 778 (kR 431),kE P "need_no_more_than_a_jar_has" 785 (kR 438),kE P "swept" 793 (kR 445),kE P "without_ended" 799 (kR 450),kE P "put" 805 (kR 455),kE P "read_what_is_given" 817 (kR 462),kE P "verdict" 829 (kR 469),kE P "word_of" 835 (kR 474),kE P "shadows" 844 (kR 481),kE P "taken" 850 (kR 486),kE P "take_in" 856 (kR 491),kE P "need_sending" 866 (kR 498),kE P "sent" 872 (kR 503),kE P "_law_cell" 882 (kR 510),kE P "_law_drawn" 892 (kR 517),kE P "_law_name" 901 (kR 524),kE P "_law_table" 907 (kR 529),kE P "_law_path" 916 (kR 536),kE P "_law_ask" 925 (kR 543),kE P "_law_given" 942 (kR 550),kE P "_law_text" 960 (kR 557),kE P "_law_jar" 966 (kR 562),kE P "_law_bare" 972 (kR 567),kE P "_law_known_ones" 978 (kR 572),kE P "_law_stands" 984 (kR 577),kE P "law" 991 (kR 584)] 130) #[]),
 (23,M7 (x_ "dict") ck (Ng #[kE P "__module__" 196 (kS "notejar.errors" 187),kE P "__firstlineno__" 200 (kI 2 199),kE P "__static_attributes__" 201 (kR 22),kE P "__weakref__" 203 (kR 25),kE P "__doc__" 204 KW] 3) #[]),
 (24,M7 (x_ "type") ck (PN (L7 (b_ "JarError") [x_ "ValueError"] [kR 24,x_ "ValueError",x_ "Exception",x_ "BaseException",x_ "object"] 23 (b_ "JarError") d_ [] [kR 37,kR 49,kR 61,kR 73,kR 85,kR 97] e_ ck e_)) #[a_ (kR 15),ck,a_ (kS "JarError" 189),a_ (kS "JarError" 197),a_ (MM "ValueError.__new__"),a_ (Lj d_)]),
 (36,M7 (x_ "dict") ck (Ng #[kE P "__module__" 214 (kS "notejar.errors" 187),kE P "__firstlineno__" 218 (kI 4 217),kE P "__static_attributes__" 219 (kR 35),kE P "__doc__" 220 KW] 2) #[]),
 (37,M7 (x_ "type") ck (PN (L7 (b_ "NoTable") [kR 24] [kR 37,kR 24,x_ "ValueError",x_ "Exception",x_ "BaseException",x_ "object"] 36 (b_ "NoTable") d_ [] [] e_ ck e_)) #[a_ (kR 28),ck,a_ (kS "NoTable" 207),a_ (kS "NoTable" 215),a_ (MM "ValueError.__new__"),a_ (Lj d_)]),
 (48,M7 (x_ "dict") ck (Ng #[kE P "__module__" 230 (kS "notejar.errors" 187),kE P "__firstlineno__" 234 (kI 6 233),kE P "__static_attributes__" 235 (kR 47),kE P "__doc__" 236 KW] 2) #[]),
 (49,M7 (x_ "type") ck (PN (L7 (b_ "NoPath") [kR 24] [kR 49,kR 24,x_ "ValueError",x_ "Exception",x_ "BaseException",x_ "object"] 48 (b_ "NoPath") d_ [] [] e_ ck e_)) #[a_ (kR 40),ck,a_ (kS "NoPath" 223),a_ (kS "NoPath" 231),a_ (MM "ValueError.__new__"),a_ (Lj d_)]),
 (60,M7 (x_ "dict") ck (Ng #[kE P "__module__" 246 (kS "notejar.errors" 187),kE P "__firstlineno__" 250 (kI 8 249),kE P "__static_attributes__" 251 (kR 59),kE P "__doc__" 252 KW] 2) #[]),
 (61,M7 (x_ "type") ck (PN (L7 (b_ "NoAsk") [kR 24] [kR 61,kR 24,x_ "ValueError",x_ "Exception",x_ "BaseException",x_ "object"] 60 (b_ "NoAsk") d_ [] [] e_ ck e_)) #[a_ (kR 52),ck,a_ (kS "NoAsk" 239),a_ (kS "NoAsk" 247),a_ (MM "ValueError.__new__"),a_ (Lj d_)]),
 (72,M7 (x_ "dict") ck (Ng #[kE P "__module__" 262 (kS "notejar.errors" 187),kE P "__firstlineno__" 266 (kI 10 265),kE P "__static_attributes__" 267 (kR 71),kE P "__doc__" 268 KW] 2) #[]),
 (73,M7 (x_ "type") ck (PN (L7 (b_ "NoNote") [kR 24] [kR 73,kR 24,x_ "ValueError",x_ "Exception",x_ "BaseException",x_ "object"] 72 (b_ "NoNote") d_ [] [] e_ ck e_)) #[a_ (kR 64),ck,a_ (kS "NoNote" 255),a_ (kS "NoNote" 263),a_ (MM "ValueError.__new__"),a_ (Lj d_)]),
 (84,M7 (x_ "dict") ck (Ng #[kE P "__module__" 278 (kS "notejar.errors" 187),kE P "__firstlineno__" 282 (kI 12 281),kE P "__static_attributes__" 283 (kR 83),kE P "__doc__" 284 KW] 2) #[]),
 (85,M7 (x_ "type") ck (PN (L7 (b_ "NoJar") [kR 24] [kR 85,kR 24,x_ "ValueError",x_ "Exception",x_ "BaseException",x_ "object"] 84 (b_ "NoJar") d_ [] [] e_ ck e_)) #[a_ (kR 76),ck,a_ (kS "NoJar" 271),a_ (kS "NoJar" 279),a_ (MM "ValueError.__new__"),a_ (Lj d_)]),
 (96,M7 (x_ "dict") ck (Ng #[kE P "__module__" 294 (kS "notejar.errors" 187),kE P "__firstlineno__" 298 (kI 14 297),kE P "__static_attributes__" 299 (kR 95),kE P "__doc__" 300 KW] 2) #[]),
 (97,M7 (x_ "type") ck (PN (L7 (b_ "NoNumber") [kR 24] [kR 97,kR 24,x_ "ValueError",x_ "Exception",x_ "BaseException",x_ "object"] 96 (b_ "NoNumber") d_ [] [] e_ ck e_)) #[a_ (kR 88),ck,a_ (kS "NoNumber" 287),a_ (kS "NoNumber" 295),a_ (MM "ValueError.__new__"),a_ (Lj d_)]),
 (103,kC "is_text_of" 305 306 307 17 4 3 100 181 101 102 308 17 309),
 (104,kF "is_text_of" 9 "notejar.kinds" 303 103),
 (110,kD "is_whole_number" 311 312 313 23 3 3 105 181 106 107 108 109 317 23 318),
 (111,kF "is_whole_number" 10 "notejar.kinds" 303 110),
 (117,kD "is_tuple_of" 320 321 322 27 2 3 112 181 113 114 115 116 325 27 326),
 (118,kF "is_tuple_of" 11 "notejar.kinds" 303 117),
 (124,kD "is_label" 340 341 342 35 1 3 119 181 120 121 122 123 344 35 345),
 (125,kF "is_label" 18 "notejar.names" 328 124),
 (129,kC "is_name" 347 348 349 39 1 3 126 181 127 128 350 39 351),
 (130,kF "is_name" 19 "notejar.names" 328 129),
 (136,kD "is_rule" 353 354 355 46 1 3 131 181 132 133 134 135 357 46 358),
 (137,kF "is_rule" 20 "notejar.names" 328 136),
 (141,kC "is_table" 360 361 362 54 1 3 138 181 139 140 363 54 364),
 (142,kF "is_table" 21 "notejar.names" 328 141),
 (148,kD "need_table" 366 367 368 60 1 3 143 181 144 145 146 147 370 60 371),
 (149,kF "need_table" 22 "notejar.names" 328 148),
 (155,kD "lies_within" 373 374 375 63 2 3 150 181 151 152 153 154 378 63 379),
 (156,kF "lies_within" 23 "notejar.names" 328 155),
 (160,kC "ends_longest_first" 381 382 383 65 1 3 157 181 158 159 384 65 385),
 (161,kF "ends_longest_first" 24 "notejar.names" 328 160),
 (167,kD "behind_first_dot" 387 388 389 68 1 3 162 181 163 164 165 166 391 68 392),
 (168,kF "behind_first_dot" 25 "notejar.names" 328 167),
 (174,kD "is_told_open" 394 395 396 70 2 3 169 181 170 171 172 173 399 70 400),
 (175,kF "is_told_open" 26 "notejar.names" 328 174),
 (181,kD "find_open_end" 402 403 404 74 2 3 176 181 177 178 179 180 409 74 410),
 (182,kF "find_open_end" 27 "notejar.names" 328 181),
 (188,kD "find_own_end" 412 413 414 83 2 3 183 181 184 185 186 187 420 83 421),
 (189,kF "find_own_end" 28 "notejar.names" 328 188),
 (195,kD "is_path" 429 430 431 93 1 3 190 181 191 192 193 194 433 93 434),
 (196,kF "is_path" 32 "notejar.paths" 423 195),
 (202,kD "need_path" 436 437 438 95 1 3 197 181 198 199 200 201 440 95 441),
 (203,kF "need_path" 33 "notejar.paths" 423 202),
 (209,kD "folder" 443 444 445 98 1 3 204 181 205 206 207 208 448 98 449),
 (210,kF "folder" 34 "notejar.paths" 423 209),
 (216,kD "under" 451 452 453 104 2 3 211 181 212 213 214 215 456 104 457),
 (217,kF "under" 35 "notejar.paths" 423 216),
 (223,kD "lies_under" 459 460 461 108 2 3 218 181 219 220 221 222 464 108 465),
 (224,kF "lies_under" 36 "notejar.paths" 423 223),
 (230,kD "is_moment" 481 482 483 121 1 3 225 181 226 227 228 229 485 121 486),
 (231,kF "is_moment" 44 "notejar.asks" 467 230),
 (237,kD "is_moment_or_none" 488 489 490 123 1 3 232 181 233 234 235 236 492 123 493),
 (238,kF "is_moment_or_none" 45 "notejar.asks" 467 237),
 (244,kD "need_moment" 495 496 497 125 1 3 239 181 240 241 242 243 499 125 500),
 (245,kF "need_moment" 46 "notejar.asks" 467 244),
 (251,kD "is_ask" 502 503 504 128 1 3 246 181 247 248 249 250 506 128 507),
 (252,kF "is_ask" 47 "notejar.asks" 467 251),
 (258,kD "need_ask" 509 510 511 132 1 3 253 181 254 255 256 257 513 132 514),
 (259,kF "need_ask" 48 "notejar.asks" 467 258),
 (265,kD "comes_from_near" 516 517 518 135 2 3 260 181 261 262 263 264 524 135 525),
 (266,kF "comes_from_near" 49 "notejar.asks" 467 265),
 (272,kD "is_note_name" 557 558 559 157 1 3 267 181 268 269 270 271 561 157 562),
 (273,kF "is_note_name" 65 "notejar.giving" 527 272),
 (277,kC "is_worth" 564 565 566 159 1 3 274 181 275 276 567 159 568),
 (278,kF "is_worth" 66 "notejar.giving" 527 277),
 (284,kD "is_reach" 570 571 572 163 1 3 279 181 280 281 282 283 574 163 575),
 (285,kF "is_reach" 67 "notejar.giving" 527 284),
 (291,kD "is_given" 577 578 579 165 1 3 286 181 287 288 289 290 581 165 582),
 (292,kF "is_given" 68 "notejar.giving" 527 291),
 (298,kD "need_given" 584 585 586 169 1 3 293 181 294 295 296 297 588 169 589),
 (299,kF "need_given" 69 "notejar.giving" 527 298),
 (305,kD "is_written_moment" 591 592 593 172 1 3 300 181 301 302 303 304 595 172 596),
 (306,kF "is_written_moment" 70 "notejar.giving" 527 305),
 (312,kD "what_is_told" 598 599 600 174 1 3 307 181 308 309 310 311 605 174 606),
 (313,kF "what_is_told" 71 "notejar.giving" 527 312),
 (317,kC "read_given" 608 609 610 191 1 3 314 181 315 316 611 191 612),
 (318,kF "read_given" 72 "notejar.giving" 527 317),
 (324,kD "is_open" 638 639 640 216 2 3 319 181 320 321 322 323 643 216 644)]
noncomputable def KKl (P:OL):Frag:=[(325,kF "is_open" 85 "notejar.notes" 614 324),
 (331,kD "is_exact" 646 647 648 218 3 3 326 181 327 328 329 330 653 218 654),
 (332,kF "is_exact" 86 "notejar.notes" 614 331),
 (338,kD "keeps_its_mark" 656 657 658 223 3 3 333 181 334 335 336 337 663 223 664),
 (339,kF "keeps_its_mark" 87 "notejar.notes" 614 338),
 (345,kD "why_refused" 666 667 668 230 3 3 340 181 341 342 343 344 673 230 674),
 (346,kF "why_refused" 88 "notejar.notes" 614 345),
 (352,kD "is_note" 676 677 678 246 1 3 347 181 348 349 350 351 680 246 681),
 (353,kF "is_note" 89 "notejar.notes" 614 352),
 (359,kD "house_for" 683 684 685 252 2 3 354 181 355 356 357 358 688 252 689),
 (360,kF "house_for" 90 "notejar.notes" 614 359),
 (366,kD "path_for" 691 692 693 256 2 3 361 181 362 363 364 365 696 256 697),
 (367,kF "path_for" 91 "notejar.notes" 614 366),
 (373,kD "end_for" 699 700 701 260 2 3 368 181 369 370 371 372 704 260 705),
 (374,kF "end_for" 92 "notejar.notes" 614 373),
 (380,kD "made" 707 708 709 264 4 3 375 181 376 377 378 379 714 264 715),
 (381,kF "made" 93 "notejar.notes" 614 380),
 (387,kD "key" 717 718 719 272 1 3 382 181 383 384 385 386 721 272 722),
 (388,kF "key" 94 "notejar.notes" 614 387),
 (394,kD "has_ended" 724 725 726 274 2 3 389 181 390 391 392 393 729 274 730),
 (395,kF "has_ended" 95 "notejar.notes" 614 394),
 (401,kD "is_for" 732 733 734 276 2 3 396 181 397 398 399 400 737 276 738),
 (402,kF "is_for" 96 "notejar.notes" 614 401),
 (408,kD "goes" 740 741 742 280 4 3 403 181 404 405 406 407 747 280 748),
 (409,kF "goes" 97 "notejar.notes" 614 408),
 (413,kC "is_jar" 754 755 756 290 1 3 410 181 411 412 757 290 758),
 (414,kF "is_jar" 100 "notejar.jars" 750 413),
 (418,kC "is_by_made" 760 761 762 296 1 3 415 181 416 417 763 296 764),
 (419,kF "is_by_made" 101 "notejar.jars" 750 418),
 (423,kC "has_no_key_twice" 766 767 768 298 1 3 420 181 421 422 769 298 770),
 (424,kF "has_no_key_twice" 102 "notejar.jars" 750 423),
 (430,kD "need_jar" 772 773 774 301 1 3 425 181 426 427 428 429 776 301 777),
 (431,kF "need_jar" 103 "notejar.jars" 750 430),
 (437,kD "need_no_more_than_a_jar_has" 779 780 781 304 1 3 432 181 433 434 435 436 783 304 784),
 (438,kF "need_no_more_than_a_jar_has" 104 "notejar.jars" 750 437),
 (444,kD "swept" 786 787 788 307 2 3 439 181 440 441 442 443 791 307 792),
 (445,kF "swept" 105 "notejar.jars" 750 444),
 (449,kC "without_ended" 794 795 796 311 2 3 446 181 447 448 797 311 798),
 (450,kF "without_ended" 106 "notejar.jars" 750 449),
 (454,kC "put" 800 801 802 313 2 3 451 181 452 453 803 313 804),
 (455,kF "put" 107 "notejar.jars" 750 454),
 (461,kD "read_what_is_given" 806 807 808 319 5 3 456 181 457 458 459 460 815 319 816),
 (462,kF "read_what_is_given" 108 "notejar.jars" 750 461),
 (468,kD "verdict" 818 819 820 326 5 3 463 181 464 465 466 467 827 326 828),
 (469,kF "verdict" 109 "notejar.jars" 750 468),
 (473,kC "word_of" 830 831 832 329 5 3 470 181 471 472 833 329 834),
 (474,kF "word_of" 110 "notejar.jars" 750 473),
 (480,kD "shadows" 836 837 838 339 3 3 475 181 476 477 478 479 842 339 843),
 (481,kF "shadows" 111 "notejar.jars" 750 480),
 (485,kC "taken" 845 846 847 345 5 3 482 181 483 484 848 345 849),
 (486,kF "taken" 112 "notejar.jars" 750 485),
 (490,kC "take_in" 851 852 853 352 5 3 487 181 488 489 854 352 855),
 (491,kF "take_in" 113 "notejar.jars" 750 490),
 (497,kD "need_sending" 857 858 859 361 4 3 492 181 493 494 495 496 864 361 865),
 (498,kF "need_sending" 114 "notejar.jars" 750 497),
 (502,kC "sent" 867 868 869 366 4 3 499 181 500 501 870 366 871),
 (503,kF "sent" 115 "notejar.jars" 750 502),
 (509,kD "_law_cell" 875 876 877 371 2 3 504 181 505 506 507 508 880 371 881),
 (510,kF' "_law_cell" 117 509),
 (516,kD "_law_drawn" 883 884 885 375 3 3 511 181 512 513 514 515 890 375 891),
 (517,kF' "_law_drawn" 118 516),
 (523,kD "_law_name" 893 894 895 379 2 3 518 181 519 520 521 522 899 379 900),
 (524,kF' "_law_name" 119 523),
 (528,kC "_law_table" 902 903 904 383 2 3 525 181 526 527 905 383 906),
 (529,kF' "_law_table" 120 528),
 (535,kD "_law_path" 908 909 910 386 2 3 530 181 531 532 533 534 914 386 915),
 (536,kF' "_law_path" 121 535),
 (542,kD "_law_ask" 917 918 919 389 2 3 537 181 538 539 540 541 923 389 924),
 (543,kF' "_law_ask" 122 542),
 (549,kD "_law_given" 926 927 928 392 3 3 544 181 545 546 547 548 940 392 941),
 (550,kF' "_law_given" 123 549),
 (556,kD "_law_text" 943 944 945 403 1 3 551 181 552 553 554 555 958 403 959),
 (557,kF' "_law_text" 124 556),
 (561,kC "_law_jar" 961 962 963 411 3 3 558 181 559 560 964 411 965),
 (562,kF' "_law_jar" 125 561),
 (566,kC "_law_bare" 967 968 969 429 1 3 563 181 564 565 970 429 971),
 (567,kF' "_law_bare" 126 566),
 (571,kC "_law_known_ones" 973 974 975 431 1 3 568 181 569 570 976 431 977),
 (572,kF' "_law_known_ones" 127 571),
 (576,kC "_law_stands" 979 980 981 435 1 3 573 181 574 575 982 435 983),
 (577,kF' "_law_stands" 128 576),
 (583,kD "law" 985 986 987 465 1 3 578 181 579 580 581 582 989 465 990),
 (584,kF' "law" 129 583),
 (4,M7 (x_ "module") (a_ builtinsNs) Data.plain #[])]
noncomputable def KKb (P:OL):Frag:=KKl P ++ [(500,{ cls:=.none,data:=.fields #[] })]
noncomputable def KK (P:OL):Frag:=KKa P ++ KKb P
noncomputable def KAa:List l_:=[2,3,23,24,36,37,48,49,60,61,72,73,84,85,96,97,103,104,110,111,117,118,124,125,129,130,136,137,141,142,148,149,155,156,160,161,167,168,174,175,181,182,188,189,195,196,202,203,209,210,216,217,223,224,230,231,237,238,244,245,251,252,258,259,265,266,272,273,277,278,284,285,291,292,298,299,305,306,312,313,317,318,324]
noncomputable def KAb:List l_:=[325,331,332,338,339,345,346,352,353,359,360,366,367,373,374,380,381,387,388,394,395,401,402,408,409,413,414,418,419,423,424,430,431,437,438,444,445,449,450,454,455,461,462,468,469,473,474,480,481,485,486,490,491,497,498,502,503,509,510,516,517,523,524,528,529,535,536,542,543,549,550,556,557,561,562,566,567,571,572,576,577,583,584,4,500]
noncomputable def KA:List l_:=KAa ++ KAb
noncomputable def KL (P:OL):Frag:=KKa P ++ KKl P
theorem KL_in {P:OL} {h:KO} (X:(KK P).In h):(KL P).In h:=fun b o e=>X b o (by
 show List.lookup b (KKa P ++ (KKl P ++ _))=a_ o;rw [← MJ,Mr,show List.lookup b (KKa P ++ KKl P)=a_ o from e];rfl)
theorem KT_in {P:OL} {h:KO} (X:(KK P).In h):h.get? 500=a_ { cls:=.none,data:=.fields #[] }:=X 500 _ (by kernel_rfl)
theorem KA_ok (P:OL):KA=(KK P).map (·.1):=by kernel_rfl
noncomputable def VQ:rl:=view PySem.Challenge.pw_notejar_k53_whole_taken [129]
theorem hbr:PySem.Challenge.rw_notejar_k53_whole_taken.row.prog.bare:=⟨rfl,rfl,rfl,rfl,rfl,by decide +kernel⟩
theorem slo:PySem.W.looksOpen PySem.Challenge.rw_notejar_k53_whole_taken.row.prog=d_:=by kernel_rfl
set_option maxRecDepth 100000 in
theorem sd1:PySem.Challenge.rw_notejar_k53_whole_taken.row.wellSaid=d_:=by
 unfold PySem.W.OpenRow.wellSaid PySem.W.OpenRow.partSaid;rw [slo]
 kernel_rfl
set_option maxRecDepth 100000 in
theorem sd:PySem.Challenge.rw_notejar_k53_whole_taken.wellSaid=d_:=by
 unfold PySem.W.OpenLaw.wellSaid;rw [sd1]
 kernel_rfl
theorem hld (h:PySem.Challenge.rw_notejar_k53_whole_taken.row.wellSaid=d_→PySem.Challenge.rw_notejar_k53_whole_taken.row.Holds):PySem.Challenge.rw_notejar_k53_whole_taken.Holds:=PySem.W.holds_law sd h
noncomputable def VL:List Str:=[b_ "JarError",b_ "NoTable",b_ "NoPath",b_ "NoAsk",b_ "NoNote",b_ "NoJar",b_ "NoNumber",b_ "is_text_of",b_ "is_whole_number",b_ "is_tuple_of",b_ "FIGURES",b_ "LABEL_SIGNS",b_ "LONGEST_LABEL",b_ "MOST_LABELS",b_ "MOST_RULES",b_ "is_label",b_ "is_name",b_ "is_rule",b_ "is_table",b_ "need_table",b_ "lies_within",b_ "ends_longest_first",b_ "behind_first_dot",b_ "is_told_open",b_ "find_open_end",b_ "find_own_end",b_ "PATH_SIGNS",b_ "LONGEST_PATH",b_ "is_path",b_ "need_path",b_ "folder",b_ "under",b_ "lies_under",b_ "LAST_MOMENT",b_ "ASK_SAFE",b_ "ASK_HOUSE",b_ "ASK_PATH",b_ "ASK_ORIGIN",b_ "ASK_PARTS",b_ "is_moment",b_ "is_moment_or_none",b_ "need_moment",b_ "is_ask",b_ "need_ask",b_ "comes_from_near",b_ "NOTE_NAME_SIGNS",b_ "LONGEST_NOTE_NAME",b_ "NO_WORTH_SIGNS",b_ "LONGEST_WORTH",b_ "MOST_FIGURES",b_ "GIVEN_NAME",b_ "GIVEN_WORTH",b_ "GIVEN_HOUSE",b_ "GIVEN_PATH",b_ "GIVEN_UNTIL",b_ "GIVEN_LASTS",b_ "GIVEN_SAFE",b_ "GIVEN_REACH",b_ "GIVEN_PARTS",b_ "is_note_name",b_ "is_worth",b_ "is_reach",b_ "is_given",b_ "need_given",b_ "is_written_moment",b_ "what_is_told",b_ "read_given",b_ "NOTE_NAME",b_ "NOTE_WORTH",b_ "NOTE_HOUSE",b_ "NOTE_EXACT",b_ "NOTE_PATH",b_ "NOTE_ENDS",b_ "NOTE_SAFE",b_ "NOTE_REACH",b_ "NOTE_MADE",b_ "NOTE_USED",b_ "NOTE_PARTS",b_ "is_open",b_ "is_exact",b_ "keeps_its_mark",b_ "why_refused",b_ "is_note",b_ "house_for",b_ "path_for",b_ "end_for",b_ "made",b_ "key",b_ "has_ended",b_ "is_for",b_ "goes",b_ "MOST_NOTES",b_ "is_jar",b_ "is_by_made",b_ "has_no_key_twice",b_ "need_jar",b_ "need_no_more_than_a_jar_has",b_ "swept",b_ "without_ended",b_ "put",b_ "read_what_is_given",b_ "verdict",b_ "word_of",b_ "shadows",b_ "taken",b_ "take_in",b_ "need_sending",b_ "sent",b_ "_law_cell",b_ "_law_drawn",b_ "_law_name",b_ "_law_table",b_ "_law_path",b_ "_law_ask",b_ "_law_given",b_ "_law_text",b_ "_law_jar",b_ "_law_bare",b_ "_law_known_ones",b_ "_law_stands"]
theorem JE {α β γ:Type} {o:Option α} {f:α→β} {g:α→γ} {a:β} {b:γ} (h1:o.map f=a_ a) (h2:o.map g=a_ b):o.map (fun s=>(f s,g s))=a_ (a,b):=by
 cases o with
 | none=>cases h1
 | some x=>cases h1; cases h2; rfl
set_option maxRecDepth 100000 in
theorem Gq (w:C_):(TR.openQ QY PySem.Challenge.pw_notejar_k53_whole_taken w 8328).map (openSeen VQ VL (Qh PySem.Challenge.pw_notejar_k53_whole_taken.main.body) (fun s=>recOk [] s) d_)=a_ (openGood VQ VL):=by kernel_rfl
set_option maxRecDepth 100000 in
theorem BE (w:C_):(TR.openQ QY PySem.Challenge.pw_notejar_k53_whole_taken w 8328).map (fun s=>KAa.map s.heap.get?)=a_ ((KKa w.params).map fun p=>a_ p.2):=by kernel_rfl
set_option maxRecDepth 100000 in
theorem BF (w:C_):(TR.openQ QY PySem.Challenge.pw_notejar_k53_whole_taken w 8328).map (fun s=>KAb.map s.heap.get?)=a_ ((KKb w.params).map fun p=>a_ p.2):=by kernel_rfl
theorem vR {α β γ:Type} {o:Option α} {f:α→β→γ} {A B:List β} {X Y:List γ} (h1:o.map (fun s=>A.map (f s))=a_ X) (h2:o.map (fun s=>B.map (f s))=a_ Y):o.map (fun s=>(A ++ B).map (f s))=a_ (X ++ Y):=by
 cases o with
 | none=>cases h1
 | some x=>cases h1; cases h2; simp
theorem Gr (w:C_):(TR.openQ QY PySem.Challenge.pw_notejar_k53_whole_taken w 8328).map (fun s=>KA.map s.heap.get?)=a_ ((KK w.params).map fun p=>a_ p.2):=by
 show (TR.openQ QY PySem.Challenge.pw_notejar_k53_whole_taken w 8328).map (fun s=>(KAa ++ KAb).map s.heap.get?)=a_ ((KKa w.params ++ KKb w.params).map fun p=>a_ p.2);rw [LP];exact vR (f:=fun s:h_=>s.heap.get?) (BE w) (BF w)
theorem left:LeftO PySem.Challenge.pw_notejar_k53_whole_taken VQ VL (fun s=>recOk [] s) (Hook.obs (S6 KK KA KA_ok)) (Hook.val (S6 KK KA KA_ok)) 8328:=fun w=>TR.openQ_map (JE (Gq w) (Gr w))
end G
set_option Elab.async false
set_option linter.all false
set_option maxRecDepth 100000
namespace L2
open PySem PySem.Spec PyProof.Rows
abbrev Key:=Sum Int Str
def BG:Key→g_→Bool
 | .inl k,v=>Value.isInt k v
 | .inr x,v=>Value.isStrOf x v
def JF (w:C_):Key→Int
 | .inl k=>hashInt k
 | .inr x=>hashStr w x
theorem cz:∀ {k:Key} {v:g_},BG k v=d_→(∃ i t,k=QX i∧v=R3 i t)∨(∃ x t,k=QW x∧v=ND x t)
 | .inl i,v,h=>by
  obtain ⟨t,e⟩:=Value.isInt_shape (k:=i) (v:=v) h;exact .inl ⟨i,t,rfl,e⟩
 | .inr x,v,h=>by
  obtain ⟨t,e⟩:=Q3 (x:=x) (v:=v) h;exact .inr ⟨x,t,rfl,e⟩
theorem BH (a b:Int):u_ ((QX a:Key)=QX b)=(a == b):=by
 by_cases e:a=b
 · subst e; simp
 · have h:¬ (QX a:Key)=QX b:=fun q=>e (Sum.inl.inj q);rw [decide_eq_false h];exact (beq_eq_false_iff_ne.mpr e).symm
theorem BI (a b:Str):u_ ((QW a:Key)=QW b)=u_ (a=b):=by
 by_cases e:a=b
 · subst e; simp
 · have h:¬ (QW a:Key)=QW b:=fun q=>e (Sum.inr.inj q);rw [decide_eq_false h,decide_eq_false e]
theorem BJ (a:Int) (b:Str):u_ ((QX a:Key)=QW b)=e_:=decide_eq_false (fun q=>nomatch q)
theorem BK (a:Str) (b:Int):u_ ((QW a:Key)=QX b)=e_:=decide_eq_false (fun q=>nomatch q)
def rX (prog:rl) (w:C_):PySem.KeyKind prog w Key where
 is:=BG
 hash:=JF w
 inj:=fun v a b ha hb=>by
  rcases cz ha with ⟨i,t,rfl,rfl⟩ | ⟨x,t,rfl,rfl⟩
  · rcases cz hb with ⟨j,u,rfl,e⟩ | ⟨y,u,rfl,e⟩
    · injection e with e1 _; rw [e1]
    · exact nomatch e
  · rcases cz hb with ⟨j,u,rfl,e⟩ | ⟨y,u,rfl,e⟩
    · exact nomatch e
    · injection e with e1 _; rw [e1]
 byValue:=fun k v h=>by
  rcases cz h with ⟨i,t,rfl,rfl⟩ | ⟨x,t,rfl,rfl⟩ <;> rfl
 pyHash:=fun hv h=>by
  rcases cz hv with ⟨i,t,rfl,rfl⟩ | ⟨x,t,rfl,rfl⟩
  · exact wpAny_pyHash_int h
  · exact wpAny_pyHash_str h
 eqBool:=fun hu hv h=>by
  rcases cz hu with ⟨i,t,rfl,rfl⟩ | ⟨x,t,rfl,rfl⟩
  · rcases cz hv with ⟨j,u,rfl,rfl⟩ | ⟨y,u,rfl,rfl⟩
    · rw [BH] at h; exact wpAny_eqBool_int h
    · rw [BJ] at h; exact Pc i t y u _ _ _ _ h
  · rcases cz hv with ⟨j,u,rfl,rfl⟩ | ⟨y,u,rfl,rfl⟩
    · rw [BK] at h; exact Pb x t j u _ _ _ _ h
    · rw [BI] at h; exact wpAny_eqBool_str h
 «strs»:=fun k x t v h=>by
  rcases cz h with ⟨i,u,rfl,e⟩ | ⟨y,u,rfl,e⟩
  · exact nomatch e
  · injection e with e1 _;subst e1;cases v <;> rfl
inductive V where
 | non | bl (b:Bool) | int (i:Int) | str (x:Str) | byt (b:Array UInt8) | flt (b:UInt64) | ref (a:l_) | ty (n:String)
 deriving DecidableEq
def RelV:V→g_→Prop
 | .non,u=>u=KW
 | .bl b,u=>u=Lj b
 | .int i,u=>∃ t,u=R3 i t
 | .str x,u=>∃ t,u=ND x t
 | .byt b,u=>∃ t,u=Value.bytes b t
 | .flt b,u=>∃ t,u=Value.float b t
 | .ref a,u=>u=q_ a
 | .ty n,u=>u=x_ n
abbrev Vals:List V→List g_→Prop:=Paired RelV
theorem Vals.length {xs:List V} {us:List g_} (r:Vals xs us):xs.length=us.length:=Paired.length r
theorem Vals.get:∀ {xs:List V} {us:List g_} {i:Nat} {x:V},Vals xs us→xs[i]?=a_ x→∃ u,us[i]?=a_ u∧RelV x u
 | _,_,_,_,.nil,e=>by simp at e
 | _,_,0,_,.cons r _,e=>by simp at e; subst e; exact ⟨_,rfl,r⟩
 | _,_,i + 1,x,.cons _ t,e=>by
  obtain ⟨u,h1,h2⟩:=Vals.get (i:=i) (x:=x) t (by simpa using e);exact ⟨u,by simpa using h1,h2⟩
theorem Vals.set {x:V} {u:g_} (r:RelV x u):∀ {xs:List V} {us:List g_} (i:Nat),Vals xs us→Vals (xs.set i x) (us.set i u)
 | _,_,_,.nil=>.nil
 | _,_,0,.cons _ t=>.cons r t
 | _,_,i + 1,.cons q t=>.cons q (Vals.set r i t)
theorem Vals.append:∀ {xs ys:List V} {us ws:List g_},Vals xs us→Vals ys ws→Vals (xs ++ ys) (us ++ ws)
 | _,_,_,_,.nil,s=>s
 | _,_,_,_,.cons r t,s=>.cons r (Vals.append t s)
theorem Vals.take:∀ {xs:List V} {us:List g_} (n:Nat),Vals xs us→Vals (xs.take n) (us.take n)
 | _,_,0,_=>.nil
 | _,_,_ + 1,.nil=>.nil
 | _,_,n + 1,.cons r t=>.cons r (Vals.take n t)
theorem Vals.drop:∀ {xs:List V} {us:List g_} (n:Nat),Vals xs us→Vals (xs.drop n) (us.drop n)
 | _,_,0,r=>r
 | _,_,_ + 1,.nil=>.nil
 | _,_,n + 1,.cons _ t=>Vals.drop n t
def Gs:Option V→Option g_→Prop
 | some v,a_ u=>RelV v u
 | none,ck=>True
 | _,_=>False
def KV {κ:Type}:List (κ×V)→List (κ×g_)→Prop:=Paired fun (p:κ×V) (q:κ×g_)=>p.1=q.1∧RelV p.2 q.2
def kV:Key→V
 | .inl i=>.int i
 | .inr x=>.str x
inductive HO where
 | lst (xs:List V)
 | tup (xs:List V)
 | dK (kvs:List (Key×V)) | dT (kvs:List (List Key×V))
 | set (S:Int→Bool) (n:Nat)
 | ins (C dx:l_) (fs:List (Str×V))
 | own (x:l_)
 | xd (fs:List (Str×V))
 | met (f x:l_)
 | rng (lo hi:Int)
 | frz (o:Obj) (u:HO)
 | tbl (ps:Array g_)
 | ext (φ:KO→Prop)
abbrev Hp:=l_→Option HO
def upd (H:Hp) (a:l_) (o:HO):Hp:=fun b=>if b=a then a_ o else H b
theorem ax {H:Hp} {a:l_} {o:HO}:upd H a o a=a_ o:=by unfold upd; rw [if_pos rfl]
theorem ay {H:Hp} {a b:l_} {o:HO} (h:b≠a):upd H a o b=H b:=by unfold upd; rw [if_neg h]
theorem rY {H:Hp} {a:l_} {o u:HO}:upd (upd H a o) a u=upd H a u:=by
 funext b; unfold upd; split <;> rfl
theorem ar {H:Hp} {a b:l_} {o:HO} (h:H a=a_ o) (h':H b=ck):a≠b:=by
 intro e; subst e; rw [h] at h'; cases h'
section
variable (P:rl) (w:C_)
def ObjOk (H:Hp) (h:KO) (a:l_):HO→Prop
 | .lst xs=>xs.length≤sizeLine∧∃ (its:List g_) (n:Nat),Vals xs its∧h.get? a=a_ { cls:=.type "list",data:=.seq its.toArray n }
 | .tup xs=>xs.length≤sizeLine∧∃ its:List g_,Vals xs its∧S0 h a its.toArray
 | .dK kvs=>kvs.length≤sizeLine∧(a == sysModules)=e_∧∃ vs,KV kvs vs∧h.DictOf (rX P w) a vs
 | .dT kvs=>kvs.length≤sizeLine∧(a == sysModules)=e_∧∃ xs:List (List Key×l_×g_),
  Paired (fun (p:List Key×V) (q:List Key×l_×g_)=>p.1=q.1∧H q.2.1=a_ (.tup (p.1.map kV))∧RelV p.2 q.2.2) kvs xs ∧
  ∃ o es ep,h.get? a=a_ o∧o.ExactDict∧o.data=.dict es ep∧es.toList=xs.map (entryOfKey (tupleKind (rX P w)))∧(xs.map (·.1)).Nodup
 | .set S n=>h.SetOf (intKind P w) a S n
 | .ins C dx fs=>H dx=a_ (.own a)∧fs.length≤1000∧dx≠a∧h.get? a=a_ (My C dx) ∧
  ∃ mA,h.Ns1 dx mA∧(∀ f,Gs (fs.lookup f) (mA f))∧PySem.Within mA (fs.map (·.1))
 | .own _=>∃ o,h.get? a=a_ o
 | .xd fs=>∃ mA,h.Ns1 a mA∧∀ f,Gs (fs.lookup f) (mA f)
 | .rng lo hi=>∃ t u v,h.get? a=a_ { cls:=.type "range",data:=.fields #[.int lo t,.int hi u,.int 1 v] }
 | .frz o u=>h.get? a=a_ o∧ObjOk H h a u
 | .tbl ps=>∃ qs:Array g_,h.get? a=a_ { cls:=.none,data:=.fields qs }∧R5 qs.toList∧∀ pos v,PF pos qs.toList=a_ v→∃ c oc vs q t t',v=.ref c∧H c=a_ (.frz oc (.ext fun _=>True))∧oc.data=.fields vs∧vs[1]?=a_ (.str q t)∧ps[0]?=a_ (.str q t')
 | .met f x=>h.get? a=a_ (Pq (.ref f) (.ref x))
 | .ext φ=>φ h∧(∃ o,h.get? a=a_ o)∧∀ h1 h2:KO,φ h1→(∀ o,h1.get? a=a_ o→h2.get? a=a_ o)→φ h2
def HOk (H:Hp) (h:KO):Prop:=∀ a o,H a=a_ o→ObjOk P w H h a o
end
section
variable {P:rl} {w:C_} {H H':Hp} {h h':KO} {a:l_} {o:HO}
theorem ObjOk.lt (x:ObjOk P w H h a o):a < h.objs.size:=by
 cases o with
 | lst xs=>obtain ⟨_,_,_,_,e⟩:=x; exact w_ e
 | tup xs=>obtain ⟨_,_,_,p⟩:=x; exact p.lt
 | dK kvs=>obtain ⟨_,_,_,_,o,_,_,e,_⟩:=x; exact w_ e
 | dT kvs=>obtain ⟨_,_,_,_,o,_,_,e,_⟩:=x; exact w_ e
 | set S n=>obtain ⟨o,_,_,_,e,_⟩:=x; exact w_ e
 | ins C dx fs=>obtain ⟨_,_,_,e,_⟩:=x; exact w_ e
 | own y=>obtain ⟨_,e⟩:=x; exact w_ e
 | xd fs=>obtain ⟨_,⟨_,_,_,e,_⟩,_⟩:=x; exact w_ e
 | rng lo hi=>obtain ⟨_,_,_,e⟩:=x; exact w_ e
 | frz ob u=>obtain ⟨e,_⟩:=x; exact w_ e
 | tbl ps=>obtain ⟨_,e,_⟩:=x; exact w_ e
 | met f y=>exact w_ (show h.get? a=a_ _ from x)
 | ext φ=>obtain ⟨_,⟨_,e⟩,_⟩:=x; exact w_ e
theorem Paired.mapP {α β:Type} {F G:α→β→Prop}:∀ {l₁:List α} {l₂:List β},Paired F l₁ l₂→(∀ a b,F a b→G a b)→Paired G l₁ l₂
 | _,_,.nil,_=>.nil
 | _,_,.cons r t,f=>.cons (f _ _ r) (Paired.mapP t f)
theorem ObjOk.stay (x:ObjOk P w H h a o) (k:∀ b u,(b=a∨H b=a_ (.own a))→h.get? b=a_ u→h'.get? b=a_ u)
 (ho:∀ b,H b=a_ (.own a)→H' b=a_ (.own a)) (ht:∀ b xs,H b=a_ (.tup xs)→H' b=a_ (.tup xs))
 (hf:∀ b o u,H b=a_ (.frz o u)→H' b=a_ (.frz o u):=by first | exact fun _ _ _ q=>q | (intro c _ _ q; rw [ay (ar q (by assumption))]; exact q)):ObjOk P w H' h' a o:=by
 induction o with
 | lst xs=>obtain ⟨z,its,n,r,e⟩:=x; exact ⟨z,its,n,r,k _ _ (.inl rfl) e⟩
 | tup xs=>obtain ⟨z,its,r,ob,e,c⟩:=x; exact ⟨z,its,r,ob,k _ _ (.inl rfl) e,c⟩
 | dK kvs=>obtain ⟨z,y,vs,r,ob,es,ep,e,c⟩:=x; exact ⟨z,y,vs,r,ob,es,ep,k _ _ (.inl rfl) e,c⟩
 | dT kvs =>
  obtain ⟨z,y,xs,r,ob,es,ep,e,c⟩:=x;exact ⟨z,y,xs,Paired.mapP r fun p q z=>⟨z.1,ht _ _ z.2.1,z.2.2⟩,ob,es,ep,k _ _ (.inl rfl) e,c⟩
 | set S n=>obtain ⟨ob,es,ep,t,e,c⟩:=x; exact ⟨ob,es,ep,t,k _ _ (.inl rfl) e,c⟩
 | ins C dx fs =>
  obtain ⟨d,z,ne,e,mA,⟨od,es,ep,e2,c⟩,r⟩:=x;exact ⟨ho _ d,z,ne,k _ _ (.inl rfl) e,mA,⟨od,es,ep,k _ _ (.inr d) e2,c⟩,r⟩
 | own y=>obtain ⟨ob,e⟩:=x; exact ⟨ob,k _ _ (.inl rfl) e⟩
 | xd fs=>obtain ⟨mA,⟨od,es,ep,e,c⟩,r⟩:=x; exact ⟨mA,⟨od,es,ep,k _ _ (.inl rfl) e,c⟩,r⟩
 | rng lo hi=>obtain ⟨t,u,v,e⟩:=x; exact ⟨t,u,v,k _ _ (.inl rfl) e⟩
 | frz ob u ih=>obtain ⟨e,q⟩:=x; exact ⟨k _ _ (.inl rfl) e,ih q⟩
 | tbl ps =>
  obtain ⟨qs,e,tr,ch⟩:=x;exact ⟨qs,k a _ (.inl rfl) e,tr,fun pos v hv=>let ⟨c,oc,vs,q,t,t',e1,e2,r⟩:=ch pos v hv; ⟨c,oc,vs,q,t,t',e1,hf _ _ _ e2,r⟩⟩
 | met f y =>
  have e:h.get? a=a_ (Pq (.ref f) (.ref y)):=x;show h'.get? a=a_ (Pq (.ref f) (.ref y));exact k a _ (.inl rfl) e
 | ext φ=>obtain ⟨p,⟨o,e⟩,st⟩:=x; exact ⟨st _ _ p fun o q=>k _ _ (.inl rfl) q,⟨o,k _ _ (.inl rfl) e⟩,st⟩
theorem HOk.lt (x:HOk P w H h) (e:H a=a_ o):a < h.objs.size:=(x a o e).lt
theorem HOk.fresh (x:HOk P w H h) (e:h.objs.size≤a):H a=ck:=by
 cases q:H a with
 | none=>rfl
 | some u=>exact absurd (J_ (x.lt q) e) (LX _)
theorem HOk.kept (x:HOk P w H h) (k:∀ b u,h.get? b=a_ u→h'.get? b=a_ u):HOk P w H h':=fun a o e =>
 (x a o e).stay (fun b u _ q=>k b u q) (fun _ q=>q) fun _ _ q=>q
theorem HOk.laid (x:HOk P w H h) (k:∀ b u,h.get? b=a_ u→h'.get? b=a_ u) (hp:h.objs.size≤a) (new:ObjOk P w (upd H a o) h' a o):HOk P w (upd H a o) h':=fun b u e=>by
 have hn:=x.fresh hp;by_cases hb:b=a
 · subst hb; rw [ax] at e; cases e; exact new
 · rw [ay hb] at e;exact (x b u e).stay (fun c v _ q=>k c v q) (fun c q=>by rw [ay (ar q hn)]; exact q) fun c xs q=>by rw [ay (ar q hn)]; exact q
end
def Rd (H:Hp) (a:l_) (u:HO):Prop:=H a=a_ u∨∃ o,H a=a_ (.frz o u)
theorem Rd.of {H:Hp} {a:l_} {u:HO} (h:H a=a_ u):Rd H a u:=.inl h
theorem Rd.ok {P:rl} {w:C_} {H:Hp} {h:KO} {a:l_} {u:HO} (r:Rd H a u) (x:HOk P w H h):ObjOk P w H h a u:=by
 rcases r with r | ⟨o,r⟩
 · exact x a u r
 · obtain ⟨_,q⟩:=x a _ r;exact q
def Mut:Option HO→Prop
 | some (.lst _)=>True
 | some (.dK _)=>True
 | some (.dT _)=>True
 | some (.set _ _)=>True
 | some (.ins _ _ _)=>True
 | some (.ext _)=>True
 | _=>False
section
variable {P:rl} {w:C_} {H:Hp} {h h':KO} {x e:l_} {o':HO}
theorem HOk.write (ok:HOk P w H h) (mu:Mut (H x)) (he:e=x∨H e=a_ (.own x)) (k:∀ b u,b≠e→h.get? b=a_ u→h'.get? b=a_ u) (heo:∃ u,h'.get? e=a_ u)
 (new:ObjOk P w (upd H x o') h' x o'):HOk P w (upd H x o') h':=fun b u q=>by
 have nown:∀ c y,H c=a_ (.own y)→c≠x:=fun c y r z=>by subst z; rw [r] at mu; exact mu
 have ntup:∀ c xs,H c=a_ (.tup xs)→c≠x:=fun c xs r z=>by subst z; rw [r] at mu; exact mu
 by_cases hb:b=x
 · subst hb; rw [ax] at q; cases q; exact new
 · rw [ay hb] at q;by_cases hbe:b=e
   · have q':H b=a_ (.own x):=by
      rcases he with z | z
      · exact absurd (hbe.trans z) hb
      · rw [hbe]; exact z
     rw [q] at q'; cases q';obtain ⟨v,hv⟩:=heo;exact ⟨v,by rw [hbe]; exact hv⟩
   · refine (ok b u q).stay (fun c v hc r=>k c v ?_ r) (fun c r=>by rw [ay (nown c b r)]; exact r) (fun c xs r=>by rw [ay (ntup c xs r)]; exact r) fun c _ _ r=>by rw [ay (fun z=>by subst z; rw [r] at mu; exact mu)]; exact r
     rcases hc with rfl | hc
     · exact hbe
     · rintro rfl;rcases he with z | z
       · exact nown c b hc z
       · rw [hc] at z; cases z; exact hb rfl
end
structure Un (fs ex:List l_) (H H':Hp) (h h':KO):Prop where
 keep:∀ b o,h.get? b=a_ o→H b=ck→b ∉ fs→b ∉ ex→h'.get? b=a_ o
 slot:∀ b o,h.get? b=a_ o→H b=ck→b∈fs→b ∉ ex→∃ sl,h'.get? b=a_ { o with slots:=sl }
 free:∀ b o,h.get? b=a_ o→H b=ck→b ∉ ex→H' b=ck
 there:∀ b o,h.get? b=a_ o→b ∉ ex→∃ o',h'.get? b=a_ o'
 tups:∀ b xs,H b=a_ (.tup xs)→H' b=a_ (.tup xs)
 frzs:∀ b o u,H b=a_ (.frz o u)→H' b=a_ (.frz o u)
 tbls:∀ b ps,H b=a_ (.tbl ps)→∃ more,H' b=a_ (.tbl (ps ++ more))
section
variable {fs fs' ex ex':List l_} {H H1 H2:Hp} {h h1 h2 h':KO} {a x e:l_} {o:HO}
theorem Un.any (u:Un fs ex H H1 h h1) {b:l_} {ob:Obj} (q:h.get? b=a_ ob) (n:H b=ck) (hx:b ∉ ex):∃ sl,h1.get? b=a_ { ob with slots:=sl }:=by
 by_cases hb:b∈fs
 · exact u.slot b ob q n hb hx
 · exact ⟨ob.slots,u.keep b ob q n hb hx⟩
theorem Un.trans (a:Un fs ex H H1 h h1) (b:Un fs ex H1 H2 h1 h2):Un fs ex H H2 h h2 where
 keep:=fun c ob q n hc hx=>b.keep c ob (a.keep c ob q n hc hx) (a.free c ob q n hx) hc hx
 slot:=fun c ob q n hc hx=>by
  obtain ⟨sl,e1⟩:=a.slot c ob q n hc hx;obtain ⟨sl',e2⟩:=b.slot c _ e1 (a.free c ob q n hx) hc hx;exact ⟨sl',e2⟩
 free:=fun c ob q n hx=>by
  obtain ⟨o',e1⟩:=a.there c ob q hx;exact b.free c o' e1 (a.free c ob q n hx) hx
 there:=fun c ob q hx=>by
  obtain ⟨o',e1⟩:=a.there c ob q hx;exact b.there c o' e1 hx
 tups:=fun c xs q=>b.tups c xs (a.tups c xs q)
 frzs:=fun c ob xs q=>b.frzs c ob xs (a.frzs c ob xs q)
 tbls:=fun c ps q=>by
  obtain ⟨m1,e1⟩:=a.tbls c ps q;obtain ⟨m2,e2⟩:=b.tbls c _ e1;exact ⟨m1 ++ m2,by rw [e2,Po]⟩
theorem Un.kept (k:∀ b u,h.get? b=a_ u→h'.get? b=a_ u):Un fs ex H H h h' :=
 ⟨fun b ob q _ _ _=>k b ob q,fun b ob q _ _ _=>⟨ob.slots,k b ob q⟩,fun _ _ _ n _=>n,fun b ob q _=>⟨ob,k b ob q⟩,fun _ _ q=>q,fun _ _ _ q=>q,fun _ ps q=>⟨#[],by rw [q]; simp⟩⟩
theorem Un.refl:Un fs ex H H h h:=Un.kept fun _ _ q=>q
theorem Un.laid (k:∀ b u,h.get? b=a_ u→h'.get? b=a_ u) (hp:h.objs.size≤a) (hn:H a=ck):Un fs ex H (upd H a o) h h' where
 keep:=fun b u q _ _ _=>k b u q
 slot:=fun b u q _ _ _=>⟨u.slots,k b u q⟩
 free:=fun b u q n _=>by rw [ay (KP (J_ (w_ q) hp))]; exact n
 there:=fun b u q _=>⟨u,k b u q⟩
 tups:=fun b xs q=>by rw [ay (ar q hn)]; exact q
 frzs:=fun b u xs q=>by rw [ay (ar q hn)]; exact q
 tbls:=fun b ps q=>⟨#[],by rw [ay (ar q hn),q]; simp⟩
theorem Un.write (mu:Mut (H x)) (he:e=x∨H e=a_ (.own x)) (k:∀ b u,b≠e→h.get? b=a_ u→h'.get? b=a_ u) (heo:∃ u,h'.get? e=a_ u):Un fs ex H (upd H x o) h h':=by
 have hx:∀ b,H b=ck→b≠x:=fun b n z=>by subst z; rw [n] at mu; exact mu
 have hb:∀ b,H b=ck→b≠e:=fun b n z=>by
  subst z;rcases he with r | r
  · exact hx b n r
  · rw [n] at r; cases r
 have hm:∀ b u,H b=a_ u→¬ Mut (a_ u)→b≠x:=fun b u q nm z=>by subst z; rw [q] at mu; exact nm mu
 refine ⟨fun b u q n _ _=>k b u (hb b n) q,fun b u q n _ _=>⟨u.slots,k b u (hb b n) q⟩,fun b u q n _=>by rw [ay (hx b n)]; exact n,fun b u q _=>?_,
  fun b xs q=>by rw [ay (hm b _ q fun z=>z)]; exact q,fun b u xs q=>by rw [ay (hm b _ q fun z=>z)]; exact q,fun b ps q=>⟨#[],by rw [ay (hm b _ q fun z=>z),q]; simp⟩⟩
 by_cases hbe:b=e
 · subst hbe; exact heo
 · exact ⟨u,k b u hbe q⟩
theorem Un.mono (u:Un fs ex H H1 h h1) (hs:∀ b∈fs,b∈fs') (hx:∀ b∈ex,b∈ex'):Un fs' ex' H H1 h h1 :=
 ⟨fun b ob q n hb he=>u.keep b ob q n (fun z=>hb (hs b z)) fun z=>he (hx b z),fun _ _ q n _ he=>u.any q n fun z=>he (hx _ z),fun b ob q n he=>u.free b ob q n fun z=>he (hx b z),fun b ob q he=>u.there b ob q fun z=>he (hx b z),u.tups,u.frzs,u.tbls⟩
end
def trk (h:KO) (H:Hp):List l_:=(o_ h.objs.size).filter fun a=>(H a).isSome
def vS (h:KO) (H:Hp):KO:=Ss h (trk h H)
theorem rZ (h:KO) (H:Hp):(vS h H).objs.size=h.objs.size:=PySem.W.hideAll_size _ _
theorem vT {h:KO} {H:Hp} {b:l_} {o:Obj} (e:h.get? b=a_ o) (n:H b=ck):(vS h H).get? b=a_ o :=
 OS _ e fun hm=>by
  have q:(H b).isSome=d_:=(Ll.mp hm).2;rw [n] at q; simp at q
theorem yT {h:KO} {H:Hp} {b:l_} {o:Obj} (e:(vS h H).get? b=a_ o):h.get? b=a_ o∧H b=ck:=by
 have e':h.get? b=a_ o:=O7 (trk h H) e;refine ⟨e',?_⟩;cases q:H b with
 | none=>rfl
 | some x =>
  have hm:b∈trk h H:=Ll.mpr ⟨Lk.mpr (w_ e'),by simp [q]⟩;have z:(vS h H).get? b=ck:=Nw (trk h H) hm;rw [z] at e; cases e
def yU (g h:KO) (L:l_):List (l_×Obj):=(o_ h.objs.size).filterMap fun a=>if a=L∨(g.get? a).isSome=d_ then ck else (h.get? a).map fun o=>(a,o)
def rest (g h:KO) (L d:l_):List (l_×Obj):=(yU g h L).filter fun p=>u_ (p.1≠d)
structure Mod (K:f_) (mg:Str→Option g_) (base:KO):Prop where
 kin:K.In base
 glob:base.Ns z_ mg
 blt:∃ mb,base.Ns builtinsNs mb∧∀ x:Str,x≠"__name__"→mb x=LO x
 nolimit:base.NoLimit
structure Cx where
 prog:rl
 w:C_
 K:f_
 mg:Str→Option g_
 base:KO
 A:E_
 N:List Str
 s₀:h_
 H₀:Hp
 env:Env
 outer:List Env
 stack:List Env
 ex:List l_
 fn:Str→Bool
 calm:Bool
 pn:List (l_×Obj)
 xe:g_→h_→Prop
def frs (l:List Env):List l_:=l.filterMap (·.frame)
abbrev Cx.fs (X:Cx):List l_:=frs X.outer
def Vis (sc:L6) (x:Str):Prop:=sc.names.lookup x=a_ .local∨sc.names.lookup x=a_ .cell∨sc.names.lookup x=a_ .free
def Loc (sc:L6) (x:Str):Prop:=sc.names.lookup x=a_ .local∨sc.names.lookup x=a_ .cell
def JG (env:Env) (h:KO) (m:Str→Option g_) (x:Str) (u:g_):Prop :=
 (env.kindOf x=a_ .local∧m x=a_ u)∨((env.kindOf x=a_ .cell∨env.kindOf x=a_ .free)∧∃ c,env.cells.lookup x=a_ c∧h.IsCell c (a_ u))
structure Cx.Ok (X:Cx):Prop where
 mod:Mod X.K X.mg X.base
 kind:X.env.scope.kind=.function
 glob:X.env.globals=z_
 blt:X.env.builtins=builtinsNs
 above:X.s₀.heap.objs.size≤X.env.locals
 inj:∀ x y c,X.env.cells.lookup x=a_ c→X.env.cells.lookup y=a_ c→x=y
 has:∀ x,(X.env.kindOf x=a_ .cell∨X.env.kindOf x=a_ .free)→∃ c,X.env.cells.lookup x=a_ c
 cab:∀ x c,X.fn x=d_→X.env.cells.lookup x=a_ c→X.s₀.heap.objs.size≤c
 hd:X.calm=d_→X.A.handled=ck
 frames:X.A.frames=a_ X.stack
 stk:X.stack=X.outer∨(X.stack=X.env :: X.outer∧X.env.frame=a_ X.env.locals)
 exf:∀ b∈X.ex,b≠X.env.locals∧∀ x c,X.env.cells.lookup x=a_ c→c≠b
 bs:∀ b o,X.base.get? b=a_ o→X.s₀.heap.get? b=a_ o∧X.H₀ b=ck
 bsz:X.base.objs.size≤X.s₀.heap.objs.size
 noex:∀ b o,X.base.get? b=a_ o→b ∉ X.ex
 exfs:∀ b∈X.ex,b ∉ X.fs
 funs:X.s₀.heap.FunFrames X.base X.outer
 frf:∀ b∈X.fs,X.H₀ b=ck
structure Inv (X:Cx) (j':List (l_×Obj)) (σ:List (Option V)) (H:Hp) (s:h_):Prop where
 ok:X.Ok
 os:s.os=X.s₀.os
 bare:OZ s.gens
 base:Un X.fs X.ex X.H₀ H X.s₀.heap s.heap
 loc:∃ m,s.heap.Ns X.env.locals m∧∀ (i:Nat) (x:Str) (v:V),X.N[i]?=a_ x→σ[i]?=a_ (a_ v)→Vis X.env.scope x→∃ u,RelV v u∧JG X.env s.heap m x u
 cell:∀ x c,X.env.cells.lookup x=a_ c→∃ v,s.heap.IsCell c v
 free:H X.env.locals=ck
 freeC:∀ x c,X.env.cells.lookup x=a_ c→H c=ck
 pin:∀ p∈X.pn ++ j',s.heap.get? p.1=a_ p.2∧H p.1=ck∧p.1≠X.env.locals∧p.1 ∉ X.fs∧∀ v,p.2.data≠.cell v
 hok:HOk X.prog X.w H s.heap
 len:σ.length=X.N.length
section
variable {X:Cx} {j':List (l_×Obj)} {σ:List (Option V)} {H H':Hp} {s:h_} {h':KO}
theorem Cx.Ok.nofr (ok:X.Ok) {b:l_} {o:Obj} (e:X.base.get? b=a_ o):b ∉ X.fs:=fun hb=>by
 have:=(ok.funs.mem hb).1;rw [e] at this; cases this
theorem Inv.bs (I:Inv X j' σ H s):∀ b o,X.base.get? b=a_ o→s.heap.get? b=a_ o∧H b=ck:=fun b o e =>
 ⟨I.base.keep b o (I.ok.bs b o e).1 (I.ok.bs b o e).2 (I.ok.nofr e) (I.ok.noex b o e),I.base.free b o (I.ok.bs b o e).1 (I.ok.bs b o e).2 (I.ok.noex b o e)⟩
theorem Inv.bk (I:Inv X j' σ H s):∀ b o,X.base.get? b=a_ o→s.heap.get? b=a_ o:=fun b o e=>(I.bs b o e).1
theorem Inv.mod (I:Inv X j' σ H s):Mod X.K X.mg X.base:=I.ok.mod
theorem Inv.kIn (I:Inv X j' σ H s):X.K.In s.heap:=I.ok.mod.kin.keeps I.bk
theorem Inv.nolimit (I:Inv X j' σ H s):s.heap.NoLimit:=I.ok.mod.nolimit.keeps I.bk
theorem Inv.fr (I:Inv X j' σ H s):∃ m,Fr X.base X.env.locals s.heap m :=
 let ⟨m,hn,_⟩:=I.loc
 ⟨m,hn,I.bk,K5 I.ok.bsz I.ok.above⟩
theorem Inv.lt (I:Inv X j' σ H s):X.env.locals < s.heap.objs.size:=let ⟨_,hn,_⟩:=I.loc; hn.lt
theorem Inv.sz (I:Inv X j' σ H s):X.s₀.heap.objs.size≤s.heap.objs.size:=K5 I.ok.above (NH I.lt)
theorem Inv.nofs (I:Inv X j' σ H s) {a:l_} (h:s.heap.objs.size≤a):a ∉ X.fs:=fun hb=>by
 obtain ⟨_,o,ho,_⟩:=I.ok.funs.mem hb;exact absurd (J_ (w_ ho) (K5 I.sz h)) (LX _)
theorem Inv.cne (I:Inv X j' σ H s):∀ x c,X.env.cells.lookup x=a_ c→c≠X.env.locals:=fun x c e z=>by
 obtain ⟨v,o,ho,hd⟩:=I.cell x c e;obtain ⟨m,⟨o',es,ep,ho',hd',_⟩,_⟩:=I.loc;rw [z,ho'] at ho; cases ho; rw [hd'] at hd; cases hd
theorem Inv.funs (I:Inv X j' σ H s):s.heap.FunFrames X.base X.outer:=by
 have all:∀ (l:List Env),(∀ b∈frs l,b∈X.fs)→X.s₀.heap.FunFrames X.base l→s.heap.FunFrames X.base l:=by
  intro l
  induction l with
  | nil=>intro _ _; trivial
  | cons env r ih =>
   intro hs hl;obtain ⟨hk,⟨L,o,hf,hn,ho,hd⟩,hr⟩:=hl;have hL:L∈X.fs:=hs L (by unfold frs; rw [NO,hf]; exact on);obtain ⟨sl,e⟩:=I.base.slot L o ho (I.ok.frf L hL) hL fun z=>I.ok.exfs L z hL;exact ⟨hk,⟨L,_,hf,hn,e,hd⟩,ih (fun b hb=>hs b (by unfold frs; rw [NO,hf]; exact n_ _ hb)) hr⟩
 exact all X.outer (fun _ hb=>hb) I.ok.funs
theorem Inv.stack (I:Inv X j' σ H s):s.heap.FunFrames X.base X.stack:=by
 rcases I.ok.stk with e | ⟨e,hf⟩
 · rw [e]; exact I.funs
 · rw [e];obtain ⟨m,hn,_⟩:=I.loc;refine .cons (by rw [I.ok.kind]; decide) hf hn ?_ I.funs;exact OF (K5 I.ok.bsz I.ok.above)
theorem Inv.stkSub (I:Inv X j' σ H s):∀ b∈frs X.stack,b∈X.env.locals :: X.fs:=fun b hb=>by
 rcases I.ok.stk with e | ⟨e,hf⟩
 · rw [e] at hb; exact n_ _ hb
 · rw [e] at hb;unfold frs at hb;rw [NO,hf] at hb;exact hb
theorem Inv.stkFree (I:Inv X j' σ H s):∀ b∈frs X.stack,H b=ck:=fun b hb=>by
 rcases s_.mp (I.stkSub b hb) with e | hb
 · rw [e]; exact I.free
 · obtain ⟨_,o,ho,_⟩:=I.ok.funs.mem hb;exact I.base.free b o ho (I.ok.frf b hb) fun z=>I.ok.exfs b z hb
theorem Inv.step {g':Array Oc} {t':Nat} {d':Drawn} {ch:List l_} (I:Inv X j' σ H s)
 (hch:∀ b∈ch,(b∈X.ex∨X.s₀.heap.objs.size≤b)∧b≠X.env.locals∧(∀ x c,X.env.cells.lookup x=a_ c→c≠b)∧∀ p∈X.pn ++ j',p.1≠b)
 (keep:∀ b o,b≠X.env.locals→b ∉ X.fs→b ∉ ch→s.heap.get? b=a_ o→H b=ck→h'.get? b=a_ o)
 (slot:∀ b o,b≠X.env.locals→b∈X.fs→b ∉ ch→s.heap.get? b=a_ o→H b=ck→∃ sl,h'.get? b=a_ { o with slots:=sl }) (free:∀ b o,b ∉ ch→s.heap.get? b=a_ o→H b=ck→H' b=ck)
 (there:∀ b o,b ∉ ch→s.heap.get? b=a_ o→∃ o',h'.get? b=a_ o')
 (tups:∀ b xs,H b=a_ (.tup xs)→H' b=a_ (.tup xs)) (frzs:∀ b o u,H b=a_ (.frz o u)→H' b=a_ (.frz o u)) (tbls:∀ b ps,H b=a_ (.tbl ps)→∃ more,H' b=a_ (.tbl (ps ++ more)))
 (ns:∀ m,s.heap.Ns X.env.locals m→h'.Ns X.env.locals m) (hok:HOk X.prog X.w H' h') (hg:OZ g') :
 Inv X j' σ H' { s with heap:=h',gens:=g',drawn:=d',toks:=t' }:=by
 have neL:∀ b o,X.s₀.heap.get? b=a_ o→b≠X.env.locals:=fun b o e=>KP (J_ (w_ e) I.ok.above);have neC:∀ b o,X.s₀.heap.get? b=a_ o→b ∉ X.ex→b ∉ ch:=fun b o e hx hb=>by
  rcases (hch b hb).1 with z | z
  · exact hx z
  · exact absurd (J_ (w_ e) z) (LX _)
 have cellK:∀ x c,X.env.cells.lookup x=a_ c→∀ v,s.heap.IsCell c v→h'.IsCell c v:=fun x c e v ⟨o,ho,hd⟩=>by
  have nch:c ∉ ch:=fun z=>(hch c z).2.2.1 x c e rfl;by_cases hc:c∈X.fs
  · obtain ⟨sl,q⟩:=slot c o (I.cne x c e) hc nch ho (I.freeC x c e);exact ⟨_,q,hd⟩
  · exact ⟨o,keep c o (I.cne x c e) hc nch ho (I.freeC x c e),hd⟩
 refine ⟨I.ok,I.os,hg,⟨fun b o e n hb hx=>?_,fun b o e n hb hx=>?_,fun b o e n hx=>?_,fun b o e hx=>?_,fun b xs e=>tups b xs (I.base.tups b xs e),fun b o xs e=>frzs b o xs (I.base.frzs b o xs e),fun b ps e=>?_⟩,?_,fun x c e=>?_,?_,fun x c e=>?_,fun p hp=>?_,hok,I.len⟩
 · exact keep b o (neL b o e) hb (neC b o e hx) (I.base.keep b o e n hb hx) (I.base.free b o e n hx)
 · obtain ⟨sl,e1⟩:=I.base.slot b o e n hb hx;obtain ⟨sl',e2⟩:=slot b _ (neL b o e) hb (neC b o e hx) e1 (I.base.free b o e n hx);exact ⟨sl',e2⟩
 · obtain ⟨o',e1⟩:=I.base.there b o e hx;exact free b o' (neC b o e hx) e1 (I.base.free b o e n hx)
 · obtain ⟨o',e1⟩:=I.base.there b o e hx;exact there b o' (neC b o e hx) e1
 · obtain ⟨m1,e1⟩:=I.base.tbls b ps e;obtain ⟨m2,e2⟩:=tbls b _ e1;exact ⟨m1 ++ m2,by rw [e2,Po]⟩
 · obtain ⟨m,hn,hl⟩:=I.loc;refine ⟨m,ns m hn,fun i x v e1 e2 e3=>?_⟩;obtain ⟨u,r,l⟩:=hl i x v e1 e2 e3;refine ⟨u,r,?_⟩;rcases l with l | ⟨k,c,e,z⟩
   · exact .inl l
   · exact .inr ⟨k,c,e,cellK x c e _ z⟩
 · obtain ⟨v,z⟩:=I.cell x c e;exact ⟨v,cellK x c e v z⟩
 · obtain ⟨m,⟨o,_,_,ho,_⟩,_⟩:=I.loc;exact free _ o (fun z=>(hch _ z).2.1 rfl) ho I.free
 · obtain ⟨v,o,ho,hd⟩:=I.cell x c e;exact free c o (fun z=>(hch c z).2.2.1 x c e rfl) ho (I.freeC x c e)
 · obtain ⟨e,n,ne,nf,d⟩:=I.pin p hp;have nch:p.1 ∉ ch:=fun z=>(hch p.1 z).2.2.2 p hp rfl;exact ⟨keep p.1 p.2 ne nf nch e n,free p.1 p.2 nch e n,ne,nf,d⟩
theorem Inv.un {t':Nat} (I:Inv X j' σ H s) (u:Un X.fs [] H H' s.heap h') (hok:HOk X.prog X.w H' h'):Inv X j' σ H' { s with heap:=h',toks:=t' }:=by
 obtain ⟨m,⟨o,es,ep,ho,r⟩,_⟩:=id I.loc;obtain ⟨sl,hL⟩:=u.any ho I.free (by simp);exact I.step (g':=s.gens) (d':=s.drawn) (ch:=[]) (fun _ z=>nomatch z) (fun b o _ hb _ e n=>u.keep b o e n hb (by simp)) (fun b o _ hb _ e n=>u.slot b o e n hb (by simp)) (fun b o _ e n=>u.free b o e n (by simp)) (fun b o _ e=>u.there b o e (by simp)) u.tups u.frzs u.tbls (fun m' hm=>by
  obtain ⟨o',es',ep',ho',r'⟩:=hm;rw [ho] at ho'; cases ho';exact ⟨_,es',ep',hL,r'⟩) hok I.bare
theorem Inv.call {g':Array Oc} {t':Nat} {d':Drawn} {ch:List l_} (I:Inv X j' σ H s) (u:Un (frs X.stack) ch H H' s.heap h') (hok:HOk X.prog X.w H' h') (hg:OZ g')
 (hch:∀ b∈ch,(b∈X.ex∨X.s₀.heap.objs.size≤b)∧b≠X.env.locals∧(∀ x c,X.env.cells.lookup x=a_ c→c≠b)∧∀ p∈X.pn ++ j',p.1≠b) :
 Inv X j' σ H' { s with heap:=h',gens:=g',drawn:=d',toks:=t' }:=by
 obtain ⟨m,⟨o,es,ep,ho,r⟩,_⟩:=id I.loc;obtain ⟨sl,hL⟩:=u.any ho I.free fun z=>(hch _ z).2.1 rfl;exact I.step (ch:=ch) hch (fun b o hL hb hc e n=>u.keep b o e n (fun z=>(s_.mp (I.stkSub b z)).elim hL hb) hc) (fun b o _ _ hc e n=>u.any e n hc) (fun b o hc e n=>u.free b o e n hc) (fun b o hc e=>u.there b o e hc) u.tups u.frzs u.tbls (fun m' hm=>by
  obtain ⟨o',es',ep',ho',r'⟩:=hm;rw [ho] at ho'; cases ho';exact ⟨_,es',ep',hL,r'⟩) hok hg
theorem Inv.turned {t':Nat} {it:l_} (I:Inv X j' σ H s) (k:∀ b o,b≠it→s.heap.get? b=a_ o→h'.get? b=a_ o) (hn:H it=ck) (hL:it≠X.env.locals)
 (h1:it∈X.ex∨X.s₀.heap.objs.size≤it) (h2:∀ x c,X.env.cells.lookup x=a_ c→c≠it) (h3:∀ p∈X.pn ++ j',p.1≠it):Inv X j' σ H { s with heap:=h',toks:=t' }:=by
 have nit:∀ b u,H b=a_ u→b≠it:=fun b u e z=>by rw [z,hn] at e; cases e
 refine I.step (g':=s.gens) (d':=s.drawn) (ch:=[it]) (fun b hb=>?_) (fun b o _ _ hc e _=>k b o (fun z=>hc (by simp [z])) e) (fun b o _ _ hc e _=>⟨o.slots,k b o (fun z=>hc (by simp [z])) e⟩) (fun _ _ _ _ n=>n)
  (fun b o hc e=>⟨o,k b o (fun z=>hc (by simp [z])) e⟩) (fun _ _ e=>e) (fun _ _ _ e=>e) (fun b ps e=>⟨#[],by rw [e]; simp⟩) (fun m hm=>?_) (fun b u e=>?_) I.bare
 · have e:b=it:=by simpa using hb
   subst e;exact ⟨h1,hL,h2,h3⟩
 · obtain ⟨o,es,ep,ho,r⟩:=hm;exact ⟨o,es,ep,k _ o (Oh hL) ho,r⟩
 · refine (I.hok b u e).stay (fun c v hc q=>k c v ?_ q) (fun _ q=>q) fun _ _ q=>q;rcases hc with z | z
   · rw [z]; exact nit b u e
   · exact nit c _ z
theorem Inv.tok (I:Inv X j' σ H s) (t:Nat):Inv X j' σ H { s with toks:=t }:=I.un (h':=s.heap) (t':=t) Un.refl I.hok
theorem Inv.kept {t':Nat} (I:Inv X j' σ H s) (k:∀ b u,s.heap.get? b=a_ u→h'.get? b=a_ u):Inv X j' σ H { s with heap:=h',toks:=t' }:=I.un (Un.kept k) (I.hok.kept k)
theorem Inv.laid {a:l_} {o:HO} {t':Nat} (I:Inv X j' σ H s) (k:∀ b u,s.heap.get? b=a_ u→h'.get? b=a_ u) (hp:s.heap.objs.size≤a) (new:ObjOk X.prog X.w (upd H a o) h' a o) :
 Inv X j' σ (upd H a o) { s with heap:=h',toks:=t' }:=I.un (Un.laid k hp (I.hok.fresh hp)) (I.hok.laid k hp new)
theorem Inv.write {x e:l_} {o:HO} {t':Nat} (I:Inv X j' σ H s) (mu:Mut (H x)) (he:e=x∨H e=a_ (.own x)) (k:∀ b u,b≠e→s.heap.get? b=a_ u→h'.get? b=a_ u) (heo:∃ u,h'.get? e=a_ u)
 (new:ObjOk X.prog X.w (upd H x o) h' x o):Inv X j' σ (upd H x o) { s with heap:=h',toks:=t' }:=I.un (Un.write mu he k heo) (I.hok.write mu he k heo new)
theorem Inv.weak {σ':List (Option V)} (I:Inv X j' σ H s) (hl:σ'.length=σ.length) (w:∀ (i:Nat) v,σ'[i]?=a_ (a_ v)→σ[i]?=a_ (a_ v)):Inv X j' σ' H s :=
 ⟨I.ok,I.os,I.bare,I.base,let ⟨m,hn,hl'⟩:=I.loc; ⟨m,hn,fun i x v e1 e2 e3=>hl' i x v e1 (w i v e2) e3⟩,I.cell,I.free,I.freeC,I.pin,I.hok,hl.trans I.len⟩
theorem Inv.pins_of {pins':List (l_×Obj)} (I:Inv X j' σ H s) (h:∀ p∈pins',s.heap.get? p.1=a_ p.2∧H p.1=ck∧p.1≠X.env.locals∧p.1 ∉ X.fs∧∀ v,p.2.data≠.cell v):Inv X pins' σ H s :=
 ⟨I.ok,I.os,I.bare,I.base,I.loc,I.cell,I.free,I.freeC,fun p hp=>(D_.mp hp).elim (fun z=>I.pin p (G_ _ z)) (h p),I.hok,I.len⟩
theorem pO {N:List Str} (hN:N.Nodup) {i j:Nat} {x:Str} (a:N[i]?=a_ x) (b:N[j]?=a_ x):i=j:=by
 obtain ⟨h1,e1⟩:=KQ.mp a;obtain ⟨h2,e2⟩:=KQ.mp b;exact (Sg hN).mp (e1.trans e2.symm)
theorem r9 {M:Rq} {A:E_} {E:g_→h_→Prop} {i:Nat} {x:Str} {v:V} {u:g_} {Q:Unit→h_→Prop} (I:Inv X j' σ H s) (hN:X.N.Nodup) (hi:X.N[i]?=a_ x) (hx:Loc X.env.scope x) (r:RelV v u)
 (h:∀ s',Inv X j' (σ.set i (a_ v)) H s'→(∃ a,ME a s.heap s'.heap∧(a=X.env.locals∨X.env.cells.lookup x=a_ a))→Q () s') (hf:X.fn x=d_∨X.env.scope.names.lookup x=a_ .local:=by first | exact .inl rfl | exact .inr rfl | assumption):v_ M A (storeName X.env x u) Q E s:=by
 obtain ⟨m,hn,hl⟩:=id I.loc;have hcls:(X.env.scope.kind == .class || (X.env.scope.kind == .module && X.env.locals != X.env.globals))=e_:=by rw [I.ok.kind]; rfl
 have hiσ:i < σ.length:=by rw [I.len]; exact (KQ.mp hi).1
 have cne:=I.cne;have tracked:∀ {a:l_} {h':KO},(∃ o,s.heap.get? a=a_ o∧H a=ck)→ME a s.heap h'→HOk X.prog X.w H h':=fun {a h'} ha hs b ob e=>by
  obtain ⟨_,_,hfree⟩:=ha;refine (I.hok b ob e).stay (fun c w' hc q=>(hs.2 c ?_).trans q) (fun _ q=>q) fun _ _ q=>q;rintro rfl;rcases hc with rfl | hc
  · rw [hfree] at e; cases e
  · rw [hfree] at hc; cases hc
 rcases hx with hk | hk
 · refine wpAny_storeName_local hk hn (fun h' hn' hs=>?_) hcls;obtain ⟨oL,_,_,hoL,_⟩:=id hn;refine h _ ⟨I.ok,I.os,I.bare,⟨fun b o e n hb hx=>?_,fun b o e n hb hx=>?_,I.base.free,fun b o e hx=>?_,I.base.tups,I.base.frzs,I.base.tbls⟩,⟨_,hn',fun j y v' e1 e2 e3=>?_⟩,fun y c e=>?_,I.free,I.freeC,fun p hp=>?_,tracked ⟨oL,hoL,I.free⟩ hs,by simpa using I.len⟩ ⟨_,hs,.inl rfl⟩
   · exact (hs.2 b (KP (J_ (w_ e) I.ok.above))).trans (I.base.keep b o e n hb hx)
   · obtain ⟨sl,e1⟩:=I.base.slot b o e n hb hx;exact ⟨sl,(hs.2 b (KP (J_ (w_ e) I.ok.above))).trans e1⟩
   · obtain ⟨o',e1⟩:=I.base.there b o e hx;exact ⟨o',(hs.2 b (KP (J_ (w_ e) I.ok.above))).trans e1⟩
   · by_cases hj:j=i
     · subst hj;rw [hi] at e1; cases e1;rw [Lu hiσ] at e2;cases e2;exact ⟨u,r,.inl ⟨hk,by simp⟩⟩
     · rw [Lq (Oh hj)] at e2;obtain ⟨u',r',q⟩:=hl j y v' e1 e2 e3;refine ⟨u',r',?_⟩;rcases q with ⟨k,e⟩ | ⟨k,c,e,z⟩
       · refine .inl ⟨k,?_⟩;have:y≠x:=fun e=>hj (pO hN e1 (e ▸ hi));simp [this,e]
       · exact .inr ⟨k,c,e,z.sameBut hs (cne y c e)⟩
   · obtain ⟨w',z⟩:=I.cell y c e;exact ⟨w',z.sameBut hs (cne y c e)⟩
   · obtain ⟨e,n,ne,nf,d⟩:=I.pin p hp;exact ⟨(hs.2 p.1 ne).trans e,n,ne,nf,d⟩
 · have hfn:X.fn x=d_:=by
    rcases hf with z | z
    · exact z
    · rw [z] at hk; cases hk
   obtain ⟨c,hc⟩:=I.ok.has x (.inl hk);obtain ⟨w',z⟩:=I.cell x c hc;refine wpAny_storeName_cell I.ok.kind hk hc z (fun h' hc' hs=>?_);obtain ⟨oc,hoc,hocd⟩:=id z;refine h { s with heap:=h' } ⟨I.ok,I.os,I.bare,⟨fun b o e n hb hx=>?_,fun b o e n hb hx=>?_,I.base.free,fun b o e hx=>?_,I.base.tups,I.base.frzs,I.base.tbls⟩,⟨m,hn.sameBut hs (Oh (cne x c hc)),fun j y v' e1 e2 e3=>?_⟩,fun y c' e=>?_,I.free,I.freeC,fun p hp=>?_,tracked ⟨oc,hoc,I.freeC x c hc⟩ hs,by simpa using I.len⟩ ⟨c,hs,.inr hc⟩
   · exact (hs.2 b (KP (J_ (w_ e) (I.ok.cab x c hfn hc)))).trans (I.base.keep b o e n hb hx)
   · obtain ⟨sl,e1⟩:=I.base.slot b o e n hb hx;exact ⟨sl,(hs.2 b (KP (J_ (w_ e) (I.ok.cab x c hfn hc)))).trans e1⟩
   · obtain ⟨o',e1⟩:=I.base.there b o e hx;exact ⟨o',(hs.2 b (KP (J_ (w_ e) (I.ok.cab x c hfn hc)))).trans e1⟩
   · by_cases hj:j=i
     · subst hj;rw [hi] at e1; cases e1;rw [Lu hiσ] at e2;cases e2;exact ⟨u,r,.inr ⟨.inl hk,c,hc,hc'⟩⟩
     · rw [Lq (Oh hj)] at e2;obtain ⟨u',r',q⟩:=hl j y v' e1 e2 e3;refine ⟨u',r',?_⟩;rcases q with q | ⟨k,c',e,z'⟩
       · exact .inl q
       · refine .inr ⟨k,c',e,z'.sameBut hs ?_⟩;rintro rfl;exact hj (pO hN e1 (I.ok.inj _ _ _ e hc ▸ hi))
   · by_cases hcc:c'=c
     · subst hcc; exact ⟨_,hc'⟩
     · obtain ⟨w2,z2⟩:=I.cell y c' e;exact ⟨w2,z2.sameBut hs hcc⟩
   · obtain ⟨e,n,ne,nf,d⟩:=I.pin p hp;refine ⟨(hs.2 p.1 ?_).trans e,n,ne,nf,d⟩;intro q;rw [q,hoc] at e;have q':oc=p.2:=KZ e;exact d w' (by rw [← q']; exact hocd)
theorem pP {M:Rq} {A:E_} {E:g_→h_→Prop} {i:Nat} {x:Str} {v:V} {u:g_} {Q:Unit→h_→Prop} (I:Inv X j' σ H s) (hN:X.N.Nodup) (hi:X.N[i]?=a_ x) (hx:Loc X.env.scope x) (r:RelV v u)
 (h:∀ s',Inv X j' (σ.set i (a_ v)) H s'→Q () s') (hf:X.fn x=d_∨X.env.scope.names.lookup x=a_ .local:=by first | exact .inl rfl | exact .inr rfl | assumption):v_ M A (storeName X.env x u) Q E s :=
 r9 I hN hi hx r (fun s' I' _=>h s' I') hf
theorem Inv.call' {s':h_} {ch:List l_} (I:Inv X j' σ H s) (ho:s'.os=s.os) (u:Un (frs X.stack) ch H H' s.heap s'.heap) (hok:HOk X.prog X.w H' s'.heap) (hg:OZ s'.gens)
 (hch:∀ b∈ch,(b∈X.ex∨X.s₀.heap.objs.size≤b)∧b≠X.env.locals∧(∀ x c,X.env.cells.lookup x=a_ c→c≠b)∧∀ p∈X.pn ++ j',p.1≠b):Inv X j' σ H' s':=by
 obtain ⟨h',g',d',t',o'⟩:=s';have e:o'=s.os:=ho;subst e;exact I.call (g':=g') (t':=t') (d':=d') u hok hg hch
end
abbrev XK:=g_→Option l_→Hp→Prop
abbrev St:=List (Option V)
abbrev VK:=V→Hp→Prop
abbrev TE:=St→Hp→VK→Prop
abbrev TT:=St→Hp→(Bool→Hp→Prop)→Prop
abbrev TA:=St→Hp→(List V→Hp→Prop)→Prop
structure vU where
 nx:St→Hp→Prop
 rt:VK
 bk:St→Hp→Prop:=fun _ _=>False
 ct:St→Hp→Prop:=fun _ _=>False
abbrev TS:=vU→St→Hp→Prop
def EP (X:Cx) (j':List (l_×Obj)) (σ:St) (Q:VK) (u:g_) (s':h_):Prop:=∃ v H',Inv X j' σ H' s'∧RelV v u∧Q v H'
def TP (X:Cx) (j':List (l_×Obj)) (σ:St) (Q:Bool→Hp→Prop) (b:Bool) (s':h_):Prop:=∃ H',Inv X j' σ H' s'∧Q b H'
def AP (X:Cx) (j':List (l_×Obj)) (σ:St) (Q:List V→Hp→Prop) (us:List g_) (s':h_):Prop:=∃ vs H',Inv X j' σ H' s'∧Vals vs us∧Q vs H'
def SP (X:Cx) (j':List (l_×Obj)) (D:vU) (f:Flow) (s':h_):Prop :=
 match f with
 | .next=>∃ σ' H',Inv X j' σ' H' s'∧D.nx σ' H'
 | .brk=>∃ σ' H',Inv X j' σ' H' s'∧D.bk σ' H'
 | .cont=>∃ σ' H',Inv X j' σ' H' s'∧D.ct σ' H'
 | .ret u=>∃ v σ' H',Inv X j' σ' H' s'∧RelV v u∧D.rt v H'
def PE (X:Cx) (e:H_) (t:TE):Prop :=
 ∀ (j':List (l_×Obj)) (s:h_) (σ:St) (H:Hp) (Q:VK),Inv X j' σ H s→t σ H Q→v_ (F_ X.prog X.w) X.A (eval e X.env) (EP X j' σ Q) X.xe s
def PT (X:Cx) (e:H_) (t:TT):Prop :=
 ∀ (j':List (l_×Obj)) (s:h_) (σ:St) (H:Hp) (Q:Bool→Hp→Prop),Inv X j' σ H s→t σ H Q→v_ (F_ X.prog X.w) X.A (isTrue e X.env (eval e X.env)) (TP X j' σ Q) X.xe s
def PW (X:Cx) (e:H_) (t:TT):Prop :=
 ∀ (whole:Sem g_) (j':List (l_×Obj)) (s:h_) (σ:St) (H:Hp) (Q:Bool→Hp→Prop),Inv X j' σ H s→t σ H Q→v_ (F_ X.prog X.w) X.A (isTrue e X.env whole) (TP X j' σ Q) X.xe s
theorem PW.pt {X:Cx} {e:H_} {t:TT} (h:PW X e t):PT X e t:=h _
def PA (X:Cx) (es:List H_) (t:TA):Prop :=
 ∀ (pos:Pos) (j':List (l_×Obj)) (s:h_) (σ:St) (H:Hp) (Q:List V→Hp→Prop),Inv X j' σ H s→t σ H Q→v_ (F_ X.prog X.w) X.A (spliced (Lc pos (k_ es X.env))) (AP X j' σ Q) X.xe s
def PS (X:Cx) (st:L3) (t:TS):Prop :=
 ∀ (j':List (l_×Obj)) (s:h_) (σ:St) (H:Hp) (D:vU),Inv X j' σ H s→t D σ H→v_ (F_ X.prog X.w) X.A (exec st X.env) (SP X j' D) X.xe s
def PSs (X:Cx) (st:List L3) (t:TS):Prop :=
 ∀ (j':List (l_×Obj)) (s:h_) (σ:St) (H:Hp) (D:vU),Inv X j' σ H s→t D σ H→v_ (F_ X.prog X.w) X.A (execs st X.env) (SP X j' D) X.xe s
theorem thn {α:Type} {t:Sem α} {Q Q':α→h_→Prop} {M:Rq} {A:E_} {E:g_→h_→Prop} {s:h_} (h:v_ M A t Q E s) (hQ:∀ a s,Q a s→Q' a s):v_ M A t Q' E s:=Lf h hQ fun _ _ x=>x
section
variable {X:Cx}
def Bt (i:Nat):TE:=fun σ H Q=>∃ v,σ[i]?=a_ (a_ v)∧Q v H
def tC (v:V):TE:=fun _ H Q=>Q v H
theorem se {i:Nat} {x:Str} {pos:Pos} (hN:X.N[i]?=a_ x) (hv:Vis X.env.scope x) (hd:(x == ("__debug__":Str))=e_:=by decide) (hcd:(x == ("__classdict__":Str))=e_:=by decide):PE X (.Name x pos) (Bt i):=by
 intro j' s σ H Q I h;obtain ⟨v,e,h⟩:=h;obtain ⟨m,hn,hl⟩:=I.loc;obtain ⟨u,r,l⟩:=hl i x v hN e hv;have fin:EP X j' σ Q u s:=⟨v,H,I,r,h⟩;rcases l with ⟨hk,hm⟩ | ⟨hk,c,hc,hcell⟩
 · exact wpAny_Name (wpAny_loadName_local I.ok.kind hk hn hm fin) hd
 · rcases hk with hk | hk
   · exact wpAny_Name (wpAny_loadName_cell I.ok.kind hk hc hcell fin) hd
   · exact wpAny_Name (wpAny_loadName_free I.ok.kind hk hc hcell fin hcd) hd
theorem BL {i j pos}:PE X (.Constant (.int i) j pos) (tC (.int i)):=fun _ _ _ H _ I h=>wpAny_Constant_int ⟨.int i,H,I.tok _,⟨_,rfl⟩,h⟩
theorem Gu {b j pos}:PE X (.Constant (.bool b) j pos) (tC (.bl b)):=fun _ _ _ H _ I h=>Constant_bool ⟨.bl b,H,I,rfl,h⟩
theorem BM {j pos}:PE X (.Constant .none j pos) (tC .non):=fun _ _ _ H _ I h=>Constant_none ⟨.non,H,I,rfl,h⟩
theorem BN {x j pos}:PE X (.Constant (.str x) j pos) (tC (.str x)):=fun _ _ _ H _ I h=>Calls.Constant_str ⟨.str x,H,I.tok _,⟨_,rfl⟩,h⟩
def Gl (X:Cx) (x:Str):Prop:=X.env.kindOf x=a_ .globalImplicit
theorem oF {E:g_→h_→Prop} {j':List (l_×Obj)} {s:h_} {σ:St} {H:Hp} {x:Str} {u:g_} {pos:Pos} {Q:g_→h_→Prop} (I:Inv X j' σ H s) (hg:Gl X x) (hm:X.mg x=a_ u) (h:Q u s)
 (hd:(x == ("__debug__":Str))=e_:=by decide):v_ (F_ X.prog X.w) X.A (eval (.Name x pos) X.env) Q E s :=
 Pg I.ok.kind hg (Calls.loadGlobal_global (by rw [I.ok.glob]; exact I.mod.glob.keeps I.bk) hm h) hd
theorem iC {E:g_→h_→Prop} {j':List (l_×Obj)} {s:h_} {σ:St} {H:Hp} {x:Str} {u:g_} {pos:Pos} {Q:g_→h_→Prop} (I:Inv X j' σ H s) (hg:Gl X x) (hm:X.mg x=ck) (hv:LO x=a_ u) (h:Q u s)
 (hn:x≠"__name__":=by decide) (hd:(x == ("__debug__":Str))=e_:=by decide):v_ (F_ X.prog X.w) X.A (eval (.Name x pos) X.env) Q E s:=by
 obtain ⟨mb,h1,h2⟩:=I.mod.blt;exact Pg I.ok.kind hg (Calls.loadGlobal_builtin (by rw [I.ok.glob]; exact I.mod.glob.keeps I.bk) hm (by rw [I.ok.blt]; exact h1.keeps I.bk) ((h2 x hn).trans hv) h) hd
theorem sf {x:Str} {v:V} {u:g_} {pos:Pos} (hg:Gl X x) (hm:X.mg x=a_ u) (r:RelV v u) (hd:(x == ("__debug__":Str))=e_:=by decide):PE X (.Name x pos) (tC v) :=
 fun _ _ _ H _ I h=>oF I hg hm ⟨v,H,I,r,h⟩ hd
theorem yV {x:Str} {v:V} {u:g_} {pos:Pos} (hg:Gl X x) (hm:X.mg x=ck) (hv:LO x=a_ u) (r:RelV v u) (hn:x≠"__name__":=by decide) (hd:(x == ("__debug__":Str))=e_:=by decide):PE X (.Name x pos) (tC v) :=
 fun _ _ _ H _ I h=>iC I hg hm hv ⟨v,H,I,r,h⟩ hn hd
variable {a b:H_} {ta tb:TE} {pos:Pos}
def tB (t:TE):TT:=fun σ H Q=>t σ H fun x H1=>∃ c,x=.bl c∧Q c H1
theorem BO {e:H_} {t:TE} (h:PE X e t) (he:∀ whole,isTrue e X.env whole=(do let v ← whole; standAt e.pos; N8 [v] (truthy v)):=by intro _; rfl):PT X e (tB t):=by
 intro j' s σ H Q I hw;refine isTrue_plain (thn (h j' s σ H _ I hw) fun v s1 ⟨x,H1,I1,r1,q1⟩=>?_) (he _);obtain ⟨d,rfl,q⟩:=q1;cases r1;exact Me ⟨H1,I1,q⟩
variable {tA tB':TT} {rest:List H_}
def JH (t u:TT):TT:=fun σ H Q=>t σ H fun c H1=>if c=d_ then u σ H1 Q else Q e_ H1
def tOr (t u:TT):TT:=fun σ H Q=>t σ H fun c H1=>if c=d_ then Q d_ H1 else u σ H1 Q
def JK (t:TT):TT:=fun σ H Q=>t σ H fun c H1=>Q (!c) H1
theorem yW (ha:PT X a tA):PW X (.BoolOp .And [a] pos) tA:=by
 intro wh j' s σ H Q I h;refine isTrue_and (thn (ha j' s σ H Q I h) fun c s1 e=>?_);cases c with
 | true=>exact isTrue_and_nil e
 | false=>exact e
theorem BP (ha:PT X a tA):PW X (.BoolOp .Or [a] pos) tA:=by
 intro wh j' s σ H Q I h;refine isTrue_or (thn (ha j' s σ H Q I h) fun c s1 e=>?_);cases c with
 | false=>exact isTrue_or_nil e
 | true=>exact e
theorem BQ (ha:PT X a tA) (hb:PW X (.BoolOp .And (b :: rest) pos) tB'):PW X (.BoolOp .And (a :: b :: rest) pos) (JH tA tB'):=by
 intro wh j' s σ H Q I h;refine isTrue_and (thn (ha j' s σ H _ I h) fun c s1 ⟨H1,I1,q1⟩=>?_);cases c with
 | true=>exact hb wh j' s1 σ H1 Q I1 q1
 | false=>exact ⟨H1,I1,q1⟩
theorem Gx (ha:PT X a tA) (hb:PW X (.BoolOp .Or (b :: rest) pos) tB'):PW X (.BoolOp .Or (a :: b :: rest) pos) (tOr tA tB'):=by
 intro wh j' s σ H Q I h;refine isTrue_or (thn (ha j' s σ H _ I h) fun c s1 ⟨H1,I1,q1⟩=>?_);cases c with
 | true=>exact ⟨H1,I1,q1⟩
 | false=>exact hb wh j' s1 σ H1 Q I1 q1
theorem BR (ha:PT X a tA):PT X (.UnaryOp .Not a pos) (JK tA):=by
 intro j' s σ H Q I h;exact isTrue_not (ha j' s σ H (fun c H1=>Q (!c) H1) I h)
def Gy (ta tb:TE):TE:=fun σ H Q=>ta σ H fun x H1=>∃ c,x=.bl c∧if c=d_ then tb σ H1 Q else Q (.bl e_) H1
def JL (ta tb:TE):TE:=fun σ H Q=>ta σ H fun x H1=>∃ c,x=.bl c∧if c=d_ then Q (.bl d_) H1 else tb σ H1 Q
def Gz (ta:TE):TE:=fun σ H Q=>ta σ H fun x H1=>∃ c,x=.bl c∧Q (.bl (!c)) H1
theorem BS {op} {t:TE} (h:PE X a t):PE X (.BoolOp op [a] pos) t:=fun j' s σ H Q I hw=>BoolOp_one (h j' s σ H Q I hw)
theorem BU (ha:PE X a ta) (hb:PE X (.BoolOp .And (b :: rest) pos) tb):PE X (.BoolOp .And (a :: b :: rest) pos) (Gy ta tb):=by
 intro j' s σ H Q I h;refine BoolOp_and (thn (ha j' s σ H _ I h) fun v s1 ⟨x,H1,I1,r1,q1⟩=>?_);obtain ⟨c,rfl,q1⟩:=q1;cases r1;refine Me ?_;cases c with
 | true=>exact hb j' s1 σ H1 Q I1 q1
 | false=>exact ⟨.bl e_,H1,I1,rfl,q1⟩
theorem GA (ha:PE X a ta) (hb:PE X (.BoolOp .Or (b :: rest) pos) tb):PE X (.BoolOp .Or (a :: b :: rest) pos) (JL ta tb):=by
 intro j' s σ H Q I h;refine BoolOp_or (thn (ha j' s σ H _ I h) fun v s1 ⟨x,H1,I1,r1,q1⟩=>?_);obtain ⟨c,rfl,q1⟩:=q1;cases r1;refine Me ?_;cases c with
 | false=>exact hb j' s1 σ H1 Q I1 q1
 | true=>exact ⟨.bl d_,H1,I1,rfl,q1⟩
theorem BV (ha:PE X a ta):PE X (.UnaryOp .Not a pos) (Gz ta):=by
 intro j' s σ H Q I h;refine UnaryOp_ (thn (ha j' s σ H _ I h) fun v s1 ⟨x,H1,I1,r1,q1⟩=>?_);obtain ⟨c,rfl,q1⟩:=q1;cases r1;exact not_of (Me ⟨.bl (!c),H1,I1,rfl,q1⟩)
def tIf (t:TT) (ta tb:TE):TE:=fun σ H Q=>t σ H fun c H1=>if c=d_ then ta σ H1 Q else tb σ H1 Q
theorem vV {c:H_} (hc:PT X c tA) (ha:PE X a ta) (hb:PE X b tb):PE X (.IfExp c a b pos) (tIf tA ta tb):=by
 intro j' s σ H Q I h;refine wpAny_IfExp (thn (hc j' s σ H _ I h) fun d s1 ⟨H1,I1,q1⟩=>?_);cases d with
 | true=>exact ha j' s1 σ H1 Q I1 q1
 | false=>exact hb j' s1 σ H1 Q I1 q1
end
def SqL (K:f_) (H:Hp) (a:l_) (xs:List V):Prop :=
 Rd H a (.lst xs) ∨
  ∃ (o:Obj) (its:Array g_) (n:Nat),K.lookup a=a_ o∧o.cls=.type "list"∧o.dict=ck∧o.data=.seq its n∧its.size≤sizeLine∧Vals xs its.toList
def SqT (K:f_) (H:Hp) (a:l_) (xs:List V):Prop :=
 Rd H a (.tup xs) ∨
  ∃ (o:Obj) (its:Array g_) (n:Nat),K.lookup a=a_ o∧o.cls=.type "tuple"∧o.data=.seq its n∧its.size≤sizeLine∧Vals xs its.toList
def JM:g_→Option V
 | .none=>a_ .non
 | .bool b=>a_ (.bl b)
 | .int i _=>a_ (.int i)
 | .str x _=>a_ (.str x)
 | .bytes b _=>a_ (.byt b)
 | .float b _=>a_ (.flt b)
 | .ref a=>a_ (.ref a)
 | .type n=>a_ (.ty n)
 | _=>ck
theorem RelV.abs {x:V} {u:g_} (r:RelV x u):JM u=a_ x:=by
 cases x with
 | non=>cases r; rfl
 | bl _=>cases r; rfl
 | int _=>obtain ⟨t,rfl⟩:=r; rfl
 | str _=>obtain ⟨t,rfl⟩:=r; rfl
 | byt _=>obtain ⟨t,rfl⟩:=r; rfl
 | flt _=>obtain ⟨t,rfl⟩:=r; rfl
 | ref _=>cases r; rfl
 | ty _=>cases r; rfl
theorem RelV.inj {x y:V} {u:g_} (r:RelV x u) (q:RelV y u):x=y:=KZ (r.abs.symm.trans q.abs)
theorem Vals.inj:∀ {xs ys:List V} {us:List g_},Vals xs us→Vals ys us→xs=ys
 | _,_,_,.nil,.nil=>rfl
 | _,_,_,.cons r t,.cons r' t'=>by rw [r.inj r',Vals.inj t t']
section
variable {X:Cx} {j':List (l_×Obj)} {σ:St} {H:Hp} {s:h_} {a:l_} {xs ys:List V}
theorem SqL.of {K:f_} (h:H a=a_ (.lst xs)):SqL K H a xs:=.inl (.inl h)
theorem SqT.of {K:f_} (h:H a=a_ (.tup xs)):SqT K H a xs:=.inl (.inl h)
theorem Inv.list (I:Inv X j' σ H s) (h:SqL X.K H a xs):∃ its:List g_,Vals xs its∧PlainL s.heap a its.toArray∧xs.length≤sizeLine:=by
 rcases h with h | ⟨o,its,n,hk,hc,hd,hs,hz,r⟩
 · obtain ⟨z,its,n,r,e⟩:=h.ok I.hok;exact ⟨its,r,⟨_,n,e,rfl,rfl,rfl⟩,z⟩
 · refine ⟨its.toList,r,⟨o,n,I.kIn a o hk,hc,hd,by simpa using hs⟩,?_⟩;have e:=r.length;simp only [K4] at e;omega
theorem Inv.tuple (I:Inv X j' σ H s) (h:SqT X.K H a xs):∃ its:List g_,Vals xs its∧S0 s.heap a its.toArray∧xs.length≤sizeLine:=by
 rcases h with h | ⟨o,its,n,hk,hc,hs,hz,r⟩
 · obtain ⟨z,its,r,p⟩:=h.ok I.hok;exact ⟨its,r,p,z⟩
 · refine ⟨its.toList,r,⟨o,I.kIn a o hk,hc,n,by simpa using hs⟩,?_⟩;have e:=r.length;simp only [K4] at e;omega
theorem Inv.list_inj (I:Inv X j' σ H s) (h:SqL X.K H a xs) (h':SqL X.K H a ys):xs=ys:=by
 obtain ⟨its,r,⟨o,n,e,_,_,d⟩,_⟩:=I.list h;obtain ⟨its',r',⟨o',n',e',_,_,d'⟩,_⟩:=I.list h';rw [e] at e'; cases e';rw [d] at d';injection d' with d1 _;have:its=its':=by simpa using congrArg Array.toList d1
 subst this;exact r.inj r'
theorem Inv.tuple_inj (I:Inv X j' σ H s) (h:SqT X.K H a xs) (h':SqT X.K H a ys):xs=ys:=by
 obtain ⟨its,r,⟨o,e,_,n,d⟩,_⟩:=I.tuple h;obtain ⟨its',r',⟨o',e',_,n',d'⟩,_⟩:=I.tuple h';rw [e] at e'; cases e';rw [d] at d';injection d' with d1 _;have:its=its':=by simpa using congrArg Array.toList d1
 subst this;exact r.inj r'
end
abbrev Cx.wish (X:Cx) (E:g_→h_→Prop):Cx:={ X with xe:=E }
abbrev Cx.nox (X:Cx):Cx:=X.wish fun _ _=>False
theorem Cx.Ok.wish {X:Cx} (ok:X.Ok) (E:g_→h_→Prop):(X.wish E).Ok :=
 ⟨ok.mod,ok.kind,ok.glob,ok.blt,ok.above,ok.inj,ok.has,ok.cab,ok.hd,ok.frames,ok.stk,ok.exf,ok.bs,ok.bsz,ok.noex,ok.exfs,ok.funs,ok.frf⟩
theorem Cx.Ok.unwish {X:Cx} {E:g_→h_→Prop} (ok:(X.wish E).Ok):X.Ok :=
 ⟨ok.mod,ok.kind,ok.glob,ok.blt,ok.above,ok.inj,ok.has,ok.cab,ok.hd,ok.frames,ok.stk,ok.exf,ok.bs,ok.bsz,ok.noex,ok.exfs,ok.funs,ok.frf⟩
section
variable {X:Cx} {j':List (l_×Obj)} {σ:St} {H:Hp} {s:h_} {E:g_→h_→Prop}
theorem Inv.wish (I:Inv X j' σ H s) (E:g_→h_→Prop):Inv (X.wish E) j' σ H s:=⟨I.ok.wish E,I.os,I.bare,I.base,I.loc,I.cell,I.free,I.freeC,I.pin,I.hok,I.len⟩
theorem Inv.unwish (I:Inv (X.wish E) j' σ H s):Inv X j' σ H s:=⟨I.ok.unwish,I.os,I.bare,I.base,I.loc,I.cell,I.free,I.freeC,I.pin,I.hok,I.len⟩
theorem SP.unwish {D:vU} {f:Flow} {s':h_} (h:SP (X.wish E) j' D f s'):SP X j' D f s':=by
 cases f with
 | next=>obtain ⟨σ',H',I,q⟩:=h; exact ⟨σ',H',I.unwish,q⟩
 | brk=>obtain ⟨σ',H',I,q⟩:=h; exact ⟨σ',H',I.unwish,q⟩
 | cont=>obtain ⟨σ',H',I,q⟩:=h; exact ⟨σ',H',I.unwish,q⟩
 | ret u=>obtain ⟨v,σ',H',I,r,q⟩:=h; exact ⟨v,σ',H',I.unwish,r,q⟩
theorem PE.nox {e:H_} {t:TE} (h:PE X.nox e t):PE X e t:=fun j' s σ H Q I hw =>
 Lf (h j' s σ H Q (I.wish _) hw) (fun _ _ ⟨v,H',I',r,q⟩=>⟨v,H',I'.unwish,r,q⟩) fun _ _ z=>Lw z
theorem PT.nox {e:H_} {t:TT} (h:PT X.nox e t):PT X e t:=fun j' s σ H Q I hw =>
 Lf (h j' s σ H Q (I.wish _) hw) (fun _ _ ⟨H',I',q⟩=>⟨H',I'.unwish,q⟩) fun _ _ z=>Lw z
theorem PSs.nox {st:List L3} {t:TS} (h:PSs X.nox st t):PSs X st t:=fun j' s σ H D I hw =>
 Lf (h j' s σ H D (I.wish _) hw) (fun _ _ q=>q.unwish) fun _ _ z=>Lw z
end
section
variable {X:Cx} {st:L3} {rest:List L3} {t u:TS} {e:H_} {te:TE} {pos:Pos}
def GB:TS:=fun D σ H=>D.nx σ H
def JN (t u:TS):TS:=fun D σ H=>t { D with nx:=u D } σ H
theorem sg:PSs X [] GB:=fun _ _ σ H _ I h=>Qg ⟨σ,H,I,h⟩
theorem lH (h1:PS X st t) (h2:PSs X rest u):PSs X (st :: rest) (JN t u):=by
 intro j' s σ H D I h;refine wpAny_execs_cons (thn (h1 j' s σ H { D with nx:=u D } I h) fun f s1 q=>?_);cases f with
 | next =>
  obtain ⟨σ',H',I',q⟩:=q;exact h2 j' s1 σ' H' D I' q
 | ret v=>exact q
 | brk=>exact q
 | cont=>exact q
theorem si (h1:PS X st t):PSs X [st] t:=by
 intro j' s σ H D I h;refine wpAny_execs_cons (thn (h1 j' s σ H D I h) fun f s1 q=>?_);cases f with
 | next=>exact Qg q
 | ret v=>exact q
 | brk=>exact q
 | cont=>exact q
theorem Inv.quiet {j':List (l_×Obj)} {σ:St} {H:Hp} {s:h_} (I:Inv X j' σ H s):interactive X.env=e_:=by simp [interactive,I.ok.kind]
def GC (te:TE):TS:=fun D σ H=>te σ H fun _ H1=>D.nx σ H1
theorem sj (he:PE X e te) (hs:Mk e ck pos.line X.env=pure e_:=by rfl):PS X (.Expr e pos) (GC te):=by
 intro j' s σ H D I h;exact wpAny_Expr_any (thn (he j' s σ H _ I h) fun v s1 ⟨x,H1,I1,r1,q1⟩=>⟨σ,H1,I1,q1⟩) I.quiet hs
def JO (te:TE):TS:=fun D σ H=>te σ H D.rt
theorem xQ (he:PE X e te):PS X (.Return (a_ e) pos) (JO te):=by
 intro j' s σ H D I h;exact wpAny_Return_some (thn (he j' s σ H _ I h) fun v s1 ⟨x,H1,I1,r1,q1⟩=>⟨x,σ,H1,I1,r1,q1⟩)
def JP (c:TT) (t u:TS):TS:=fun D σ H=>c σ H fun b H1=>if b=d_ then t D σ H1 else u D σ H1
theorem yX {c:H_} {a b:List L3} {tc:TT} (hc:PT X c tc) (ha:PSs X a t) (hb:PSs X b u):PS X (.If c a b pos) (JP tc t u):=by
 intro j' s σ H D I h;refine wpAny_If (thn (hc j' s σ H _ I h) fun d s1 ⟨H1,I1,q1⟩=>?_);cases d with
 | true=>exact ha j' s1 σ H1 D I1 q1
 | false=>exact hb j' s1 σ H1 D I1 q1
end
abbrev TG:=V→St→Hp→(St→Hp→Prop)→Prop
abbrev TGs:=List V→St→Hp→(St→Hp→Prop)→Prop
def PG (X:Cx) (target:H_) (t:TG):Prop :=
 ∀ (j':List (l_×Obj)) (s:h_) (σ:St) (H:Hp) (v:V) (u:g_) (Q:St→Hp→Prop),Inv X j' σ H s→RelV v u→t v σ H Q →
  v_ (F_ X.prog X.w) X.A (M4 target X.env u) (fun _ s'=>∃ σ' H',Inv X j' σ' H' s'∧Q σ' H') X.xe s
def PGs (X:Cx) (ts:List H_) (t:TGs):Prop :=
 ∀ (j':List (l_×Obj)) (s:h_) (σ:St) (H:Hp) (vs:List V) (us:List g_) (Q:St→Hp→Prop),Inv X j' σ H s→Vals vs us→t vs σ H Q →
  v_ (F_ X.prog X.w) X.A (assignInOrder ((KU ts X.env).map (·.2)) us) (fun _ s'=>∃ σ' H',Inv X j' σ' H' s'∧Q σ' H') X.xe s
abbrev GD:=V→V→V→Hp→(Hp→Prop)→Prop
def IV (X:Cx) (t:GD):Prop :=
 ∀ (j':List (l_×Obj)) (s:h_) (σ:St) (H:Hp) (o i v:V) (ov iv u:g_) (Q:Hp→Prop),Inv X j' σ H s→RelV o ov→RelV i iv→RelV v u→t o i v H Q →
  v_ (F_ X.prog X.w) X.A (setItem ov iv u) (fun _ s'=>∃ H',Inv X j' σ H' s'∧Q H') X.xe s
section
variable {X:Cx} {pos:Pos}
def vW (i:Nat):TG:=fun v σ H Q=>Q (σ.set i (a_ v)) H
theorem iE {i:Nat} {x:Str} (hN:X.N.Nodup) (hi:X.N[i]?=a_ x) (hx:Loc X.env.scope x) (hf:X.fn x=d_∨X.env.scope.names.lookup x=a_ .local:=by first | exact .inl rfl | exact .inr rfl | assumption):PG X (.Name x pos) (vW i):=by
 intro j' s σ H v u Q I r h;exact wpAny_assign_Name (pP I hN hi hx r (fun s' I'=>⟨_,H,I',h⟩) hf)
def JQ:TGs:=fun vs σ H Q=>vs=[]∧Q σ H
def GE (t:TG) (u:TGs):TGs:=fun vs σ H Q=>∃ v r,vs=v :: r∧t v σ H fun σ' H'=>u r σ' H' Q
theorem sk:PGs X [] JQ:=by
 intro j' s σ H vs us Q I r h;obtain ⟨e,h⟩:=h;subst e;cases r;exact assignInOrder_nil ⟨σ,H,I,h⟩
theorem lI {e:H_} {es:List H_} {t:TG} {u:TGs} (h1:PG X e t) (h2:PGs X es u)
 (hs:(KU (e :: es) X.env).map (·.2)=M4 e X.env :: (KU es X.env).map (·.2):=by rfl):PGs X (e :: es) (GE t u):=by
 intro j' s σ H vs us Q I r h;obtain ⟨v,vr,e1,h⟩:=h;subst e1;cases r with
 | cons r rr =>
  rw [hs];refine assignInOrder_cons (thn (h1 j' s σ H _ _ _ I r h) fun _ s1 ⟨σ1,H1,I1,q1⟩=>?_);exact h2 j' s1 σ1 H1 _ _ Q I1 rr q1
def JR (K:f_) (n:Nat) (t:TGs):TG:=fun v σ H Q=>∃ a xs,v=.ref a∧SqT K H a xs∧xs.length=n∧t xs σ H Q
theorem xR {es:List H_} {k:Nat} {t:TGs} {n:Nat} (hc:X.calm=d_) (h:PGs X es t)
 (hn:(KU es X.env).length=n:=by rfl) (hst:(KU es X.env).findIdx? (·.1)=ck:=by rfl):PG X (.Tuple es k pos) (JR X.K n t):=by
 intro j' s σ H v u Q I r hw;obtain ⟨a,xs,e1,hq,hl,hw⟩:=hw;subst e1;cases r;obtain ⟨its,rv,ht,hz⟩:=I.tuple hq;refine assign_Tuple_tuple (I.ok.hd hc) ht (by simp [hn,← hl,rv.length]) hst fun h' hx=>?_;have I1:Inv X j' σ H { s with heap:=h' }:=I.kept (t':=s.toks) fun b o e=>hx b o (KP (w_ e)) e;exact h j' _ σ H xs _ Q I1 (by simpa using rv) hw
def JU (to ti:TE) (t:GD):TG:=fun v σ H Q=>to σ H fun o H1=>ti σ H1 fun i H2=>t o i v H2 fun H3=>Q σ H3
theorem BW {o i:H_} {to ti:TE} {t:GD} (ho:PE X o to) (hi:PE X i ti) (hs:IV X t)
 (ha:∀ v,M4 (.Subscript o i pos) X.env v=(do
   let ov ← N8 [v] (eval o X.env)
   let iv ← N8 [v,ov] (eval i X.env)
   standAt pos
   N8 [v,ov,iv] (setItem ov iv v)
   release [v,ov,iv] []):=by intro _; rfl):PG X (.Subscript o i pos) (JU to ti t):=by
 intro j' s σ H v u Q I r h;rw [ha];refine c_ (Lp (thn (ho j' s σ H _ I h) fun ov s1 ⟨x,H1,I1,r1,q1⟩=>?_));refine c_ (Lp (thn (hi j' s1 σ H1 _ I1 q1) fun iv s2 ⟨y,H2,I2,r2,q2⟩=>?_));refine c_ (Ri (c_ (Lp (thn (hs j' s2 σ H2 x y v ov iv u _ I2 r1 r2 r q2) fun _ s3 ⟨H3,I3,q3⟩=>?_))));exact wpAny_release ⟨σ,H3,I3,q3⟩
def IW (te:TE) (g:TG):TS:=fun D σ H=>te σ H fun x H1=>g x σ H1 D.nx
theorem xS {tg e:H_} {te:TE} {g:TG} (he:PE X e te) (hg:PG X tg g) (hs:Rl [tg] e pos.line X.env=pure e_:=by rfl) (hw:Rm [tg] e X.env=pure ck:=by rfl)
 (h1:(KU [tg] X.env).map (·.2)=[M4 tg X.env]:=by rfl):PS X (.Assign [tg] e pos) (IW te g):=by
 intro j' s σ H D I h;refine wpAny_Assign_stores (thn (he j' s σ H _ I h) fun v s1 ⟨x,H1,I1,r1,q1⟩=>?_) hs hw;rw [h1];exact thn (hg j' s1 σ H1 x v _ I1 r1 q1) fun _ s2 q=>q
theorem sr {i:Nat} {x:Str} {e:H_} {te:TE} {pos':Pos} (hN:X.N.Nodup) (hi:X.N[i]?=a_ x) (hx:Loc X.env.scope x) (he:PE X e te) (hs:Mk e (a_ (.Name x pos')) pos.line X.env=pure e_:=by rfl) (hf:X.fn x=d_∨X.env.scope.names.lookup x=a_ .local:=by first | exact .inl rfl | exact .inr rfl | assumption) :
 PS X (.Assign [.Name x pos'] e pos) (IW te (vW i)):=by
 intro j' s σ H D I h;refine wpAny_Assign_Name (thn (he j' s σ H _ I h) fun v s1 ⟨y,H1,I1,r1,q1⟩=>?_) hs;exact pP I1 hN hi hx r1 (fun s2 I2=>⟨_,H1,I2,q1⟩) hf
end
section
variable {X:Cx} {pos:Pos}
end
structure It where
 go:Nat→Hp→Prop
 yld:Nat→Hp→V→Hp→Prop
 stop:Nat→Hp→Prop
def oG (X:Cx) (j':List (l_×Obj)) (H:Hp) (b:l_):Prop :=
 H b=ck∧b≠X.env.locals∧b ∉ X.fs∧(b∈X.ex∨X.s₀.heap.objs.size≤b)∧(∀ x c,X.env.cells.lookup x=a_ c→c≠b)∧∀ p∈X.pn ++ j',p.1≠b
theorem Inv.fpOk {X:Cx} {j':List (l_×Obj)} {σ:St} {H H':Hp} {s:h_} {b:l_} (I:Inv X j' σ H s) (hb:s.heap.objs.size≤b) (hn:H' b=ck):oG X j' H' b:=by
 refine ⟨hn,M9 (J_ I.lt hb),I.nofs hb,.inr (K5 I.sz hb),fun x c e z=>?_,fun p hp z=>?_⟩
 · obtain ⟨v,q⟩:=I.cell x c e;exact absurd (J_ q.lt (by rw [z]; exact hb)) (LX _)
 · exact absurd (J_ (w_ (I.pin p hp).1) (by rw [z]; exact hb)) (LX _)
structure vX (P:rl) (w:C_) (K:f_) (tg:H_) (J:It) (fp:List l_) (it:l_) (tn:Nat→KO→Prop):Prop where
 mem:it∈fp
 obj:∀ i h,tn i h→∀ b∈fp,∃ o,h.get? b=a_ o∧∀ v,o.data≠.cell v
 keep:∀ i h h',tn i h→(∀ b∈fp,∀ o,h.get? b=a_ o→h'.get? b=a_ o)→tn i h'
 item:∀ (X:Cx),X.prog=P→X.w=w→X.K=K→X.calm=d_→∀ (i:Nat) (j':List (l_×Obj)) (s:h_) (σ:St) (H:Hp) (E:g_→h_→Prop),Inv X j' σ H s→(∀ b∈fp,oG X j' H b)→tn i s.heap→J.go i H →
  v_ (F_ P w) X.A (Pw (.ref it)) (fun r s1=>∃ u,r=a_ u ∧
   v_ (F_ P w) X.A (OJ tg (.ref it) u) (fun _ s2=>∃ x H',Inv X j' σ H' s2∧RelV x u∧J.yld i H x H'∧tn (i + 1) s2.heap∧∀ b∈fp,H' b=ck) E s1) E s
 done:∀ (X:Cx),X.prog=P→X.w=w→X.K=K→X.calm=d_→∀ (i:Nat) (j':List (l_×Obj)) (s:h_) (σ:St) (H:Hp) (E:g_→h_→Prop),Inv X j' σ H s→(∀ b∈fp,oG X j' H b)→tn i s.heap→J.stop i H →
  v_ (F_ P w) X.A (Pw (.ref it)) (fun r s1=>r=ck∧Inv X j' σ H s1) E s
 self:∀ (A:E_) (i:Nat) (s:h_) (Q:g_→h_→Prop) (E:g_→h_→Prop),tn i s.heap→Q (.ref it) s→v_ (F_ P w) A (pyIter (.ref it)) Q E s
abbrev TI:=St→Hp→(It→Hp→Prop)→Prop
def PIE (X:Cx) (j':List (l_×Obj)) (σ:St) (tg:H_) (R:It→Hp→Prop) (itv:g_) (s2:h_):Prop :=
 ∃ (it:l_) (fp:List l_) (tn:Nat→KO→Prop) (J:It) (H':Hp),itv=.ref it∧Inv X j' σ H' s2∧vX X.prog X.w X.K tg J fp it tn∧tn 0 s2.heap∧(∀ b∈fp,oG X j' H' b)∧R J H'
def PI (X:Cx) (tg iter:H_) (wi:TI):Prop :=
 ∀ (j':List (l_×Obj)) (s:h_) (σ:St) (H:Hp) (R:It→Hp→Prop),Inv X j' σ H s→wi σ H R →
  v_ (F_ X.prog X.w) X.A (eval iter X.env) (fun v s1=>v_ (F_ X.prog X.w) X.A (pyIter v) (PIE X j' σ tg R) X.xe s1) X.xe s
theorem vY {M:Rq} {A:E_} {E:g_→h_→Prop} {s:h_} {tg:H_} {it:l_} {u:g_} {o:Obj} {n:String} {vs:Array g_} {Q:Unit→h_→Prop} (ho:s.heap.get? it=a_ o) (hc:o.cls=.type n) (hd:o.data=.fields vs)
 (hn:["enumerate","zip","dict_itemiterator","dict_reverseitemiterator","odict_iterator","itertools.zip_longest","itertools.pairwise"].contains n=e_) (hQ:Q () s):v_ M A (OJ tg (.ref it) u) Q E s:=by
 unfold OJ;cases tg <;> first
  | exact j_ hQ
  | (cases u <;> first
      | exact j_ hQ
      | (refine c_ (wpAny_load ho ?_)
         rw [hc,hd];show v_ M A (if (["enumerate","zip","dict_itemiterator","dict_reverseitemiterator","odict_iterator","itertools.zip_longest","itertools.pairwise"].contains n && vs[0]? == a_ (Qx _))=d_ then _ else _) Q E s;rw [if_neg (by intro h; rw [hn,Bool.false_and] at h; cases h)];exact j_ hQ))
def Itl (K:f_) (a:l_):It :=
 ⟨fun i H=>∃ xs x,SqL K H a xs∧xs[i]?=a_ x,fun i H x H'=>H'=H∧∀ xs,SqL K H a xs→xs[i]?=a_ x,fun i H=>∃ xs,SqL K H a xs∧xs.length≤i⟩
def Itt (K:f_) (a:l_):It :=
 ⟨fun i H=>∃ xs x,SqT K H a xs∧xs[i]?=a_ x,fun i H x H'=>H'=H∧∀ xs,SqT K H a xs→xs[i]?=a_ x,fun i H=>∃ xs,SqT K H a xs∧xs.length≤i⟩
def Itr (lo:Int) (n:Nat):It:=⟨fun i _=>i < n,fun i H x H'=>H'=H∧x=.int (lo + i),fun i _=>n≤i⟩
theorem su {P:rl} {w:C_} {K:f_} {tg:H_} (a it:l_):vX P w K tg (Itl K a) [it] it (fun i h=>h.IsListIter it a i) where
 mem:=by simp
 obj:=fun i h st b hb=>by
  have e:b=it:=by simpa using hb
  subst e;obtain ⟨o,e,c,d⟩:=st;exact ⟨o,e,fun v z=>by rw [d] at z; cases z⟩
 keep:=fun i h h' st k=>st.at fun o e=>k it (by simp) o e
 item:=by
  intro X hP hw hK hc i j' s σ H E I hf st hg;subst hP hw hK;obtain ⟨xs,x,hq,hx⟩:=hg;obtain ⟨its,rv,p,hz⟩:=I.list hq;obtain ⟨u,hu,ru⟩:=rv.get hx;obtain ⟨f0,f1,f2,f3,f4,f5⟩:=hf it (by simp);refine wpAny_pyNext_list_item st p.isList (x:=u) (by simpa using hu) fun h' st' sb=>?_;have I1:Inv X j' σ H { s with heap:=h' }:=I.turned (t':=s.toks) (fun b o hb e=>(sb.2 b hb).trans e) f0 f1 f3 f4 f5;obtain ⟨o,e,c,d⟩:=id st';exact ⟨u,rfl,vY (s:={ s with heap:=h' }) e c d (by decide) ⟨x,H,I1,ru,⟨rfl,fun ys hy=>by rw [I.list_inj hy hq]; exact hx⟩,st',fun b hb=>(hf b hb).1⟩⟩
 done:=by
  intro X hP hw hK hc i j' s σ H E I hf st hg;subst hP hw hK;obtain ⟨xs,hq,hx⟩:=hg;obtain ⟨its,rv,p,hz⟩:=I.list hq;obtain ⟨f0,f1,f2,f3,f4,f5⟩:=hf it (by simp);have hl:=rv.length;exact wpAny_pyNext_list_end (I.ok.hd hc) st p.isList (by simp; omega) fun h' eb=>⟨rfl,I.turned (t':=s.toks) (fun b o hb e=>eb b o hb e) f0 f1 f3 f4 f5⟩
 self:=fun _ _ _ _ _ st h=>wpAny_pyIter_listiter st h
theorem qQ {P:rl} {w:C_} {K:f_} {tg:H_} (a it:l_):vX P w K tg (Itt K a) [it] it (fun i h=>h.IsTupleIter it a i) where
 mem:=by simp
 obj:=fun i h st b hb=>by
  have e:b=it:=by simpa using hb
  subst e;obtain ⟨o,e,c,d⟩:=st;exact ⟨o,e,fun v z=>by rw [d] at z; cases z⟩
 keep:=fun i h h' st k=>st.at fun o e=>k it (by simp) o e
 item:=by
  intro X hP hw hK hc i j' s σ H E I hf st hg;subst hP hw hK;obtain ⟨xs,x,hq,hx⟩:=hg;obtain ⟨its,rv,p,hz⟩:=I.tuple hq;obtain ⟨u,hu,ru⟩:=rv.get hx;obtain ⟨f0,f1,f2,f3,f4,f5⟩:=hf it (by simp);refine wpAny_pyNext_tuple_item st (show s.heap.IsTuple a its.toArray from p) (x:=u) (by simpa using hu) fun h' st' sb=>?_;have I1:Inv X j' σ H { s with heap:=h' }:=I.turned (t':=s.toks) (fun b o hb e=>(sb.2 b hb).trans e) f0 f1 f3 f4 f5;obtain ⟨o,e,c,d⟩:=id st';exact ⟨u,rfl,vY (s:={ s with heap:=h' }) e c d (by decide) ⟨x,H,I1,ru,⟨rfl,fun ys hy=>by rw [I.tuple_inj hy hq]; exact hx⟩,st',fun b hb=>(hf b hb).1⟩⟩
 done:=by
  intro X hP hw hK hc i j' s σ H E I hf st hg;subst hP hw hK;obtain ⟨xs,hq,hx⟩:=hg;obtain ⟨its,rv,p,hz⟩:=I.tuple hq;obtain ⟨f0,f1,f2,f3,f4,f5⟩:=hf it (by simp);have hl:=rv.length;exact wpAny_pyNext_tuple_end (I.ok.hd hc) st (show s.heap.IsTuple a its.toArray from p) (by simp; omega) fun h' eb=>⟨rfl,I.turned (t':=s.toks) (fun b o hb e=>eb b o hb e) f0 f1 f3 f4 f5⟩
 self:=fun _ _ _ _ _ st h=>wpAny_pyIter_tupleiter st h
theorem qR {P:rl} {w:C_} {K:f_} {tg:H_} (it:l_) (lo:Int) (n:Nat):vX P w K tg (Itr lo n) [it] it (fun i h=>IsRangeIter h it (lo + (i:Nat) * 1) ((n:Int) - (i:Nat)) 1) where
 mem:=by simp
 obj:=fun i h st b hb=>by
  have e:b=it:=by simpa using hb
  subst e;exact ⟨_,st,fun v z=>by
   have z':QQ _=Data.cell v:=z;cases z'⟩
 keep:=fun i h h' st k=>k it (by simp) _ st
 item:=by
  intro X hP hw hK hc i j' s σ H E I hf st hg;subst hP hw hK;obtain ⟨f0,f1,f2,f3,f4,f5⟩:=hf it (by simp);have W:=Walks.range (prog:=X.prog) (w:=X.w) (I.ok.hd hc) it lo 1 n;refine W.item i s _ _ hg st fun v h' tk hv st' kk=>?_;obtain ⟨t,rfl⟩:=hv;have I1:Inv X j' σ H { s with heap:=h',toks:=tk }:=I.turned (fun b o hb e=>kk b o (by simpa using hb) e) f0 f1 f3 f4 f5;refine ⟨_,rfl,vY (s:={ s with heap:=h',toks:=tk }) (n:="range_iterator") st' rfl rfl (by decide) ⟨.int (lo + i),H,I1,⟨t,?_⟩,⟨rfl,rfl⟩,st',fun b hb=>(hf b hb).1⟩⟩;rw [Int.mul_one]
 done:=by
  intro X hP hw hK hc i j' s σ H E I hf st hg;subst hP hw hK;obtain ⟨f0,f1,f2,f3,f4,f5⟩:=hf it (by simp);exact wpAny_pyNext_range_end (I.ok.hd hc) st (by have:n≤i:=hg; omega) fun h' eb=>⟨rfl,I.turned (t':=s.toks) (fun b o hb e=>eb b o hb e) f0 f1 f3 f4 f5⟩
 self:=fun _ _ _ _ _ st h=>wpAny_pyIter_rangeiter st h
section
variable {X:Cx} {tg:H_}
theorem pQ {j':List (l_×Obj)} {σ:St} {H:Hp} {s:h_} {R:It→Hp→Prop} {E:g_→h_→Prop} {lo hi:Int} {t u v:Tok} {tk:Nat} (I:Inv X j' σ H s) (h1:-(2 ^ 62)≤lo) (h2:lo < 2 ^ 62) (h3:-(2 ^ 62)≤hi) (h4:hi < 2 ^ 62)
 (q:R (Itr lo (hi - lo).toNat) H):v_ (F_ X.prog X.w) X.A (pyIter (.ref s.heap.objs.size)) (PIE X j' σ tg R) E { s with heap:=s.heap.push { cls:=.type "range",data:=.fields #[.int lo t,.int hi u,.int 1 v] },toks:=tk }:=by
 refine wpAny_pyIter_range (IsRange.new ..) (small_one h1 h2 h3 h4) ?_;have I1:Inv X j' σ H { s with heap:=s.heap.push { cls:=.type "range",data:=.fields #[.int lo t,.int hi u,.int 1 v] },toks:=tk }:=I.kept fun b o e=>i_ _ e;refine ⟨(s.heap.push { cls:=.type "range",data:=.fields #[.int lo t,.int hi u,.int 1 v] }).objs.size,[(s.heap.push { cls:=.type "range",data:=.fields #[.int lo t,.int hi u,.int 1 v] }).objs.size],_,_,H,rfl,
  I1.kept (t':=tk) fun b o e=>i_ _ e,qR _ lo (hi - lo).toNat,?_,fun b hb=>?_,q⟩
 · have e1:lo + ((0:Nat):Int) * 1=lo:=by simp
   have e2:(((hi - lo).toNat:Nat):Int) - ((0:Nat):Int)=Builtin.Range.rangeSize lo hi 1:=by rw [rangeSize_one]; split <;> omega
   show IsRangeIter _ _ (lo + ((0:Nat):Int) * 1) ((((hi - lo).toNat:Nat):Int) - ((0:Nat):Int)) 1;rw [e1,e2];exact t_ _ rfl
 · have e:b=(s.heap.push { cls:=.type "range",data:=.fields #[.int lo t,.int hi u,.int 1 v] }).objs.size:=by simpa using hb
   subst e;exact I1.fpOk (r_ _) (I1.hok.fresh (r_ _))
def GF (ta:TA):TI:=fun σ H R=>ta σ H fun vs H1=>∃ j:Int,vs=[.int j]∧-(2 ^ 62)≤j∧j < 2 ^ 62∧R (Itr 0 j.toNat) H1
def GG (ta:TA):TI:=fun σ H R=>ta σ H fun vs H1=>∃ i j:Int,vs=[.int i,.int j]∧(-(2 ^ 62)≤i∧i < 2 ^ 62∧-(2 ^ 62)≤j∧j < 2 ^ 62)∧R (Itr i (j - i).toNat) H1
theorem sx {a:H_} {ta:TA} {p pos:Pos} (hg:Gl X "range") (hm:X.mg "range"=ck) (ha:PA X [a] ta) (hs:k_ [a] X.env=[(e_,eval a X.env)]:=by rfl):PI X tg (.Call (.Name "range" p) [a] [] pos) (GF ta):=by
 intro j' s σ H R I h;refine Call_ (iC I hg hm boot_range (Lz (thn (ha pos j' s σ H _ I h) fun us s1 ⟨vs,H1,I1,r1,q1⟩=>?_) hs rfl));obtain ⟨j,e,q1,q2,q⟩:=q1;subst e;cases r1 with
 | cons r rr =>
  cases rr;obtain ⟨t,rfl⟩:=r;exact call_range_1 (pQ I1 (by omega) (by omega) q1 q2 (by simpa using q))
theorem sy {a b:H_} {ta:TA} {p pos:Pos} (hg:Gl X "range") (hm:X.mg "range"=ck) (ha:PA X [a,b] ta) (hs:k_ [a,b] X.env=[(e_,eval a X.env),(e_,eval b X.env)]:=by rfl) (hs2:k_ [b] X.env=[(e_,eval b X.env)]:=by rfl) :
 PI X tg (.Call (.Name "range" p) [a,b] [] pos) (GG ta):=by
 intro j' s σ H R I h;refine Call_ (iC I hg hm boot_range (Lz (thn (ha pos j' s σ H _ I h) fun us s1 ⟨vs,H1,I1,r1,q1⟩=>?_) (by rw [hs,hs2]) (by rw [hs2]; rfl)));obtain ⟨i,j,e,⟨q1,q2,q3,q4⟩,q⟩:=q1;subst e;cases r1 with
 | cons r rr =>
  cases rr with
  | cons r' rr =>
   cases rr;obtain ⟨t,rfl⟩:=r;obtain ⟨t',rfl⟩:=r';exact call_range_2 (pQ I1 q1 q2 q3 q4 q)
def JV (wi:TI) (g:TG) (tb:TS):TS:=fun D σ H=>wi σ H fun J H1=>∃ W:Nat→Nat→St→Hp→Prop,(∃ m,W 0 m σ H1)∧∀ i m σ H,W i m σ H →
 (J.stop i H∧D.nx σ H)∨(J.go i H∧∃ N:St→Hp→Prop,(∀ σ' H',N σ' H'→∃ m',m' < m∧W (i + 1) m' σ' H')∧∀ x H',J.yld i H x H'→g x σ H' fun σ2 H2=>tb { D with nx:=N,ct:=N,bk:=D.nx } σ2 H2)
def dP (fp:List l_) (h:KO):List (l_×Obj):=fp.filterMap fun b=>(h.get? b).map fun o=>(b,o)
theorem dj {fp:List l_} {h:KO} {b:l_} {o:Obj} (hb:b∈fp) (e:h.get? b=a_ o):(b,o)∈dP fp h:=Pl.mpr ⟨b,hb,by rw [e]; rfl⟩
theorem ki {fp:List l_} {h:KO} {p:l_×Obj} (hp:p∈dP fp h):p.1∈fp∧h.get? p.1=a_ p.2:=by
 obtain ⟨b,hb,e⟩:=Pl.mp hp;cases q:h.get? b with
 | none=>rw [q] at e; cases e
 | some o =>
  rw [q] at e;have e':(b,o)=p:=KZ e;subst e';exact ⟨hb,q⟩
theorem Inv.pinned {j':List (l_×Obj)} {σ:St} {H:Hp} {s:h_} {fp:List l_} (I:Inv X j' σ H s) (hf:∀ b∈fp,oG X j' H b) (ho:∀ b∈fp,∃ o,s.heap.get? b=a_ o∧∀ v,o.data≠.cell v):Inv X (j' ++ dP fp s.heap) σ H s :=
 I.pins_of fun p hp=>(D_.mp hp).elim (fun z=>I.pin p (m_ _ z)) fun z=>by
  obtain ⟨hb,e⟩:=ki z;obtain ⟨f0,f1,f2,_⟩:=hf p.1 hb;obtain ⟨o,e',d⟩:=ho p.1 hb;rw [e] at e'; cases e';exact ⟨e,f0,f1,f2,d⟩
theorem Inv.unpinned {j' pl:List (l_×Obj)} {σ:St} {H:Hp} {s:h_} (I:Inv X (j' ++ pl) σ H s):Inv X j' σ H s:=I.pins_of fun p hp=>I.pin p (m_ _ (G_ _ hp))
theorem sE {iter:H_} {body:List L3} {wi:TI} {g:TG} {tb:TS} {pos:Pos} (hp:O3 (F_ X.prog X.w) X.A X.env X.xe) (hc:X.calm=d_) (hi:PI X tg iter wi) (hg:PG X tg g) (hb:PSs X body tb)
 (hs:∀ x,K9 iter X.env x=pure x:=by intro _; rfl):PS X (.For tg iter body [] pos) (JV wi g tb):=by
 intro j' s σ H D I h;refine wpAny_For (thn (hi j' s σ H _ I h) fun v s1 h1=>thn h1 fun itv s2 h2=>?_) hs;obtain ⟨it,fp,tn,J,H2,e,I2,T,st2,f2,W,⟨m0,w0⟩,turn⟩:=h2;subst e;have stat:∀ {H':Hp},(∀ b∈fp,H' b=ck)→∀ b∈fp,oG X j' H' b:=fun hn b hb=>⟨hn b hb,(f2 b hb).2⟩;refine codeAny_forLoop_any (fun n s'=>∃ i σ' H',Inv X j' σ' H' s'∧tn i s'.heap∧(∀ b∈fp,H' b=ck)∧W i n σ' H') ?_ m0 ⟨0,σ,H2,I2,st2,fun b hb=>(f2 b hb).1,w0⟩;rintro n s3 ⟨i,σ3,H3,I3,st3,fr3,w3⟩;rcases turn i n σ3 H3 w3 with ⟨stop,qn⟩ | ⟨go,N,hN,step⟩
 · refine NS hp (thn (T.done X rfl rfl rfl hc i j' s3 σ3 H3 X.xe I3 (stat fr3) st3 stop) fun r s4 ⟨hr,I4⟩=>?_);subst hr;exact Qg ⟨σ3,H3,I4,qn⟩
 · refine NS hp (thn (T.item X rfl rfl rfl hc i j' s3 σ3 H3 X.xe I3 (stat fr3) st3 go) fun r s4 ⟨u,hr,h4⟩=>?_);subst hr;refine NS hp (thn h4 fun _ s5 ⟨x,H5,I5,r5,y5,st5,fr5⟩=>?_);have I5':=I5.pinned (stat fr5) (T.obj _ _ st5);refine NS hp (thn (hg _ s5 σ3 H5 x u _ I5' r5 (step x H5 y5)) fun _ s6 ⟨σ6,H6,I6,q6⟩=>?_);refine NS hp (thn (hb _ s6 σ6 H6 _ I6 q6) fun f s7 q7=>?_);have again:∀ {σ7:St} {H7:Hp},Inv X (j' ++ dP fp s5.heap) σ7 H7 s7→N σ7 H7→∃ m,m < n∧∃ i σ' H',Inv X j' σ' H' s7∧tn i s7.heap∧(∀ b∈fp,H' b=ck)∧W i m σ' H':=fun {σ7 H7} I7 n7=>by
    obtain ⟨m',hm,w7⟩:=hN σ7 H7 n7;refine ⟨m',hm,i + 1,σ7,H7,I7.unpinned,T.keep _ _ _ st5 fun b hb o e=>(I7.pin (b,o) (m_ _ (m_ _ (dj hb e)))).1,fun b hb=>?_,w7⟩;obtain ⟨o,e,d⟩:=T.obj _ _ st5 b hb;exact (I7.pin (b,o) (m_ _ (m_ _ (dj hb e)))).2.1
   cases f with
   | next=>obtain ⟨σ7,H7,I7,n7⟩:=q7; exact again I7 n7
   | cont=>obtain ⟨σ7,H7,I7,n7⟩:=q7; exact again I7 n7
   | brk=>obtain ⟨σ7,H7,I7,q7⟩:=q7; exact ⟨σ7,H7,I7.unpinned,q7⟩
   | ret v=>obtain ⟨x7,σ7,H7,I7,r7,q7⟩:=q7; exact ⟨x7,σ7,H7,I7.unpinned,r7,q7⟩
end
abbrev R2:=V→V→Hp→VK→Prop
def OpR (X:Cx) (f:g_→g_→Sem g_) (r:R2):Prop :=
 ∀ (j':List (l_×Obj)) (s:h_) (σ:St) (H:Hp) (x y:V) (v u:g_) (Q:VK),Inv X j' σ H s→RelV x v→RelV y u→r x y H Q →
  v_ (F_ X.prog X.w) X.A (f v u) (EP X j' σ Q) X.xe s
def UnR (X:Cx) (f:g_→Sem g_) (r:V→Hp→VK→Prop):Prop :=
 ∀ (j':List (l_×Obj)) (s:h_) (σ:St) (H:Hp) (x:V) (v:g_) (Q:VK),Inv X j' σ H s→RelV x v→r x H Q →
  v_ (F_ X.prog X.w) X.A (f v) (EP X j' σ Q) X.xe s
def CallR (X:Cx) (f:g_) (r:List V→Hp→VK→Prop):Prop :=
 ∀ (j':List (l_×Obj)) (s:h_) (σ:St) (H:Hp) (xs:List V) (us:List g_) (Q:VK),Inv X j' σ H s→Vals xs us→r xs H Q →
  v_ (F_ X.prog X.w) X.A (call f us) (EP X j' σ Q) X.xe s
def tOp (r:R2) (ta tb:TE):TE:=fun σ H Q=>ta σ H fun x H1=>tb σ H1 fun y H2=>r x y H2 Q
def tUn (r:V→Hp→VK→Prop) (ta:TE):TE:=fun σ H Q=>ta σ H fun x H1=>r x H1 Q
def rI (C:Int→Int→Prop) (g:Int→Int→V):R2:=fun x y H Q=>∃ i j,x=.int i∧y=.int j∧C i j∧Q (g i j) H
def rI0 (g:Int→Int→V):R2:=fun x y H Q=>∃ i j,x=.int i∧y=.int j∧Q (g i j) H
def rU (g:Int→V):V→Hp→VK→Prop:=fun x H Q=>∃ i,x=.int i∧Q (g i) H
section
variable {X:Cx} {a b c:H_} {ta tb tc:TE} {pos:Pos}
theorem GH (ha:PE X a ta) (hb:PE X b tb) {j':List (l_×Obj)} {s:h_} {σ:St} {H:Hp} {R:V→V→Hp→Prop} (I:Inv X j' σ H s)
 (h:ta σ H fun x H1=>tb σ H1 fun y H2=>R x y H2) {Q:g_→h_→Prop} {f:g_→g_→Sem g_}
 (hf:∀ v u s2 x y H2,Inv X j' σ H2 s2→RelV x v→RelV y u→R x y H2→v_ (F_ X.prog X.w) X.A (f v u) Q X.xe s2) :
 v_ (F_ X.prog X.w) X.A (eval a X.env) (fun v s₁=>v_ (F_ X.prog X.w) X.A (eval b X.env) (fun u s₂=>v_ (F_ X.prog X.w) X.A (f v u) Q X.xe s₂) X.xe s₁) X.xe s:=by
 refine thn (ha j' s σ H _ I h) fun v s1 ⟨x,H1,I1,r1,q1⟩=>?_;refine thn (hb j' s1 σ H1 _ I1 q1) fun u s2 ⟨y,H2,I2,r2,q2⟩=>?_;exact hf v u s2 x y H2 I2 r1 r2 q2
theorem GI {op:Operator} {r:R2} (ho:OpR X (L5 op) r) (ha:PE X a ta) (hb:PE X b tb):PE X (.BinOp a op b pos) (tOp r ta tb):=by
 intro j' s σ H Q I h;exact wpAny_BinOp (GH ha hb I h fun v u s2 x y H2 I2 rx ry q=>ho j' s2 σ H2 x y v u Q I2 rx ry q)
theorem GJ {op:UnaryOp} {r:V→Hp→VK→Prop} (ho:UnR X (unaryOp op) r) (ha:PE X a ta):PE X (.UnaryOp op a pos) (tUn r ta):=by
 intro j' s σ H Q I h;exact UnaryOp_ (thn (ha j' s σ H _ I h) fun v s1 ⟨x,H1,I1,r1,q1⟩=>ho j' s1 σ H1 x v Q I1 r1 q1)
theorem opI {f:g_→g_→Sem g_} {C:Int→Int→Prop} {g:Int→Int→Int}
 (rule:∀ (i j:Int) (t u:Tok) (s:h_) (Q:g_→h_→Prop) (E:g_→h_→Prop),C i j→Q (.int (g i j) s.toks) { s with toks:=s.toks + 1 }→v_ (F_ X.prog X.w) X.A (f (.int i t) (.int j u)) Q E s) :
 OpR X f (rI C fun i j=>.int (g i j)):=by
 intro j' s σ H x y v u Q I rx ry h;obtain ⟨i,j,rfl,rfl,hc,q⟩:=h;obtain ⟨t,rfl⟩:=rx;obtain ⟨t',rfl⟩:=ry;exact rule i j t t' s _ _ hc ⟨.int (g i j),H,I.tok _,⟨_,rfl⟩,q⟩
theorem IX {f:g_→g_→Sem g_} {g:Int→Int→Int}
 (rule:∀ (i j:Int) (t u:Tok) (s:h_) (Q:g_→h_→Prop) (E:g_→h_→Prop),Q (.int (g i j) s.toks) { s with toks:=s.toks + 1 }→v_ (F_ X.prog X.w) X.A (f (.int i t) (.int j u)) Q E s) :
 OpR X f (rI0 fun i j=>.int (g i j)):=by
 intro j' s σ H x y v u Q I rx ry h;obtain ⟨i,j,rfl,rfl,q⟩:=h;obtain ⟨t,rfl⟩:=rx;obtain ⟨t',rfl⟩:=ry;exact rule i j t t' s _ _ ⟨.int (g i j),H,I.tok _,⟨_,rfl⟩,q⟩
theorem GK {f:g_→g_→Sem g_} {g:Int→Int→Bool}
 (rule:∀ (i j:Int) (t u:Tok) (s:h_) (Q:g_→h_→Prop) (E:g_→h_→Prop),Q (.bool (g i j)) s→v_ (F_ X.prog X.w) X.A (f (.int i t) (.int j u)) Q E s) :
 OpR X f (rI0 fun i j=>.bl (g i j)):=by
 intro j' s σ H x y v u Q I rx ry h;obtain ⟨i,j,rfl,rfl,q⟩:=h;obtain ⟨t,rfl⟩:=rx;obtain ⟨t',rfl⟩:=ry;exact rule i j t t' s _ _ ⟨.bl (g i j),H,I,rfl,q⟩
def IY (i j:Int):Prop:=0 < j∧j < 1073741824
def CMul (i j:Int):Prop:=(-(2 ^ 64) < i∧i < 2 ^ 64)∨(-(2 ^ 64) < j∧j < 2 ^ 64)
theorem CMul.ok {i j:Int} (h:CMul i j):IntMulOk i j:=by
 rcases h with ⟨h1,h2⟩ | ⟨h1,h2⟩
 · exact .of_left (intBits_le_64 h1 h2)
 · exact .of_right (intBits_le_64 h1 h2)
theorem op_add:OpR X (L5 .Add) (rI0 fun i j=>.int (i + j)):=IX fun _ _ _ _ _ _ _ q=>add_int q
theorem BX:OpR X (L5 .Sub) (rI0 fun i j=>.int (i - j)):=IX fun _ _ _ _ _ _ _ q=>sub_int q
theorem xT:OpR X (L5 .Mult) (rI CMul fun i j=>.int (i * j)):=opI fun _ _ _ _ _ _ _ hc q=>mul_int q hc.ok
theorem yY:OpR X (L5 .FloorDiv) (rI IY fun i j=>.int (i / j)):=opI fun i j _ _ _ _ _ hc q=>by
 have h1:(0:Int) < j:=hc.1;have h2:j < 1073741824:=hc.2;exact floordiv_int (by omega) (by rw [Int.fdiv_eq_ediv_of_nonneg i (by omega)]; exact q) (.inl (PyProof.noPylong_small (by omega)))
theorem BY:OpR X (L5 .Mod) (rI (fun _ j=>0 < j) fun i j=>.int (i % j)):=opI fun i j _ _ _ _ _ hc q=>by
 have h1:(0:Int) < j:=hc;exact mod_int' (by omega) (by rw [Int.fmod_eq_emod_of_nonneg i (by omega)]; exact q)
theorem unI {f:g_→Sem g_} {g:Int→Int}
 (rule:∀ (i:Int) (t:Tok) (s:h_) (Q:g_→h_→Prop) (E:g_→h_→Prop),Q (.int (g i) s.toks) { s with toks:=s.toks + 1 }→v_ (F_ X.prog X.w) X.A (f (.int i t)) Q E s) :
 UnR X f (rU fun i=>.int (g i)):=by
 intro j' s σ H x v Q I rx h;obtain ⟨i,rfl,q⟩:=h;obtain ⟨t,rfl⟩:=rx;exact rule i t s _ _ ⟨.int (g i),H,I.tok _,⟨_,rfl⟩,q⟩
theorem BZ:UnR X (unaryOp .USub) (rU fun i=>.int (-i)):=unI fun _ _ _ _ _ q=>neg_int q
end
def GL:V→V→Bool
 | .non,.non=>d_ | .non,.int _=>d_ | .int _,.non=>d_ | .non,.bl _=>d_ | .bl _,.non=>d_ | .non,.str _=>d_ | .str _,.non=>d_
 | .int _,.int _=>d_ | .bl _,.bl _=>d_ | .str _,.str _=>d_ | .byt _,.byt _=>d_
 | .int _,.str _=>d_ | .str _,.int _=>d_ | .bl _,.str _=>d_ | .str _,.bl _=>d_
 | _,_=>e_
def rEq:R2:=fun x y H Q=>GL x y=d_∧Q (.bl (u_ (x=y))) H
def rNe:R2:=fun x y H Q=>GL x y=d_∧Q (.bl (!u_ (x=y))) H
theorem oH {i j:Int}:u_ (V.int i=V.int j)=(i == j):=by
 rw [Lm];simp
theorem sI {i j:Bool}:u_ (V.bl i=V.bl j)=(i == j):=by
 rw [Lm];simp
theorem oJ {i j:Str}:u_ (V.str i=V.str j)=(i == j):=by
 rw [Lm];simp
theorem sJ {i j:Array UInt8}:u_ (V.byt i=V.byt j)=(i.toList == j.toList):=by
 rw [Lm];cases i;cases j;simp
section
variable {X:Cx} {a b c:H_} {ta tb tc:TE} {pos:Pos}
theorem bD {j':List (l_×Obj)} {σ:St} {H:Hp} {s:h_} {Q:VK} {k k':Bool} (I:Inv X j' σ H s) (q:Q (.bl k) H) (e:k=k'):EP X j' σ Q (.bool k') s:=by
 subst e;exact ⟨.bl k,H,I,rfl,q⟩
theorem op_eq:OpR X (K_ .Eq) rEq:=by
 intro j' s σ H x y v u Q I rx ry h;obtain ⟨hs,q⟩:=h;cases x with
 | non =>
  cases rx;cases y with
  | non=>cases ry; exact PySem.EqNone.eq_none_none (bD I q (by simp))
  | bl j=>cases ry; exact PySem.EqNone.eq_none_bool (bD I q (by simp))
  | int j=>obtain ⟨t',rfl⟩:=ry; exact PySem.EqNone.eq_none_int (bD I q (by simp))
  | str j=>obtain ⟨t',rfl⟩:=ry; exact PySem.EqNone.eq_none_str (bD I q (by simp))
  | _=>exact absurd (show e_=d_ from hs) xy
 | bl i =>
  cases rx;cases y with
  | non=>cases ry; exact PySem.EqNone.eq_bool_none (bD I q (by simp))
  | bl j=>cases ry; exact eq_bool (bD I q sI)
  | str j=>obtain ⟨t',rfl⟩:=ry; exact PySem.EqMixed.eq_bool_str (bD I q (by simp))
  | _=>exact absurd (show e_=d_ from hs) xy
 | int i =>
  obtain ⟨t,rfl⟩:=rx;cases y with
  | non=>cases ry; exact PySem.EqNone.eq_int_none (bD I q (by simp))
  | int j=>obtain ⟨t',rfl⟩:=ry; exact eq_int (bD I q oH)
  | str j=>obtain ⟨t',rfl⟩:=ry; exact PySem.EqMixed.eq_int_str (bD I q (by simp))
  | _=>exact absurd (show e_=d_ from hs) xy
 | str i =>
  obtain ⟨t,rfl⟩:=rx;cases y with
  | non=>cases ry; exact PySem.EqNone.eq_str_none (bD I q (by simp))
  | bl j=>cases ry; exact PySem.EqMixed.eq_str_bool (bD I q (by simp))
  | int j=>obtain ⟨t',rfl⟩:=ry; exact PySem.EqMixed.eq_str_int (bD I q (by simp))
  | str j=>obtain ⟨t',rfl⟩:=ry; exact eq_str (bD I q oJ)
  | _=>exact absurd (show e_=d_ from hs) xy
 | byt i =>
  obtain ⟨t,rfl⟩:=rx;cases y with
  | byt j=>obtain ⟨t',rfl⟩:=ry; exact PySem.W.eq_bytes (bD I q sJ)
  | _=>exact absurd (show e_=d_ from hs) xy
 | _=>cases y <;> exact absurd (show e_=d_ from hs) xy
theorem op_ne:OpR X (K_ .NotEq) rNe:=by
 intro j' s σ H x y v u Q I rx ry h;obtain ⟨hs,q⟩:=h;cases x with
 | non =>
  cases rx;cases y with
  | non=>cases ry; exact PySem.EqNone.ne_none_none (bD I q (by simp))
  | bl j=>cases ry; exact PySem.EqNone.ne_none_bool (bD I q (by simp))
  | int j=>obtain ⟨t',rfl⟩:=ry; exact PySem.EqNone.ne_none_int (bD I q (by simp))
  | str j=>obtain ⟨t',rfl⟩:=ry; exact PySem.EqNone.ne_none_str (bD I q (by simp))
  | _=>exact absurd (show e_=d_ from hs) xy
 | bl i =>
  cases rx;cases y with
  | non=>cases ry; exact PySem.EqNone.ne_bool_none (bD I q (by simp))
  | bl j=>cases ry; exact ne_bool (bD I q (congrArg not sI))
  | str j=>obtain ⟨t',rfl⟩:=ry; exact PySem.EqMixed.ne_bool_str (bD I q (by simp))
  | _=>exact absurd (show e_=d_ from hs) xy
 | int i =>
  obtain ⟨t,rfl⟩:=rx;cases y with
  | non=>cases ry; exact PySem.EqNone.ne_int_none (bD I q (by simp))
  | int j=>obtain ⟨t',rfl⟩:=ry; exact ne_int (bD I q (congrArg not oH))
  | str j=>obtain ⟨t',rfl⟩:=ry; exact PySem.EqMixed.ne_int_str (bD I q (by simp))
  | _=>exact absurd (show e_=d_ from hs) xy
 | str i =>
  obtain ⟨t,rfl⟩:=rx;cases y with
  | non=>cases ry; exact PySem.EqNone.ne_str_none (bD I q (by simp))
  | bl j=>cases ry; exact PySem.EqMixed.ne_str_bool (bD I q (by simp))
  | int j=>obtain ⟨t',rfl⟩:=ry; exact PySem.EqMixed.ne_str_int (bD I q (by simp))
  | str j=>obtain ⟨t',rfl⟩:=ry; exact ne_str (bD I q (congrArg not oJ))
  | _=>exact absurd (show e_=d_ from hs) xy
 | byt i =>
  obtain ⟨t,rfl⟩:=rx;cases y with
  | byt j=>obtain ⟨t',rfl⟩:=ry; exact PySem.W.ne_bytes (bD I q (congrArg not sJ))
  | _=>exact absurd (show e_=d_ from hs) xy
 | _=>cases y <;> exact absurd (show e_=d_ from hs) xy
theorem op_lt:OpR X (K_ .Lt) (rI0 fun i j=>.bl (u_ (i < j))):=GK fun _ _ _ _ _ _ _ q=>lt_int q
theorem op_le:OpR X (K_ .LtE) (rI0 fun i j=>.bl (u_ (i≤j))):=GK fun _ _ _ _ _ _ _ q=>le_int q
theorem B0:OpR X (K_ .Gt) (rI0 fun i j=>.bl (u_ (j < i))):=GK fun _ _ _ _ _ _ _ q=>gt_int q
theorem sK:OpR X (K_ .Lt) (fun x y H Q=>∃ i j,x=.str i∧y=.str j∧Q (.bl (u_ (i.cps.toList < j.cps.toList))) H):=by
 intro j' s σ H x y v u Q I rx ry h;obtain ⟨i,j,rfl,rfl,q⟩:=h;obtain ⟨t,rfl⟩:=rx;obtain ⟨t',rfl⟩:=ry;exact lt_str (bD I q rfl)
theorem op_in_str:OpR X (K_ .In) (fun x y H Q=>∃ i j,x=.str i∧y=.str j∧Q (.bl (!(K2 j i 0 j.length 1).isEmpty)) H):=by
 intro j' s σ H x y v u Q I rx ry h;obtain ⟨i,j,rfl,rfl,q⟩:=h;obtain ⟨t,rfl⟩:=rx;obtain ⟨t',rfl⟩:=ry;exact in_str (bD I q rfl)
theorem xU:OpR X (K_ .Is) (fun x y H Q=>y=.non∧Q (.bl (u_ (x=.non))) H):=by
 intro j' s σ H x y v u Q I rx ry h;obtain ⟨rfl,q⟩:=h;cases ry;refine is_none_gen (bD I q ?_);cases x <;> first
  | (cases rx; rfl)
  | (obtain ⟨t,rfl⟩:=rx; rfl)
theorem sL:OpR X (K_ .IsNot) (fun x y H Q=>y=.non∧Q (.bl (!u_ (x=.non))) H):=by
 intro j' s σ H x y v u Q I rx ry h;obtain ⟨rfl,q⟩:=h;cases ry;refine isnot_none_gen (bD I q ?_);cases x <;> first
  | (cases rx; rfl)
  | (obtain ⟨t,rfl⟩:=rx; rfl)
theorem OpR.or {f:g_→g_→Sem g_} {r r':R2} (h:OpR X f r) (h':OpR X f r'):OpR X f (fun x y H Q=>r x y H Q∨r' x y H Q):=by
 intro j' s σ H x y v u Q I rx ry q;rcases q with q | q
 · exact h j' s σ H x y v u Q I rx ry q
 · exact h' j' s σ H x y v u Q I rx ry q
theorem IZ (b:H_) {op:CmpOp} (h:op≠.In:=by decide) (h2:op≠.NotIn:=by decide):KT op b=e_:=by
 have e1:(op == CmpOp.In)=e_:=by cases op <;> first | rfl | exact absurd rfl h
 have e2:(op == CmpOp.NotIn)=e_:=by cases op <;> first | rfl | exact absurd rfl h2
 cases b <;> simp [KT,e1,e2]
theorem yZ {op:CmpOp} {r:R2} (ho:OpR X (K_ op) r) (ha:PE X a ta) (hb:PE X b tb) (hm:KT op b=e_):PE X (.Compare a [op] [b] pos) (tOp r ta tb):=by
 intro j' s σ H Q I h;exact wpAny_Compare1 (GH ha hb I h fun v u s2 x y H2 I2 rx ry q=>ho j' s2 σ H2 x y v u Q I2 rx ry q) hm
def GM (t:TE):TT:=fun σ H Q=>t σ H fun x H'=>∃ k,x=.bl k∧Q k H'
theorem y3 {op:CmpOp} {r:R2} (ho:OpR X (K_ op) r) (ha:PE X a ta) (hb:PE X b tb) (hm:KT op b=e_):PT X (.Compare a [op] [b] pos) (GM (tOp r ta tb)):=by
 intro j' s σ H Q I h;refine wpAny_isTrue_Compare1 (thn (ha j' s σ H _ I h) fun v s1 ⟨x,H1,I1,r1,q1⟩=>thn (hb j' s1 σ H1 _ I1 q1) fun u s2 ⟨y,H2,I2,r2,q2⟩ =>
  thn (ho j' s2 σ H2 x y v u _ I2 r1 r2 q2) fun c s3 ⟨z,H3,I3,r3,k,e,q3⟩=>?_) hm
 subst e;cases r3;exact Me ⟨H3,I3,q3⟩
theorem mF:(sizeLine:Nat) < 2 ^ 63:=by rw [Nt]; decide
theorem op_add_str:OpR X (L5 .Add) (fun x y H Q=>∃ i j,x=.str i∧y=.str j∧i.length + j.length≤sizeLine∧Q (.str (i ++ j)) H):=by
 intro j' s σ H x y v u Q I rx ry h;obtain ⟨i,j,rfl,rfl,hz,q⟩:=h;obtain ⟨t,rfl⟩:=rx;obtain ⟨t',rfl⟩:=ry;exact add_str (fun t' tk=>⟨.str (i ++ j),H,I.tok _,⟨_,rfl⟩,q⟩) hz
theorem eR {x:V} {us:List g_} (r:Vals [x] us):∃ u,us=[u]∧RelV x u:=by
 cases r with
 | cons r1 r2=>cases r2; exact ⟨_,rfl,r1⟩
theorem B1 {x y:V} {us:List g_} (r:Vals [x,y] us):∃ u w',us=[u,w']∧RelV x u∧RelV y w':=by
 cases r with
 | cons r1 r2 =>
  cases r2 with
  | cons r3 r4=>cases r4; exact ⟨_,_,rfl,r1,r3⟩
theorem sM (hc:X.calm=d_):CallR X (.builtin "min") (fun xs H Q=>∃ i j,xs=[.int i,.int j]∧Q (.int (if j < i then j else i)) H):=by
 intro j' s σ H xs us Q I r h;obtain ⟨i,j,rfl,q⟩:=h;obtain ⟨u,w',rfl,⟨t,rfl⟩,⟨t',rfl⟩⟩:=B1 r;refine min_two_ints (I.ok.hd hc) fun h' tk k=>⟨_,H,I.kept k,?_,q⟩;by_cases hj:j < i
 · rw [if_pos hj,if_pos hj]; exact ⟨_,rfl⟩
 · rw [if_neg hj,if_neg hj]; exact ⟨_,rfl⟩
theorem mG:CallR X (.type "str") (fun xs H Q=>∃ i,xs=[.int i]∧i.natAbs.log2 < 1920∧Q (.str (SF i)) H):=by
 intro j' s σ H xs us Q I r h;obtain ⟨i,rfl,hz,q⟩:=h;obtain ⟨u,rfl,t,rfl⟩:=eR r;exact Rx hz ⟨.str _,H,I.tok _,⟨_,rfl⟩,q⟩
def JW (K:f_) (x:V) (H:Hp) (n:Nat):Prop :=
 match x with
 | .str y=>y.length≤sizeLine∧n=y.length
 | .byt y=>y.size≤sizeLine∧n=y.size
 | .ref p=>(∃ xs,SqL K H p xs∧n=xs.length)∨∃ xs,SqT K H p xs∧n=xs.length
 | _=>False
theorem vZ:CallR X (.builtin "len") (fun xs H Q=>∃ x n,xs=[x]∧JW X.K x H n∧Q (.int n) H):=by
 intro j' s σ H xs us Q I r h;obtain ⟨x,n,rfl,e,q⟩:=h;obtain ⟨u,rfl,rx⟩:=eR r;have hl:=mF;have hs:sizeLine=16777216:=Nt;cases x with
 | str y =>
  obtain ⟨t,rfl⟩:=rx;obtain ⟨hy,e'⟩:y.length≤sizeLine∧n=y.length:=e;subst e';exact len_str (by omega) ⟨.int _,H,I.tok _,⟨_,rfl⟩,q⟩
 | byt y =>
  obtain ⟨t,rfl⟩:=rx;obtain ⟨hy,e'⟩:y.size≤sizeLine∧n=y.size:=e;subst e';exact PySem.W.len_bytes (by omega) ⟨.int _,H,I.tok _,⟨_,rfl⟩,q⟩
 | ref p =>
  cases rx;have e':(∃ xs,SqL X.K H p xs∧n=xs.length)∨∃ xs,SqT X.K H p xs∧n=xs.length:=e;rcases e' with ⟨xs,hx,e'⟩ | ⟨xs,hx,e'⟩
  · subst e';obtain ⟨its,r',pl,hz⟩:=I.list hx;have hlen:=r'.length;exact Calls.call_len_list pl.isList (by simp only [A_]; omega) ⟨.int xs.length,H,I.tok _,⟨_,by simp only [A_]; rw [hlen]⟩,q⟩
  · subst e';obtain ⟨its,r',pl,hz⟩:=I.tuple hx;have hlen:=r'.length;exact len_tuple pl (by simp only [A_]; omega) ⟨.int xs.length,H,I.tok _,⟨_,by simp only [A_]; rw [hlen]⟩,q⟩
 | _=>exact (show False from e).elim
end
structure ObjM (h:KO) (x dx C:l_) (mA:Str→Option g_):Prop where
 obj:h.get? x=a_ (My C dx)
 ns:h.Ns1 dx mA
 ne:dx≠x
theorem sN {h:KO} {dx:l_} {mA:Str→Option g_} (n:h.Ns1 dx mA):∃ od,h.get? dx=a_ od∧∀ name,QG name od=a_ (mA name):=by
 obtain ⟨o,es,ep,ho,hd,hk,_,hm⟩:=n;refine ⟨o,ho,fun name=>?_⟩;have e:=hm name;unfold nsFind findBy at e;rw [← Array.find?_toList] at e;unfold QG;rw [hd];dsimp only;split
 · rename_i y q;rw [q] at e;exact congrArg a_ e
 · rename_i q;rw [q] at e;have a:es.toList.any (·.refKey)=e_:=by
    rw [Oo];intro y hy;obtain ⟨z,t,hkey⟩:=hk y (LB.mp hy);simp [DictEntry.refKey,hkey]
   have a':¬ es.toList.any (·.refKey)=d_:=by rw [a]; exact xy
   rw [if_neg a'];exact congrArg a_ e
theorem ObjM.look {h:KO} {x dx C:l_} {mA:Str→Option g_} (I:ObjM h x dx C mA):∃ od,PySem.W.InstAt h x (My C dx) C (a_ od)∧∀ name,QG name od=a_ (mA name) :=
 let ⟨od,ho,hl⟩:=sN I.ns
 ⟨od,⟨I.obj,rfl,rfl,ho⟩,hl⟩
section
variable {prog:rl} {w:C_} {A:E_} {E:g_→h_→Prop} {s:h_} {K:f_} {x dx C f:l_} {mA:Str→Option g_} {name:Str} {v:g_}
end
section
variable {P:rl} {w:C_} {H H':Hp} {h h':KO} {a C dx:l_} {fs fs':List (Str×V)}
theorem y4 (hok:HOk P w H h) (e:H a=a_ (.ins C dx fs)):∃ mA,ObjM h a dx C mA∧(∀ f,Gs (fs.lookup f) (mA f))∧PySem.Within mA (fs.map (·.1))∧fs.length≤1000∧H dx=a_ (.own a):=by
 obtain ⟨d,z,ne,ob,mA,n,r,q⟩:=(show ObjOk P w H h a (.ins C dx fs) from hok a _ e);exact ⟨mA,⟨ob,n,ne⟩,r,q,z,d⟩
end
structure Cls (K:f_) (C:l_):Prop where
 pg:R1 K C S8=d_
 hd:PySem.W.hasDictIn K C=d_
 po:PySem.W.plainOver K C=d_
 sa:SU K (.ref C) "__setattr__"=a_ (a_ (.builtin "object.__setattr__"))
theorem Cls.get {K:f_} {C:l_} (c:Cls K C) (f:Str):R1 K C f=d_:=c.pg
section
variable {X:Cx} {j':List (l_×Obj)} {σ:St} {H:Hp} {s:h_} {a C dx:l_} {fs:List (Str×V)} {f:Str} {v:V} {A:E_} {E:g_→h_→Prop}
theorem Inv.made (I:Inv X j' σ H s):Inv X j' σ (upd (upd H s.heap.objs.size (.own (s.heap.objs.size + 1))) (s.heap.objs.size + 1) (.ins C s.heap.objs.size []))
 { s with heap:=(s.heap.push LY).push (My C s.heap.objs.size) }:=by
 have e1:(s.heap.push LY).get? s.heap.objs.size=a_ LY:=t_ s.heap rfl;have e2:((s.heap.push LY).push (My C s.heap.objs.size)).get? (s.heap.objs.size + 1)=a_ (My C s.heap.objs.size):=by
  have:=t_ (s.heap.push LY) (o:=My C s.heap.objs.size) rfl
  rwa [K8] at this
 have e3:(s.heap.push LY).Ns s.heap.objs.size (fun _=>ck):=⟨LY,#[],_,e1,rfl,(fun e he=>absurd he (by simp)),fun _=>rfl⟩;have I1:=I.laid (a:=s.heap.objs.size) (o:=.own (s.heap.objs.size + 1)) (h':=s.heap.push LY) (t':=s.toks) (fun b u q=>i_ _ q) (r_ _) ⟨_,e1⟩;refine I1.laid (a:=s.heap.objs.size + 1) (o:=.ins C s.heap.objs.size []) (t':=s.toks) (fun b u q=>i_ _ q) (Oj (K8 _ _)) ?_;have ne:s.heap.objs.size≠s.heap.objs.size + 1:=KP (Oy _);refine ⟨by rw [ay ne,ax],K3 _,ne,e2,fun _=>ck,(Heap.Ns1.of_empty e3).at fun o q=>i_ _ q,fun _=>O4,fun y hy=>absurd rfl hy⟩
end
section
variable {X:Cx} {o e value:H_} {f:Str} {pos pos' tpos:Pos} {ta tv:TE}
end
section
variable {X:Cx} {j':List (l_×Obj)} {σ:St} {H:Hp} {s:h_} {A:E_} {E:g_→h_→Prop} {Q:g_→h_→Prop} {c:g_} {b:Bool}
inductive pR (K:f_) (H:Hp):V→g_→Prop where
 | non:pR K H .non (.type "NoneType")
 | bl (x:Bool):pR K H (.bl x) (.type "bool")
 | int (i:Int):pR K H (.int i) (.type "int")
 | str (x:Str):pR K H (.str x) (.type "str")
 | flt (x:UInt64):pR K H (.flt x) (.type "float")
 | lst {a:l_} {xs:List V} (e:H a=a_ (.lst xs)):pR K H (.ref a) (.type "list")
 | frz {a:l_} {o:Obj} {xs:List V} (e:H a=a_ (.frz o (.lst xs))):pR K H (.ref a) (.type "list")
 | tup {a:l_} {xs:List V} (e:H a=a_ (.tup xs)):pR K H (.ref a) (.type "tuple")
 | dK {a:l_} {kvs:List (Key×V)} (e:H a=a_ (.dK kvs)):pR K H (.ref a) (.type "dict")
 | dT {a:l_} {kvs:List (List Key×V)} (e:H a=a_ (.dT kvs)):pR K H (.ref a) (.type "dict")
 | ins {a C dx:l_} {fs:List (Str×V)} (e:H a=a_ (.ins C dx fs)) (cl:Cls K C) (ha:SU K (.ref C) "__class__"=a_ (a_ (.builtin "object.__class__")))
  (hn:PySem.W.specialIn K (.builtin "object.__class__") "__get__"=a_ (a_ (.builtin "getset_descriptor.__get__"))) (htk:PySem.W.takesIn K (.builtin "object.__class__")=a_ d_)
  (hm:PySem.W.mroIn K C (.type "object")=a_ d_):pR K H (.ref a) (.ref C)
theorem sQ {x:V} {u t:g_} (I:Inv X j' σ H s) (rx:RelV x u) (ty:pR X.K H x t) (e:MT X.K t c=a_ b) (h:∀ tk,Q (.bool b) { s with toks:=tk }) :
 v_ (F_ X.prog X.w) A (call (.builtin "isinstance") [u,c]) Q E s:=by
 cases ty with
 | non=>cases (show u=KW from rx); exact LC PySem.W.kitx_none I.kIn O4 e (fun z=>nomatch z) h
 | bl y=>cases (show u=Lj y from rx); exact LC PySem.W.kitx_bool I.kIn O4 e (fun z=>nomatch z) h
 | int i=>obtain ⟨t,q⟩:=(show ∃ t,u=R3 i t from rx); cases q; exact LC PySem.W.kitx_int I.kIn O4 e (fun z=>nomatch z) h
 | str y=>obtain ⟨t,q⟩:=(show ∃ t,u=ND y t from rx); cases q; exact LC PySem.W.kitx_str I.kIn O4 e (fun z=>nomatch z) h
 | flt y=>obtain ⟨t,q⟩:=(show ∃ t,u=Value.float y t from rx); cases q; exact LC PySem.W.kitx_float I.kIn O4 e (fun z=>nomatch z) h
 | @lst a xs ea =>
  cases (show u=q_ a from rx);obtain ⟨_,_,n,_,h1⟩:=(show ObjOk X.prog X.w H s.heap a (.lst xs) from I.hok a _ ea);exact LC RL I.kIn ⟨_,h1,rfl⟩ e (fun z=>nomatch z) h
 | @frz a ob xs ea =>
  cases (show u=q_ a from rx);obtain ⟨_,_,_,n,_,h1⟩:=(show ObjOk X.prog X.w H s.heap a (.frz ob (.lst xs)) from I.hok a _ ea);exact LC RL I.kIn ⟨_,h1,rfl⟩ e (fun z=>nomatch z) h
 | @tup a xs ea =>
  cases (show u=q_ a from rx);obtain ⟨_,_,_,p⟩:=(show ObjOk X.prog X.w H s.heap a (.tup xs) from I.hok a _ ea);obtain ⟨o,h1,h2,_⟩:=p;exact LC PySem.W.kitx_tuple I.kIn ⟨o,h1,h2⟩ e (fun z=>nomatch z) h
 | @dK a kvs ea =>
  cases (show u=q_ a from rx);obtain ⟨_,_,vs,_,p⟩:=(show ObjOk X.prog X.w H s.heap a (.dK kvs) from I.hok a _ ea);obtain ⟨o,es,ep,h1,h2,_⟩:=p;exact LC RM I.kIn ⟨o,h1,h2.1⟩ e (fun z=>nomatch z) h
 | @dT a kvs ea =>
  cases (show u=q_ a from rx);obtain ⟨_,_,xs,_,o,es,ep,h1,h2,_⟩:=(show ObjOk X.prog X.w H s.heap a (.dT kvs) from I.hok a _ ea);exact LC RM I.kIn ⟨o,h1,h2.1⟩ e (fun z=>nomatch z) h
 | @ins a C dx fs ea cl ha hn htk hm =>
  cases (show u=q_ a from rx);obtain ⟨mA,O,_⟩:=y4 I.hok ea;obtain ⟨od,J,_⟩:=O.look;exact LC (PySem.W.kitx_own (cl.get _) cl.hd ha hn htk hm) I.kIn J e (fun z=>nomatch z) h
end
structure Room (k:Nat) (A:E_):Prop where
 hd:A.handled=ck
 dp:A.depth + 3 * k + 5 < recursionLimit
 un:A.units + 16 * k + 200 < cLine
 gd:A.guards=a_ []
theorem Room.mono {j k:Nat} {A:E_} (r:Room k A) (h:j≤k):Room j A:=⟨r.hd,by have:=r.dp; omega,by have:=r.un; omega,r.gd⟩
theorem Room.deeper {k:Nat} {A:E_} (r:Room (k + 1) A) (env:Env):Room k (A.deeper env) :=
 ⟨r.hd,by have:=r.dp; show A.depth + 1 + 3 * k + 5 < _; omega,by have:=r.un; show A.units + 3 + 16 * k + 200 < _; omega,r.gd⟩
theorem Room.in1 {k:Nat} {A:E_} (r:Room (k + 1) A):Room k A.in1 :=
 ⟨r.hd,by have:=r.dp; show A.depth + 3 * k + 5 < _; omega,by have:=r.un; show A.units + 1 + 16 * k + 200 < _; omega,r.gd⟩
theorem Room.depth {k:Nat} {A:E_} (r:Room k A):A.depth < recursionLimit:=by have:=r.dp; omega
theorem Room.units {k:Nat} {A:E_} (r:Room k A):A.units + 64 < cLine:=by have:=r.un; omega
theorem Room.units0 {k:Nat} {A:E_} (r:Room k A):A.units < cLine:=by have:=r.un; omega
def JZ:TA:=fun _ H Q=>Q [] H
def GN (ta:TE) (tr:TA):TA:=fun σ H Q=>ta σ H fun x H1=>tr σ H1 fun xs H2=>Q (x :: xs) H2
section
variable {X:Cx} {e:H_} {es:List H_} {te:TE} {t:TA} {pos:Pos}
theorem xV:PA X [] JZ:=fun _ _ _ _ H Q I h=>RN ⟨[],H,I,.nil,h⟩
theorem oK (ha:PE X e te) (hr:PA X es t) (hs:k_ (e :: es) X.env=(e_,eval e X.env) :: k_ es X.env:=by rfl):PA X (e :: es) (GN te t):=by
 intro pos j' s σ H Q I h;rw [hs];show v_ _ _ (spliced ((e_,eval e X.env) :: Lc pos (k_ es X.env))) _ _ s;refine Rz (thn (ha j' s σ H _ I h) fun u s1 ⟨x,H1,I1,r1,q1⟩=>?_);exact thn (hr pos j' s1 σ H1 _ I1 q1) fun us s2 ⟨xs,H2,I2,r2,q2⟩=>⟨x :: xs,H2,I2,.cons r1 r2,q2⟩
def J0 (t:TA):TE:=fun σ H Q=>t σ H fun xs H1=>xs.length≤sizeLine∧∀ p,H1 p=ck→Q (.ref p) (upd H1 p (.tup xs))
def J4 (t:TA):TE:=fun σ H Q=>t σ H fun xs H1=>xs.length≤sizeLine∧∀ p,H1 p=ck→Q (.ref p) (upd H1 p (.lst xs))
theorem B4 {x1} (h:PA X es t):PE X (.Tuple es x1 pos) (J0 t):=by
 intro j' s σ H Q I hq;refine wpAny_Tuple_spliced (thn (h pos j' s σ H _ I hq) fun us s1 ⟨xs,H1,I1,r,z,q⟩=>⟨by rw [← r.length]; exact z,?_⟩);have hf:H1 s1.heap.objs.size=ck:=I1.hok.fresh (r_ _);refine ⟨.ref s1.heap.objs.size,upd H1 s1.heap.objs.size (.tup xs),I1.laid (t':=s1.toks) (fun b u e=>i_ _ e) (r_ _) ?_,rfl,q _ hf⟩;exact ⟨z,us,r,⟨_,t_ _ rfl,rfl,_,rfl⟩⟩
theorem xW (h:PA X es t):PE X (.List es pos) (J4 t):=by
 intro j' s σ H Q I hq;refine wpAny_List_spliced (thn (h pos j' s σ H _ I hq) fun us s1 ⟨xs,H1,I1,r,z,q⟩=>⟨by rw [← r.length]; exact z,?_⟩);have hf:H1 s1.heap.objs.size=ck:=I1.hok.fresh (r_ _);refine ⟨.ref s1.heap.objs.size,upd H1 s1.heap.objs.size (.lst xs),I1.laid (t':=s1.toks) (fun b u e=>i_ _ e) (r_ _) ?_,rfl,q _ hf⟩;exact ⟨z,us,0,r,t_ _ rfl⟩
end
abbrev Sp:=List V→Hp→VK→XK→Prop
abbrev CXT:=List Env→Hp→h_→XK→g_→h_→Prop
structure Env0 (P:rl) (w:C_) (K:f_) (mg:Str→Option g_) (base:KO) (A:E_) (outer:List Env) (s:h_) (H:Hp):Prop where
 frames:A.frames=a_ outer
 mod:Mod K mg base
 bs:∀ b o,base.get? b=a_ o→s.heap.get? b=a_ o∧H b=ck
 bsz:base.objs.size≤s.heap.objs.size
 funs:s.heap.FunFrames base outer
 frf:∀ b∈frs outer,H b=ck
 hok:HOk P w H s.heap
 bare:OZ s.gens
def CE (outer:List Env) (P:rl) (w:C_) (H:Hp) (s:h_) (Q:VK) (u:g_) (s':h_):Prop :=
 ∃ v H',s'.os=s.os∧OZ s'.gens∧Un (frs outer) [] H H' s.heap s'.heap∧HOk P w H' s'.heap∧RelV v u∧Q v H'
def CR (CX:CXT) (outer:List Env) (P:rl) (w:C_) (H:Hp) (s:h_) (Q:VK) (E:XK) (r:QM) (s':h_):Prop :=
 match r with
 | .ok (.ret u)=>CE outer P w H s Q u s'
 | .ok _=>False
 | .error e=>CX outer H s E e s'
structure FnOk (P:rl) (w:C_) (K:f_) (mg:Str→Option g_) (base:KO) (CX:CXT) (k:Nat) (f:l_) (fd:Lv) (ps:List Str) (sp:Sp):Prop where
 len:∀ vs H Q E,sp vs H Q E→vs.length=ps.length
 run:∀ (A:E_) (outer:List Env) (s:h_) (H:Hp) (args:Args) (us:List g_) (vs:List V) (Q:VK) (E:XK),Room k A→Env0 P w K mg base A outer s H→Q0 s fd args (ps.zip us)→Vals vs us→sp vs H Q E →
  NC (F_ P w) A (.call (.ref f) args) (CR CX outer P w H s Q E) s
theorem FnOk.mono {P:rl} {w:C_} {K:f_} {mg:Str→Option g_} {base:KO} {CX:CXT} {j k:Nat} {f:l_} {fd:Lv} {ps:List Str} {sp:Sp} (F:FnOk P w K mg base CX j f fd ps sp) (h:j≤k) :
 FnOk P w K mg base CX k f fd ps sp:=⟨F.len,fun A outer s H args us vs Q E hr=>F.run A outer s H args us vs Q E (hr.mono h)⟩
theorem FnOk.imp {P:rl} {w:C_} {K:f_} {mg:Str→Option g_} {base:KO} {CX:CXT} {k:Nat} {f:l_} {fd:Lv} {ps:List Str} {sp sp':Sp} (F:FnOk P w K mg base CX k f fd ps sp)
 (h:∀ vs H Q E,sp' vs H Q E→sp vs H Q E):FnOk P w K mg base CX k f fd ps sp' :=
 ⟨fun vs H Q E q=>F.len vs H Q E (h _ _ _ _ q),fun A outer s H args us vs Q E hr he hb hv hs=>F.run A outer s H args us vs Q E hr he hb hv (h _ _ _ _ hs)⟩
theorem Env0.in1 {P:rl} {w:C_} {K:f_} {mg:Str→Option g_} {base:KO} {A:E_} {outer:List Env} {s:h_} {H:Hp} (e:Env0 P w K mg base A outer s H) :
 Env0 P w K mg base A.in1 outer s H:=⟨e.frames,e.mod,e.bs,e.bsz,e.funs,e.frf,e.hok,e.bare⟩
section
variable {X:Cx} {j':List (l_×Obj)} {σ:St} {H:Hp} {s s':h_}
theorem Inv.env0 (I:Inv X j' σ H s):Env0 X.prog X.w X.K X.mg X.base X.A X.stack s H :=
 ⟨I.ok.frames,I.ok.mod,I.bs,K5 I.ok.bsz I.sz,I.stack,I.stkFree,I.hok,I.bare⟩
theorem Inv.after {Q:VK} {u:g_} (I:Inv X j' σ H s) (h:CE X.stack X.prog X.w H s Q u s'):EP X j' σ Q u s':=by
 obtain ⟨v,H',os,bare,un,hok,r,q⟩:=h;obtain ⟨hh,g,d,t,os'⟩:=s';obtain rfl:os'=s.os:=os;exact ⟨v,H',I.call (h':=hh) (g':=g) (d':=d) (t':=t) (ch:=[]) un hok bare (fun b z=>absurd z (by simp)),r,q⟩
end
def GO (sp:Sp) (dvs:List V) (E:XK) (t:TA):TE:=fun σ H Q=>t σ H fun vs H1=>sp (vs ++ dvs) H1 Q E
def Binds (K:f_) (fd:Lv) (ps:List Str) (ds:List g_):Prop :=
 ∀ (s:h_) (us:List g_),K.In s.heap→(us ++ ds).length=ps.length→Q0 s fd ⟨us,[]⟩ (ps.zip (us ++ ds))
theorem Binds.all {K:f_} {fd:Lv} {ps:List Str} (h:∀ us:List g_,us.length=ps.length→QF fd ⟨us,[]⟩=pure (ps.zip us)):Binds K fd ps []:=fun s us _ hl=>by
 rw [LD] at hl ⊢;exact .of_eq (h us hl)
def mH (CX:CXT) (X:Cx) (E:XK):Prop:=∀ (j':List (l_×Obj)) (σ:St) (H:Hp) (s:h_) (e:g_) (s':h_),Inv X j' σ H s→CX X.stack H s E e s'→X.xe e s'
section
variable {X:Cx} {CX:CXT} {k:Nat} {f C:l_} {fd:Lv} {ps:List Str} {sp:Sp} {dvs:List V} {ds:List g_} {E:XK} {x m:Str} {p pos apos:Pos} {e o:H_} {es:List H_} {ta:TE} {t:TA}
theorem B5 {j':List (l_×Obj)} {σ:St} {H:Hp} {s:h_} {Q:VK} {us:List g_} {vs:List V} (F:FnOk X.prog X.w X.K X.mg X.base CX k f fd ps sp) (hr:Room k X.A) (hb:Binds X.K fd ps ds) (hd:Vals dvs ds) (hx:mH CX X E)
 (I:Inv X j' σ H s) (r:Vals vs us) (h:sp (vs ++ dvs) H Q E):v_ (F_ X.prog X.w) X.A (call (.ref f) us) (EP X j' σ Q) X.xe s:=by
 have r2:Vals (vs ++ dvs) (us ++ ds):=r.append hd;have hl:(us ++ ds).length=ps.length:=by rw [← r2.length]; exact F.len _ _ _ _ h
 refine Rt (M1 (F.run X.A X.stack s H ⟨us,[]⟩ (us ++ ds) (vs ++ dvs) Q E hr I.env0 (hb s us I.kIn hl) r2 h) fun r s' hq=>?_);cases r with
 | error e=>exact hx j' σ H s e s' I hq
 | ok fl =>
  cases fl with
  | ret u=>exact I.after hq
  | next=>exact Lw hq
  | brk=>exact Lw hq
  | cont=>exact Lw hq
theorem lJ (F:FnOk X.prog X.w X.K X.mg X.base CX k f fd ps sp) (hr:Room k X.A) (hg:Gl X x) (hm:X.mg x=a_ (.ref f)) (hk:LK X.K (.ref f)=d_) (hb:Binds X.K fd ps ds) (hd:Vals dvs ds) (hx:mH CX X E)
 (ha:PA X (e :: es) t) (hdb:(x == ("__debug__":Str))=e_:=by decide) (he:k_ (e :: es) X.env=(e_,eval e X.env) :: k_ es X.env:=by rfl) (hpl:(Lc pos (k_ es X.env)).any (·.1)=e_:=by rfl) :
 PE X (.Call (.Name x p) (e :: es) [] pos) (GO sp dvs E t):=by
 intro j' s σ H Q I h;refine Ml (oF I hg hm ?_ hdb);refine PySem.W.callWith_K (h₀:=X.base) I.ok.mod.kin hk (thn (ha pos j' s σ H _ I h) fun us s1 ⟨vs,H1,I1,r,q⟩=>⟨I1.kIn,?_⟩) he hpl;exact B5 F hr hb hd hx I1 r q
end
section
variable {X:Cx} {CX:CXT} {k:Nat} {f C:l_} {fd:Lv} {ps ks:List Str} {sp:Sp} {E:XK} {x m:Str} {p pos apos kpos:Pos} {e o:H_} {es:List H_} {kws:List No} {te ta:TE} {t tk:TA} {nm:Option Str}
variable {g:List g_→List g_→List g_} {gV:List V→List V→List V}
end
structure eU (N P:List Str) (sc:L6):Prop where
 kind:sc.kind=.function
 co:sc.isCoroutine=e_
 gen:sc.isGenerator=e_
 nd:N.Nodup
 pre:N.take P.length=P
 par:∀ x∈P,sc.names.lookup x=a_ .local∨sc.names.lookup x=a_ .cell
 nofree:∀ y∈sc.names,y.2≠.free
theorem mI {kindOf:Str→Option MU} {x:Str}:∀ {binds:List (Str×g_)} {m:Str→Option g_},(∀ v,(x,v) ∉ binds)→SO kindOf binds m x=m x
 | [],_,_=>rfl
 | (n,v) :: r,m,h=>by
  unfold SO;rw [mI fun w hw=>h w (n_ _ hw)];split
  · have:x≠n:=by rintro rfl; exact h v on
    simp [this]
  · rfl
theorem mJ {kindOf:Str→Option MU} {x:Str}:∀ {binds:List (Str×g_)} {m:Str→Option g_},(∀ v,(x,v) ∉ binds)→SQ kindOf binds m x=m x
 | [],_,_=>rfl
 | (n,v) :: r,m,h=>by
  unfold SQ;rw [mJ fun w hw=>h w (n_ _ hw)];split
  · rfl
  · have:x≠n:=by rintro rfl; exact h v on
    simp [this]
theorem mK {kindOf:Str→Option MU} {x:Str} {v:g_}:∀ {P:List Str} {vs:List g_} {i:Nat} {m:Str→Option g_},P.Nodup→P[i]?=a_ x→vs[i]?=a_ v→kindOf x=a_ .local →
 SO kindOf (P.zip vs) m x=a_ v
 | [],_,_,_,_,h,_,_=>by simp at h
 | _ :: _,[],_,_,_,_,h,_=>by simp at h
 | p :: P,w :: vs,0,m,nd,h1,h2,hk=>by
  simp at h1 h2; subst h1; subst h2;show SO kindOf ((p,w) :: P.zip vs) m p=_;unfold SO;rw [mI fun v hv=>(Nd.mp nd).1 (OR hv).1,if_pos hk];simp
 | p :: P,w :: vs,i + 1,m,nd,h1,h2,hk=>by
  show SO kindOf ((p,w) :: P.zip vs) m x=_;unfold SO;exact mK (i:=i) (Nd.mp nd).2 (by simpa using h1) (by simpa using h2) hk
theorem mL {kindOf:Str→Option MU} {x:Str} {v:g_}:∀ {P:List Str} {vs:List g_} {i:Nat} {m:Str→Option g_},P.Nodup→P[i]?=a_ x→vs[i]?=a_ v→kindOf x≠a_ .local →
 SQ kindOf (P.zip vs) m x=a_ v
 | [],_,_,_,_,h,_,_=>by simp at h
 | _ :: _,[],_,_,_,_,h,_=>by simp at h
 | p :: P,w :: vs,0,m,nd,h1,h2,hk=>by
  simp at h1 h2; subst h1; subst h2;show SQ kindOf ((p,w) :: P.zip vs) m p=_;unfold SQ;rw [mJ fun v hv=>(Nd.mp nd).1 (OR hv).1,if_neg hk];simp
 | p :: P,w :: vs,i + 1,m,nd,h1,h2,hk=>by
  show SQ kindOf ((p,w) :: P.zip vs) m x=_;unfold SQ;exact mL (i:=i) (Nd.mp nd).2 (by simpa using h1) (by simpa using h2) hk
def start (N:List Str) (vs:List V):St:=vs.map a_ ++ y_ (N.length - vs.length) ck
def lK (CX:CXT) (P:rl) (w:C_) (K:f_) (mg:Str→Option g_) (base:KO) (N:List Str) (qual:Str) (scope:L6) (f:l_) (cd:g_) (A:E_) (outer:List Env) (s:h_) (H:Hp) (E:XK):Cx where
 prog:=P
 w:=w
 K:=K
 mg:=mg
 base:=base
 A:=A.deeper (M8 qual scope s.heap.objs.size f cd)
 N:=N
 s₀:=s
 H₀:=H
 env:=M8 qual scope s.heap.objs.size f cd
 outer:=outer
 stack:=M8 qual scope s.heap.objs.size f cd :: outer
 ex:=[]
 calm:=d_
 fn:=fun _=>d_
 pn:=[]
 xe:=fun e s'=>v_ (F_ P w) (A.deeper (M8 qual scope s.heap.objs.size f cd)) (leaving (M8 qual scope s.heap.objs.size f cd) e) (fun _ s''=>CX outer H s E e s'') (fun e' s''=>CX outer H s E e' s'') s'
theorem pS {sc:L6} {n:Nat} {x:Str} (h:sc.names.lookup x=a_ .cell):∃ c,(Lh n sc.names []).lookup x=a_ c:=by
 have q:=N9 sc.names n [] (.inl h);exact MO.mp q
theorem mM {CX:CXT} {P:rl} {w:C_} {K:f_} {mg:Str→Option g_} {base:KO} {N ps:List Str} {qual:Str} {scope:L6} {f:l_} {cd:g_} {A:E_} {outer:List Env} {s s1:h_} {H:Hp} {E:XK} {us:List g_} {vs:List V}
 (S:eU N ps scope) (hd:A.handled=ck) (e0:Env0 P w K mg base A outer s H) (hl:vs.length=ps.length) (r:Vals vs us)
 (x:InCallC s s.heap.objs.size (SO (M8 qual scope s.heap.objs.size f cd).kindOf (ps.zip us) fun _=>ck) (Lh (s.heap.objs.size + 1) scope.names []) (SQ (M8 qual scope s.heap.objs.size f cd).kindOf (ps.zip us) fun _=>ck) s1) :
 Inv (lK CX P w K mg base N qual scope f cd A outer s H E) [] (start N vs) H s1:=by
 have hpl:ps.length≤N.length:=by have:=congrArg OH S.pre; rw [PV] at this; omega
 obtain ⟨h1,tk,rfl,hk⟩:=x.done;have noA:∀ b:l_,b ∉ (lK CX P w K mg base N qual scope f cd A outer s H E).ex:=fun b z=>absurd (show b∈([]:List l_) from z) (by simp);refine ⟨⟨e0.mod,S.kind,rfl,rfl,r_ _,fun y z c h1 h2=>?_,fun y hy=>?_,fun y c _ h=>?_,fun _=>hd,Around.frames_deeper e0.frames,.inr ⟨rfl,rfl⟩,fun b z=>absurd z (noA b),e0.bs,e0.bsz,fun b _ _=>noA b,fun b z=>absurd z (noA b),e0.funs,e0.frf⟩,
  rfl,e0.bare,Un.kept hk,⟨_,x.toInCall.ns,fun i y v h1 h2 h3=>?_⟩,fun y c h=>⟨_,x.cell y c h⟩,e0.hok.fresh (r_ _),fun y c h=>?_,fun p hp=>absurd (show p∈([]:List (l_×Obj)) from hp) (by simp),e0.hok.kept hk,?_⟩
 · exact name_of_addr x.apart (MP h1) (MP h2)
 · have hy:scope.names.lookup y=a_ .cell∨scope.names.lookup y=a_ .free:=hy;rcases hy with hy | hy
   · exact pS hy
   · exact absurd rfl (S.nofree _ (MP hy))
 · exact NH (x.above y c (MP h))
 · have hi:i < vs.length:=by
    unfold start at h2;by_cases hi:i < vs.length
    · exact hi
    · rw [LZ (by simpa using hi)] at h2;rw [N0] at h2;split at h2 <;> cases h2
   have ha:vs[i]?=a_ v:=by
    unfold start at h2;rw [L4 (by simpa using hi),La] at h2;cases e:vs[i]? with
    | none=>rw [e] at h2; cases h2
    | some a=>rw [e] at h2; cases h2; rfl
   obtain ⟨u,hu,rv⟩:=r.get ha;have hp:ps[i]?=a_ y:=by
    rw [← S.pre,PC (by omega)]; exact h1
   have ndP:ps.Nodup:=by rw [← S.pre]; exact S.nd.sublist (List.take_sublist _ _)
   refine ⟨u,rv,?_⟩;rcases S.par y (MH hp) with k | k
   · exact .inl ⟨k,mK ndP hp hu k⟩
   · obtain ⟨c,e⟩:=pS (n:=s.heap.objs.size + 1) k;refine .inr ⟨.inl k,c,e,?_⟩;have q:=x.cell y c e;rw [mL ndP hp hu (by show scope.names.lookup y≠_; rw [k]; decide)] at q;exact q
 · exact e0.hok.fresh (NH (x.above y c (MP h)))
 · unfold start;show _=N.length;rw [KS,KR,Nk];omega
theorem v7 {CX:CXT} {P:rl} {w:C_} {K:f_} {mg:Str→Option g_} {base:KO} {k:Nat} {f:l_} {name qual:Str} {params:Arguments} {body:List L3} {scope:L6} {dV kV doc pm cdv ct oc:g_} {an od:Option l_}
 {osl:Array (Option g_)} {N ps:List Str} {sp:Sp} (lk:K.lookup f=a_ ⟨oc,od,.func (M5 name qual params body scope dV kV doc pm an cdv ct),osl⟩) (hcd:O8 K cdv qual=d_) (S:eU N ps scope)
 (len:∀ vs H Q E,sp vs H Q E→vs.length=ps.length)
 (hbody:∀ (A:E_) (outer:List Env) (s:h_) (H:Hp) (vs:List V) (Q:VK) (E:XK),Room k (A.deeper (M8 qual scope s.heap.objs.size f cdv))→sp vs H Q E →
   ∃ t,PSs (lK CX P w K mg base N qual scope f cdv A outer s H E) body t∧t { nx:=fun _ H'=>Q .non H',rt:=Q } (start N vs) H) :
 FnOk P w K mg base CX (k + 1) f (M5 name qual params body scope dV kV doc pm an cdv ct) ps sp:=by
 refine ⟨len,fun A outer s H args us vs Q E hr e0 hb r hsp=>?_⟩;have hl:=len _ _ _ _ hsp;have KX:K.In s.heap:=e0.mod.kin.keeps fun b o e=>(e0.bs b o e).1;have lim:s.heap.NoLimit:=e0.mod.nolimit.keeps fun b o e=>(e0.bs b o e).1;have hkind:∀ y∈ps.zip us,scope.names.lookup y.1=a_ .local∨(scope.names.lookup y.1=a_ .cell∧((Lh (s.heap.objs.size + 1) scope.names []).lookup y.1).isSome=d_):=fun ⟨n,v⟩ hy=>by
  rcases S.par n (OR hy).1 with q | q
  · exact .inl q
  · exact .inr ⟨q,N9 _ _ _ (.inl q)⟩
 refine codeAny_call_function hr.depth (KX _ _ lk) rfl S.co S.gen rfl (PySem.W.codeRec_of KX hcd) (hb _ _ _ _ ?_);refine O6 S.kind hkind fun env he s1 x=>?_;subst he;refine ⟨lim.keeps x.toInCall.keep,codeAny_func ?_⟩;obtain ⟨t,ht,hq⟩:=hbody A outer s H vs Q E (hr.deeper _) hsp;have I:Inv (lK CX P w K mg base N qual scope f cdv A outer s H E) [] (start N vs) H s1:=mM S hr.hd e0 hl r x;refine Lf (ht [] s1 (start N vs) H _ I hq) (fun fl s' hs=>?_) fun e s' hs=>hs;have fin:∀ {σ':St} {H':Hp} {v:V} {u:g_},Inv (lK CX P w K mg base N qual scope f cdv A outer s H E) [] σ' H' s'→RelV v u→Q v H'→CE outer P w H s Q u s' :=
  fun {σ' H' v u} J rv q=>⟨v,H',J.os,J.bare,J.base,J.hok,rv,q⟩
 cases fl with
 | ret u =>
  obtain ⟨v,σ',H',J,rv,q⟩:=hs;exact fin J rv q
 | next =>
  obtain ⟨σ',H',J,q⟩:=hs;exact fin (v:=V.non) (u:=KW) J rfl q
 | brk =>
  obtain ⟨_,_,_,q⟩:=hs;exact Lw q
 | cont =>
  obtain ⟨_,_,_,q⟩:=hs;exact Lw q
section
variable {X:Cx} {x:Str} {p pos:Pos} {e:H_} {es:List H_} {t:TA} {id T:String} {r:List V→Hp→VK→Prop}
def tCB (r:List V→Hp→VK→Prop) (t:TA):TE:=fun σ H Q=>t σ H fun vs H1=>r vs H1 Q
theorem gq (hc:CallR X (.builtin id) r) (hg:Gl X x) (hm:X.mg x=ck) (hv:LO x=a_ (.builtin id)) (ha:PA X (e :: es) t) (hn:x≠"__name__":=by decide) (hdb:(x == ("__debug__":Str))=e_:=by decide)
 (he:k_ (e :: es) X.env=(e_,eval e X.env) :: k_ es X.env:=by rfl) (hpl:(Lc pos (k_ es X.env)).any (·.1)=e_:=by rfl):PE X (.Call (.Name x p) (e :: es) [] pos) (tCB r t):=by
 intro j' s σ H Q I h;refine Ml (iC I hg hm hv ?_ hn hdb);exact Ox (thn (ha pos j' s σ H _ I h) fun us s1 ⟨vs,H1,I1,r1,q1⟩=>hc j' s1 σ H1 vs us Q I1 r1 q1) he hpl
theorem gS (hc:CallR X (.type T) r) (hg:Gl X x) (hm:X.mg x=ck) (hv:LO x=a_ (.type T)) (ha:PA X (e :: es) t) (hn:x≠"__name__":=by decide) (hdb:(x == ("__debug__":Str))=e_:=by decide)
 (he:k_ (e :: es) X.env=(e_,eval e X.env) :: k_ es X.env:=by rfl) (hpl:(Lc pos (k_ es X.env)).any (·.1)=e_:=by rfl):PE X (.Call (.Name x p) (e :: es) [] pos) (tCB r t):=by
 intro j' s σ H Q I h;refine Ml (iC I hg hm hv ?_ hn hdb);exact Lz (thn (ha pos j' s σ H _ I h) fun us s1 ⟨vs,H1,I1,r1,q1⟩=>hc j' s1 σ H1 vs us Q I1 r1 q1) he hpl
end
end L2
namespace HT
open PySem PyProof.Rows
section
open PySem.SeqAt
open PySem.AutoSeq1 (wpAny_loadPart')
open PySem.MeetsSeq PySem.MeetsSeq2 PySem.MeetsSeq3
end
section
variable {prog:rl} {w:C_} {A:E_} {E:g_→h_→Prop} {s:h_}
theorem cat_tup {t b:l_} {vs ws:List g_} {Q:g_→h_→Prop} (ht:S0 s.heap t vs.toArray) (hb:S0 s.heap b ws.toArray) (hv:vs≠[])
 (h1:ws=[]→Q (.ref t) s) (h2:ws≠[]→Q (.ref s.heap.objs.size) { s with heap:=s.heap.push { cls:=.type "tuple",data:=.seq (vs ++ ws).toArray } })
 (hsz:vs.length + ws.length≤sizeLine):v_ (F_ prog w) A (L5 .Add (.ref t) (.ref b)) Q E s:=by
 obtain ⟨⟨cls,dd,data,sl⟩,ho,hc,n,hd⟩:=id ht;obtain ⟨⟨cls2,dd2,data2,sl2⟩,ho2,hc2,n2,hd2⟩:=id hb;simp only at hc hd hc2 hd2;subst hc hd hc2 hd2;have e:vs.toArray ++ ws.toArray=(vs ++ ws).toArray:=by simp
 by_cases hw:ws=[]
 · exact RJ ⟨_,ho,rfl⟩ ⟨_,ho2,rfl⟩ PD Rn Oe NX (NQ _ _)
    (tuple_addW1 t b vs.toArray ws.toArray n n2 dd dd2 sl sl2 (by simpa using hv) (by simp [hw])) ⟨ho,ho2,h1 hw⟩
 · refine RJ ⟨_,ho,rfl⟩ ⟨_,ho2,rfl⟩ PD Rn Oe NX (NQ _ _)
    (tuple_addW2 t b vs.toArray ws.toArray n n2 dd dd2 sl sl2 (by simpa using hv) (by simpa using hw) (by rw [A_,A_]; exact hsz)) ⟨ho,ho2,?_⟩
   rw [e];exact h2 hw
def sIx (n d:Nat):Option Int→Nat
 | none=>d
 | some v=>if v < 0 then (v + (n:Int)).toNat else min v.toNat n
theorem B6 (n d:Nat) (hd:d≤n) (o:Option Int):sIx n d o≤n:=by
 cases o with
 | none=>exact hd
 | some v =>
  show (if v < 0 then (v + (n:Int)).toNat else min v.toNat n)≤n;by_cases hv:v < 0
  · rw [if_pos hv]; omega
  · rw [if_neg hv]; exact PQ _ _
theorem sS (v:Int) (n d:Nat):(if v < 0 then max (v + (n:Int)) 0 else min v (n:Int))=((sIx n d (a_ v):Nat):Int):=by
 show (if v < 0 then max (v + (n:Int)) 0 else min v (n:Int))=(((if v < 0 then (v + (n:Int)).toNat else min v.toNat n):Nat):Int);by_cases hv:v < 0
 · simp only [if_pos hv]; omega
 · simp only [if_neg hv]; omega
theorem qS (lo hi:Option Int) (n:Nat):NJ lo hi 1 (n:Int)=(((sIx n 0 lo:Nat):Int),((sIx n n hi:Nat):Int)):=by
 have h1:¬ ((1:Int) < 0):=by omega
 unfold NJ;simp only [h1,if_false];refine Prod.ext ?_ ?_
 · cases lo with
   | none=>rfl
   | some v=>exact sS v n 0
 · cases hi with
   | none=>rfl
   | some v=>exact sS v n n
theorem qT (i j:Nat):Mw (i:Int) (j:Int) 1=j - i:=by
 unfold Mw;have h1:(1:Int) > 0:=by omega
 simp only [h1,if_true,Int.ediv_one];split <;> omega
theorem lc {v:g_} {o:Option Int} {Q:Option Int→h_→Prop} (p:P_ v o) (h:Q o s):v_ (F_ prog w) A (Builtin.Slice.slicePartIndex v) Q E s:=by
 cases p with
 | none=>exact slicePart_none h
 | int i t=>exact slicePart_int h
theorem sliceApplied_gen {sl:l_} {vl vu:g_} {lo hi:Option Int} {n:Nat} {Q:Int×Int×Nat→h_→Prop} (hs:s.heap.IsSliceOf sl vl vu .none) (pl:P_ vl lo) (pu:P_ vu hi)
 (h:Q (((sIx n 0 lo:Nat):Int),1,sIx n n hi - sIx n 0 lo) s):v_ (F_ prog w) A (Pi (.ref sl) (pure (n:Int))) Q E s:=by
 obtain ⟨os,hos,hcs,hds⟩:=id hs;unfold Pi Builtin.Slice.sliceFields;refine c_ (c_ (LH hos hds (x:=vl) rfl (c_ (LH hos hds (x:=vu) rfl (c_ (LH hos hds (x:=.none) rfl (j_ ?_)))))));refine c_ (slicePart_none ?_);show v_ _ _ (if ((1:Int) == 0)=d_ then _ else _) _ _ s;rw [if_neg (by decide)];refine c_ (lc pl (c_ (lc pu (c_ (j_ ?_)))));show v_ _ _ (match NJ lo hi 1 (n:Int) with | (lo,hi)=>pure (lo,(1:Int),Mw lo hi 1)) _ _ s
 rw [qS lo hi n];show v_ _ _ (pure (((sIx n 0 lo:Nat):Int),(1:Int),Mw ((sIx n 0 lo:Nat):Int) ((sIx n n hi:Nat):Int) 1)) _ _ s;rw [qT];exact j_ h
theorem v8 (xs:Array g_) (i k:Nat):((o_ k).filterMap fun (m:Nat)=>xs[((i:Int) + (m:Int) * 1).toNat]?).toArray=((xs.toList.drop i).take k).toArray:=by
 have e:(fun (m:Nat)=>xs[((i:Int) + (m:Int) * 1).toNat]?)=fun m=>xs[i + m]?:=by
  funext m;have:((i:Int) + (m:Int) * 1).toNat=i + m:=by omega
  rw [this]
 rw [e];have:=pick_run xs i k;rw [NU] at this;have e2:((fun x=>xs[x]?) ∘ fun x=>i + x)=fun m=>xs[i + m]?:=rfl;rw [e2] at this;rw [this]
theorem getItem_tuple_cut {t sl:l_} {items:Array g_} {vl vu:g_} {lo hi:Option Int} {Q:g_→h_→Prop} (ht:S0 s.heap t items) (hs:s.heap.IsSliceOf sl vl vu .none) (pl:P_ vl lo) (pu:P_ vu hi)
 (hw:¬ (sIx items.size 0 lo=0∧sIx items.size items.size hi=items.size))
 (h:Q (.ref s.heap.objs.size) { s with heap:=s.heap.push { cls:=.type "tuple",data:=.seq ((items.toList.drop (sIx items.size 0 lo)).take (sIx items.size items.size hi - sIx items.size 0 lo)).toArray } })
 (hsz:items.size≤sizeLine):v_ (F_ prog w) A (P7 (.ref t) (.ref sl)) Q E s:=by
 have htake:sizeOk (.seq ((items.toList.drop (sIx items.size 0 lo)).take (sIx items.size items.size hi - sIx items.size 0 lo)).toArray):=by
  show ((items.toList.drop (sIx items.size 0 lo)).take (sIx items.size items.size hi - sIx items.size 0 lo)).toArray.size≤sizeLine;rw [A_,PV,Oz,K4];omega
 have hj:sIx items.size items.size hi≤items.size:=B6 _ _ (r_ _) hi;obtain ⟨os,hos,hcs,hds⟩:=id hs;have hTs:s.TypeIs (.ref sl) "slice":=⟨os,hos,hcs⟩;unfold P7
 try with_reducible refine Lp ?_
 first | refine c_ (j_ ?_) | skip
 refine c_ (wpAny_sequenceKey ht.typeIs (by decide) ?_);refine c_ (LS (name:=b_ "__getitem__") ht.typeIs Ln
  (MS Ln ht.typeIs entry_tuple_getitem ?_ (args_tuple_getitem _ _)))
 show v_ _ _ (Ph (.ref t) >>= _) _ _ s;refine c_ (tupleItemsOf_ ht ?_);refine c_ (N4 hTs ?_);rw [if_pos (by decide)];refine c_ (sliceApplied_gen hs pl pu ?_);have hno:¬ ((((sIx items.size 0 lo:Nat):Int) == 0 && (1:Int) == 1 && (sIx items.size items.size hi - sIx items.size 0 lo) == items.size)=d_):=by
  intro q;rw [pi,pi] at q;have q1:((sIx items.size 0 lo:Nat):Int)=0:=Q1 q.1.1;have q2:sIx items.size items.size hi - sIx items.size 0 lo=items.size:=Q1 q.2;exact hw ⟨by omega,by omega⟩
 show v_ _ _ (if (((sIx items.size 0 lo:Nat):Int) == 0 && (1:Int) == 1 && (sIx items.size items.size hi - sIx items.size 0 lo) == items.size)=d_ then _ else _) _ _ s;rw [if_neg hno,v8]
 first
  | exact c_ (m:=MN _) (Mf (j_ ⟨_,rfl,j_ h⟩) htake)
  | exact c_ (m:=MN _) (Mf (c_ (j_ (j_ ⟨_,rfl,j_ h⟩))) htake)
  | exact c_ (c_ (m:=MN _) (Mf (j_ (j_ ⟨_,rfl,j_ h⟩)) htake))
  | exact c_ (c_ (m:=MN _) (Mf (j_ ⟨_,rfl,j_ h⟩) htake))
end
end HT
namespace L2
open PySem PySem.Spec PyProof.Rows
abbrev TO:=St→Hp→(Option Int→Hp→Prop)→Prop
def PO (X:Cx) (e:Option H_) (t:TO):Prop :=
 ∀ (j':List (l_×Obj)) (s:h_) (σ:St) (H:Hp) (Q:Option Int→Hp→Prop),Inv X j' σ H s→t σ H Q →
  v_ (F_ X.prog X.w) X.A (evalPart e X.env) (fun u s'=>∃ o H',Inv X j' σ H' s'∧P_ u o∧Q o H') X.xe s
def y6:TO:=fun _ H Q=>Q ck H
def GP (t:TE):TO:=fun σ H Q=>t σ H fun x H1=>∃ i,x=.int i∧Q (a_ i) H1
section
variable {X:Cx} {e:H_} {te:TE} {lo hi:Option H_} {tl th:TO} {pos p2:Pos}
theorem y8:PO X ck y6:=by
 intro j' s σ H Q I h;rw [evalPart_none];exact j_ ⟨ck,H,I,.none,h⟩
theorem y9 (h:PE X e te):PO X (a_ e) (GP te):=by
 intro j' s σ H Q I hw;rw [evalPart_some];refine thn (h j' s σ H _ I hw) fun u s1 ⟨x,H1,I1,r1,q1⟩=>?_;obtain ⟨i,rfl,q⟩:=q1;obtain ⟨t,rfl⟩:=r1;exact ⟨a_ i,H1,I1,.int i t,q⟩
def SlR (X:Cx) (r:V→Option Int→Option Int→Hp→VK→Prop):Prop :=
 ∀ (j':List (l_×Obj)) (s:h_) (σ:St) (H:Hp) (x:V) (v vl vu:g_) (lo hi:Option Int) (sl:l_) (Q:VK),Inv X j' σ H s→RelV x v→s.heap.IsSliceOf sl vl vu .none→P_ vl lo→P_ vu hi→r x lo hi H Q →
  ∃ T id,typeLookup (.type T) "__getitem__"=pure (a_ (.builtin id))∧s.TypeIs v T∧v_ (F_ X.prog X.w) X.A (P7 v (.ref sl)) (EP X j' σ Q) X.xe s
theorem SlR.or {r r':V→Option Int→Option Int→Hp→VK→Prop} (h:SlR X r) (h':SlR X r'):SlR X (fun x lo hi H Q=>r x lo hi H Q∨r' x lo hi H Q):=by
 intro j' s σ H x v vl vu lo hi sl Q I rx hs pl pu q;rcases q with q | q
 · exact h j' s σ H x v vl vu lo hi sl Q I rx hs pl pu q
 · exact h' j' s σ H x v vl vu lo hi sl Q I rx hs pl pu q
def tSl (r:V→Option Int→Option Int→Hp→VK→Prop) (te:TE) (tl th:TO):TE:=fun σ H Q=>te σ H fun x H1=>tl σ H1 fun l H2=>th σ H2 fun u H3=>r x l u H3 Q
theorem pU {r:V→Option Int→Option Int→Hp→VK→Prop} (hr:SlR X r) (he:PE X e te) (hl:PO X lo tl) (hu:PO X hi th):PE X (.Subscript e (.Slice lo hi ck p2) pos) (tSl r te tl th):=by
 intro j' s σ H Q I h;refine Subscript_ (thn (he j' s σ H _ I h) fun v s1 ⟨x,H1,I1,r1,q1⟩=>?_);refine wpAny_Slice (thn (hl j' s1 σ H1 _ I1 q1) fun vl s2 ⟨l,H2,I2,pl,q2⟩=>thn (hu j' s2 σ H2 _ I2 q2) fun vu s3 ⟨u,H3,I3,pu,q3⟩=>?_);rw [evalPart_none];refine j_ ?_;have I4:Inv X j' σ H3 { s3 with heap:=s3.heap.push { cls:=.type "slice",data:=.fields #[vl,vu,.none] } }:=I3.kept (t':=s3.toks) fun b ob q=>i_ _ q;obtain ⟨T,id,hT,ht,hg⟩:=hr j' { s3 with heap:=s3.heap.push { cls:=.type "slice",data:=.fields #[vl,vu,.none] } } σ H3 x v vl vu l u s3.heap.objs.size Q I4 r1 (Heap.IsSliceOf.new ..) pl pu q3;show v_ (F_ X.prog X.w) X.A (subscriptTail e (.Slice lo hi ck p2) v (.ref s3.heap.objs.size)) (EP X j' σ Q) X.xe { s3 with heap:=s3.heap.push { cls:=.type "slice",data:=.fields #[vl,vu,.none] } };exact tail_any (ops:=[.ref s3.heap.objs.size,v]) ht hT hg (by with_unfolding_all rfl)
def wa (xs:List V) (lo hi:Option Int):List V:=(xs.drop (HT.sIx xs.length 0 lo)).take (HT.sIx xs.length xs.length hi - HT.sIx xs.length 0 lo)
theorem kj (xs:List V) (lo hi:Option Int):(wa xs lo hi).length≤xs.length:=by
 unfold wa;rw [PV,Oz];omega
def J6 (K:f_):V→Option Int→Option Int→Hp→VK→Prop:=fun x lo hi H Q=>∃ a xs,x=.ref a∧SqT K H a xs ∧
 ¬ (HT.sIx xs.length 0 lo=0∧HT.sIx xs.length xs.length hi=xs.length)∧∀ p,H p=ck→Q (.ref p) (upd H p (.tup (wa xs lo hi)))
theorem sl_tup:SlR X (J6 X.K):=by
 intro j' s σ H x v vl vu lo hi sl Q I rx hs pl pu h;obtain ⟨a,xs,rfl,hx,hw,q⟩:=h;cases rx;obtain ⟨its,r,ht,hz⟩:=I.tuple hx;have hlen:its.toArray.size=xs.length:=by rw [A_]; exact r.length.symm
 refine ⟨"tuple",_,Ln.lookup,ht.typeIs,?_⟩;refine HT.getItem_tuple_cut ht hs pl pu (by rw [hlen]; exact hw) ?_ (by rw [hlen]; exact hz);rw [hlen];refine ⟨.ref s.heap.objs.size,_,I.laid (t':=s.toks) (o:=.tup (wa xs lo hi)) (fun b ob q=>i_ _ q) (r_ _) ?_,rfl,q _ (I.hok.fresh (r_ _))⟩;exact ⟨K5 (kj xs lo hi) hz,_,(r.drop (HT.sIx xs.length 0 lo)).take (HT.sIx xs.length xs.length hi - HT.sIx xs.length 0 lo),S9 _ _⟩
def B7 (K:f_):R2:=fun x y H Q=>∃ a b xs ys,x=.ref a∧y=.ref b∧SqT K H a xs∧SqT K H b ys∧xs≠[]∧xs.length + ys.length≤sizeLine ∧
 (ys=[]→Q (.ref a) H)∧(ys≠[]→∀ p,H p=ck→Q (.ref p) (upd H p (.tup (xs ++ ys))))
theorem Vals.nil_iff {xs:List V} {us:List g_} (r:Vals xs us):us=[]↔xs=[]:=by
 cases r with
 | nil=>simp
 | cons _ _=>simp
theorem op_catT:OpR X (L5 .Add) (B7 X.K):=by
 intro j' s σ H x y v u Q I rx ry h;obtain ⟨a,b,xs,ys,rfl,rfl,ha,hb,hx,hz,q1,q2⟩:=h;cases rx;cases ry;obtain ⟨its,r1,p1,_⟩:=I.tuple ha;obtain ⟨its2,r2,p2,_⟩:=I.tuple hb;refine HT.cat_tup p1 p2 (fun z=>hx (r1.nil_iff.mp z)) (fun z=>⟨.ref a,H,I,rfl,q1 (r2.nil_iff.mp z)⟩) (fun z=>?_) (by rw [← r1.length,← r2.length]; exact hz);refine ⟨.ref s.heap.objs.size,_,I.laid (t':=s.toks) (o:=.tup (xs ++ ys)) (fun b ob q=>i_ _ q) (r_ _) ?_,rfl,q2 (fun w=>z (r2.nil_iff.mpr w)) _ (I.hok.fresh (r_ _))⟩;exact ⟨by rw [KS]; exact hz,_,r1.append r2,S9 _ _⟩
end
def ixN (n:Nat) (i:Int):Option Nat:=if 0≤i then (if i < n then a_ i.toNat else ck) else if -(n:Int)≤i then a_ (i + n).toNat else ck
def atI {α:Type} (xs:List α) (i:Int):Option α:=(ixN xs.length i).bind fun j=>xs[j]?
theorem sU {n:Nat} {i:Int} {j:Nat} (h:ixN n i=a_ j):seqIndex? i n=a_ j∧j < n∧-(n:Int)≤i∧i < n:=by
 unfold ixN at h;by_cases h0:0≤i
 · rw [if_pos h0] at h;by_cases h1:i < n
   · rw [if_pos h1] at h;have e:i.toNat=j:=KZ h;exact ⟨by rw [So h0 h1,e],by omega,by omega,h1⟩
   · rw [if_neg h1] at h; cases h
 · rw [if_neg h0] at h;by_cases h1:-(n:Int)≤i
   · rw [if_pos h1] at h;have e:(i + n).toNat=j:=KZ h;exact ⟨by rw [seqIndex_neg (by omega) h1,e],by omega,h1,by omega⟩
   · rw [if_neg h1] at h; cases h
theorem oM {α:Type} {xs:List α} {i:Int} {v:α} (h:atI xs i=a_ v):∃ j,seqIndex? i xs.length=a_ j∧xs[j]?=a_ v∧j < xs.length∧-(xs.length:Int)≤i∧i < xs.length:=by
 unfold atI at h;cases e:ixN xs.length i with
 | none=>rw [e] at h; cases h
 | some j =>
  rw [e] at h;obtain ⟨h1,h2,h3,h4⟩:=sU e;exact ⟨j,h1,h,h2,h3,h4⟩
def sV (b:H_):Prop:=∀ o i,Sm b e_ o i=operate [o,i] (P7 o i)
def IxR (X:Cx) (r:R2):Prop :=
 ∀ (value slice:H_) (j':List (l_×Obj)) (s:h_) (σ:St) (H:Hp) (x y:V) (v u:g_) (Q:VK),Inv X j' σ H s→RelV x v→RelV y u→r x y H Q →
  Sm slice e_ v u=operate [v,u] (P7 v u)→v_ (F_ X.prog X.w) X.A (subscriptTail value slice v u) (EP X j' σ Q) X.xe s
def MtR (X:Cx) (id:String) (r:V→List V→Hp→VK→Prop):Prop :=
 ∀ (j':List (l_×Obj)) (s:h_) (σ:St) (H:Hp) (x:V) (xs:List V) (v:g_) (us:List g_) (Q:VK),Inv X j' σ H s→RelV x v→Vals xs us→r x xs H Q →
  v_ (F_ X.prog X.w) X.A (call (.builtin id) (v :: us)) (EP X j' σ Q) X.xe s
section
variable {X:Cx} {a b:H_} {ta tb:TE} {pos:Pos}
theorem IxR.or {r r':R2} (h:IxR X r) (h':IxR X r'):IxR X (fun x y H Q=>r x y H Q∨r' x y H Q):=by
 intro value slice j' s σ H x y v u Q I rx ry q hs;rcases q with q | q
 · exact h value slice j' s σ H x y v u Q I rx ry q hs
 · exact h' value slice j' s σ H x y v u Q I rx ry q hs
theorem MtR.or {id:String} {r r':V→List V→Hp→VK→Prop} (h:MtR X id r) (h':MtR X id r'):MtR X id (fun x xs H Q=>r x xs H Q∨r' x xs H Q):=by
 intro j' s σ H x xs v us Q I rx rs q;rcases q with q | q
 · exact h j' s σ H x xs v us Q I rx rs q
 · exact h' j' s σ H x xs v us Q I rx rs q
theorem GQ {r:R2} (hr:IxR X r) (ha:PE X a ta) (hb:PE X b tb) (hs:sV b):PE X (.Subscript a b pos) (tOp r ta tb):=by
 intro j' s σ H Q I h;exact Subscript_ (GH ha hb I h fun v u s2 x y H2 I2 rx ry q=>hr a b j' s2 σ H2 x y v u Q I2 rx ry q (hs _ _))
def I0 (K:f_):R2:=fun x y H Q=>∃ p xs i v,x=.ref p∧y=.int i∧SqL K H p xs∧atI xs i=a_ v∧Q v H
def Ja (K:f_):R2:=fun x y H Q=>∃ p xs i v,x=.ref p∧y=.int i∧SqT K H p xs∧atI xs i=a_ v∧Q v H
def Jb:R2:=fun x y H Q=>∃ z i c,x=.str z∧y=.int i∧z.length≤sizeLine∧atI z.cps.toList i=a_ c∧Q (.str ⟨#[c]⟩) H
theorem ix_list:IxR X (I0 X.K):=by
 intro value slice j' s σ H x y v u Q I rx ry h hs;obtain ⟨p,xs,i,z,rfl,rfl,hq,he,q⟩:=h;cases rx;obtain ⟨t,rfl⟩:=ry;obtain ⟨its,r,pl,hz⟩:=I.list hq;obtain ⟨j,h1,h2,h3,h4,h5⟩:=oM he;obtain ⟨w,ew,rw'⟩:=r.get h2;have hl:=r.length;have hn:=mF;have fin:EP X j' σ Q w s:=⟨z,H,I,rw',q⟩;by_cases h0:0≤i
 · have hj:i.toNat=j:=by
    rw [So h0 h5] at h1;exact KZ h1
   exact item_listR pl.isList h0 (by omega) (by rw [hj]; simpa using ew) fin hs
 · have hj:(i + (its.toArray.size:Int)).toNat=j:=by
    rw [seqIndex_neg (by omega) h4] at h1;rw [A_,← hl];exact KZ h1
   exact Qa (x:=w) pl.isList.typeIs slot_list_getitem.lookup
    (wpAny_getItem_list_neg (Q:=fun r s'=>r=w∧EP X j' σ Q r s') pl.isList (by omega) (by rw [A_] <;> omega) (by omega) (by rw [hj]; simpa using ew) ⟨rfl,fin⟩) hs
theorem ix_tup:IxR X (Ja X.K):=by
 intro value slice j' s σ H x y v u Q I rx ry h hs;obtain ⟨p,xs,i,z,rfl,rfl,hq,he,q⟩:=h;cases rx;obtain ⟨t,rfl⟩:=ry;obtain ⟨its,r,pl,hz⟩:=I.tuple hq;obtain ⟨j,h1,h2,h3,h4,h5⟩:=oM he;obtain ⟨w,ew,rw'⟩:=r.get h2;have hl:=r.length;have hn:=mF;have fin:EP X j' σ Q w s:=⟨z,H,I,rw',q⟩;exact Qa (x:=w) pl.typeIs slot_tuple_getitem.lookup
  (getItem_tuple (j:=j) (Q:=fun r s'=>r=w∧EP X j' σ Q r s') pl (by omega) (by omega) (by rw [A_,← hl]; exact h1) (by simpa using ew) ⟨rfl,fin⟩) hs
theorem B8:IxR X Jb:=by
 intro value slice j' s σ H x y v u Q I rx ry h hs;obtain ⟨z,i,c,rfl,rfl,hz,he,q⟩:=h;obtain ⟨t,rfl⟩:=rx;obtain ⟨t',rfl⟩:=ry;obtain ⟨j,h1,h2,h3,h4,h5⟩:=oM he;have hl:z.cps.toList.length=z.length:=by simp [O_]
 rw [hl] at h1 h4 h5;have hn:=mF;exact tail_any (Ov s z t) slot_str_getitem.lookup (getItem_str (c:=c) (by
  have e1:u_ (i < -(2 ^ 63:Int))=e_:=decide_eq_false (by omega);have e2:u_ (i ≥ 2 ^ 63)=e_:=decide_eq_false (by omega);rw [e1,e2,Bool.or_false]) (by rw [h1]; simpa using h2) ⟨.str ⟨#[c]⟩,H,I.tok _,⟨_,rfl⟩,q⟩) hs
def rIx (K:f_):R2:=fun x y H Q=>I0 K x y H Q∨Ja K x y H Q∨Jb x y H Q
theorem B9:IxR X (rIx X.K):=ix_list.or (ix_tup.or B8)
theorem qU (its:List g_) (n j:Nat) (u:g_):K7 (·.setIfInBounds j u) { cls:=.type "list",data:=.seq its.toArray n }={ cls:=.type "list",data:=.seq (its.set j u).toArray n }:=by
 simp [K7]
theorem Inv.lst {j':List (l_×Obj)} {σ:St} {H:Hp} {s:h_} {p:l_} {xs:List V} (I:Inv X j' σ H s) (h:H p=a_ (.lst xs)) :
 ∃ (its:List g_) (n:Nat),Vals xs its∧s.heap.get? p=a_ { cls:=.type "list",data:=.seq its.toArray n }∧xs.length≤sizeLine:=by
 obtain ⟨z,its,n,r,e⟩:=I.hok p _ h;exact ⟨its,n,r,e,z⟩
theorem Inv.lstUpd {j':List (l_×Obj)} {σ:St} {H:Hp} {s:h_} {p:l_} {xs ys:List V} {its its':List g_} {n n':Nat} {f:Obj→Obj} (I:Inv X j' σ H s) (h:H p=a_ (.lst xs))
 (ho:s.heap.get? p=a_ { cls:=.type "list",data:=.seq its.toArray n }) (hf:f { cls:=.type "list",data:=.seq its.toArray n }={ cls:=.type "list",data:=.seq its'.toArray n' }) (r:Vals ys its') (hz:ys.length≤sizeLine) (t:Nat) :
 Inv X j' σ (upd H p (.lst ys)) { s with heap:=s.heap.update p f,toks:=t }:=by
 have e:(s.heap.update p f).get? p=a_ { cls:=.type "list",data:=.seq its'.toArray n' }:=by
  rw [Nj f ho (by rw [hf] <;> rfl),hf]
 refine I.write (x:=p) (e:=p) (by rw [h]; trivial) (.inl rfl) (fun b u hb q=>(Ob _ _ (Oh hb)).trans q) ⟨_,e⟩ ?_;exact ⟨hz,its',n',r,e⟩
def GR:V→V→V→Hp→(Hp→Prop)→Prop:=fun o i v H Q=>∃ p xs k j,o=.ref p∧i=.int k∧H p=a_ (.lst xs)∧ixN xs.length k=a_ j∧Q (upd H p (.lst (xs.set j v)))
theorem wb:IV X GR:=by
 intro j' s σ H o i v ov iv u Q I ro ri rv h;obtain ⟨p,xs,k,j,rfl,rfl,hp,hj,q⟩:=h;cases ro;obtain ⟨t,rfl⟩:=ri;obtain ⟨its,n,r,ho,hz⟩:=I.lst hp;obtain ⟨h1,h2,h3,h4⟩:=sU hj;have hl:=r.length;have hn:=mF;have I':Inv X j' σ (upd H p (.lst (xs.set j v))) { s with heap:=s.heap.update p (K7 (·.setIfInBounds j u)) } :=
  I.lstUpd hp ho (qU its n j u) (r.set rv j) (by rw [LQ]; exact hz) s.toks
 by_cases h0:0≤k
 · have hk:k.toNat=j:=by
    rw [So h0 h4] at h1;exact KZ h1
   exact PySem.W.ki_setAt ho h0 (by omega) (by rw [A_,← hl]; exact h4) (by rw [hk]; exact ⟨_,I',q⟩)
 · have hk:(k + (its.toArray.size:Int)).toNat=j:=by
    rw [seqIndex_neg (by omega) h3] at h1;rw [A_,← hl];exact KZ h1
   exact PySem.W.ki_setBack ho (by omega) (by rw [A_,← hl]; exact h3) (by omega) (by rw [hk]; exact ⟨_,I',q⟩)
theorem mO (lo hi:Option Int) (n:Nat):(NW lo hi ck n).1=((HT.sIx n 0 lo:Nat):Int)∧(NW lo hi ck n).2.1=((HT.sIx n n hi:Nat):Int)∧(NW lo hi ck n).2.2=1:=by
 refine ⟨?_,?_,rfl⟩
 · cases lo with
   | none=>simp [NW,HT.sIx]
   | some i =>
    simp only [NW,HT.sIx,Sd,show (1:Int) > 0 by decide,if_true];by_cases h:i < 0
    · simp only [h,if_true] <;> omega
    · simp only [h,if_false] <;> omega
 · cases hi with
   | none=>simp [NW,HT.sIx]
   | some i =>
    simp only [NW,HT.sIx,Sd,show (1:Int) > 0 by decide,if_true];by_cases h:i < 0
    · simp only [h,if_true] <;> omega
    · simp only [h,if_false] <;> omega
theorem lL (its:List g_) (lo hi:Option Int):slicePick its.toArray lo hi ck=((its.drop (HT.sIx its.length 0 lo)).take (HT.sIx its.length its.length hi - HT.sIx its.length 0 lo)).toArray:=by
 obtain ⟨h1,h2,h3⟩:=mO lo hi its.toArray.size;unfold slicePick;rw [h1,h2,h3];simp only [sliceRange_one,pick_run,A_] <;> rfl
def J7 (K:f_):V→Option Int→Option Int→Hp→VK→Prop:=fun x lo hi H Q=>∃ a xs,x=.ref a∧SqL K H a xs∧∀ p,H p=ck→Q (.ref p) (upd H p (.lst (wa xs lo hi)))
theorem sW:SlR X (J7 X.K):=by
 intro j' s σ H x v vl vu lo hi sl Q I rx hs pl pu h;obtain ⟨a,xs,rfl,hx,q⟩:=h;cases rx;obtain ⟨its,r,ht,hz⟩:=I.list hx;have hlen:=r.length;refine ⟨"list",_,slot_list_getitem.lookup,ht.isList.typeIs,?_⟩;refine wpAny_getItem_list_slice ht.isList hs pl pu .none (by simp) ?_ (by rw [A_] <;> omega);rw [lL,← hlen];refine ⟨.ref s.heap.objs.size,_,I.laid (t':=s.toks) (o:=.lst (wa xs lo hi)) (fun b ob q=>i_ _ q) (r_ _) ?_,rfl,q _ (I.hok.fresh (r_ _))⟩;exact ⟨K5 (kj xs lo hi) hz,_,0,(r.drop (HT.sIx xs.length 0 lo)).take (HT.sIx xs.length xs.length hi - HT.sIx xs.length 0 lo),t_ _ rfl⟩
def iF:V→Bool
 | .non=>d_
 | .bl _=>d_
 | .int _=>d_
 | .str _=>d_
 | _=>e_
def eqV:V→V→Bool
 | .non,.non=>d_
 | .bl a,.bl b=>a == b
 | .bl a,.int b=>(if a then 1 else 0) == b
 | .int a,.bl b=>a == (if b then 1 else 0)
 | .int a,.int b=>a == b
 | .str a,.str b=>a == b
 | _,_=>e_
theorem Ca {A:E_} {s:h_} {y x:V} {u v:g_} (ry:RelV y u) (rx:RelV x v) (fy:iF y=d_) (fx:iF x=d_):SeqAt.EqAt A s u v (eqV y x):=by
 cases y with
 | non =>
  cases ry;cases x with
  | non=>cases rx; exact Sv _
  | bl b=>cases rx; exact QJ b
  | int b=>obtain ⟨t,rfl⟩:=rx; exact Q8 b t
  | str b=>obtain ⟨t,rfl⟩:=rx; exact Q7 b t
  | _=>exact absurd (show e_=d_ from fx) xy
 | bl a =>
  cases ry;cases x with
  | non=>cases rx; exact QK a
  | bl b=>cases rx; exact QL a b
  | int b=>obtain ⟨t,rfl⟩:=rx; exact Rb a b t
  | str b=>obtain ⟨t,rfl⟩:=rx; exact Ra a b t
  | _=>exact absurd (show e_=d_ from fx) xy
 | int a =>
  obtain ⟨t',rfl⟩:=ry;cases x with
  | non=>cases rx; exact Q9 a t'
  | bl b=>cases rx; exact Q_ a t' b
  | int b=>obtain ⟨t,rfl⟩:=rx; exact Rw a t' b t
  | str b=>obtain ⟨t,rfl⟩:=rx; exact Pc a t' b t
  | _=>exact absurd (show e_=d_ from fx) xy
 | str a =>
  obtain ⟨t',rfl⟩:=ry;cases x with
  | non=>cases rx; exact Q5 a t'
  | bl b=>cases rx; exact Q6 a t' b
  | int b=>obtain ⟨t,rfl⟩:=rx; exact Pb a t' b t
  | str b=>obtain ⟨t,rfl⟩:=rx; exact Rv a t' b t
  | _=>exact absurd (show e_=d_ from fx) xy
 | _=>exact absurd (show e_=d_ from fy) xy
def eqU (x:V) (u:g_):Bool:=match u with
 | .none=>eqV .non x
 | .bool b=>eqV (.bl b) x
 | .int i _=>eqV (.int i) x
 | .str z _=>eqV (.str z) x
 | _=>e_
theorem sX {x y:V} {u:g_} (r:RelV y u) (f:iF y=d_):eqU x u=eqV y x:=by
 cases y with
 | non=>cases r; rfl
 | bl b=>cases r; rfl
 | int i=>obtain ⟨t,rfl⟩:=r; rfl
 | str z=>obtain ⟨t,rfl⟩:=r; rfl
 | _=>exact absurd (show e_=d_ from f) xy
theorem kl {x:V}:∀ {xs:List V} {us:List g_},Vals xs us→xs.all iF=d_→us.any (eqU x)=xs.any fun y=>eqV y x
 | _,_,.nil,_=>rfl
 | y :: xs,u :: us,.cons r t,f=>by
  rw [Nh,pi] at f;rw [OE,OE,sX r f.1,kl t f.2]
theorem ip {A:E_} {s:h_} {x:V} {v:g_} (rx:RelV x v) (fx:iF x=d_):∀ {xs:List V} {us:List g_},Vals xs us→xs.all iF=d_→∀ u∈us,SeqAt.EqAt A s u v (eqU x u)
 | _,_,.nil,_=>fun u hu=>by cases hu
 | y :: xs,u :: us,.cons r t,f=>fun u' hu=>by
  rw [Nh,pi] at f;rcases s_.mp hu with rfl | hu
  · rw [sX r f.1]; exact Ca r rx f.1 fx
  · exact ip rx fx t f.2 u' hu
def inV (x:V) (xs:List V):Bool:=xs.any fun y=>eqV y x
def rIn (K:f_) (neg:Bool):R2:=fun x y H Q=>∃ p xs,y=.ref p∧(SqL K H p xs∨SqT K H p xs)∧iF x=d_∧xs.all iF=d_∧Q (.bl (if neg then !inV x xs else inV x xs)) H
theorem sY:OpR X (K_ .In) (rIn X.K e_):=by
 intro j' s σ H x y v u Q I rx ry h;obtain ⟨p,xs,rfl,hq,fx,fs,q⟩:=h;cases ry;rcases hq with hq | hq
 · obtain ⟨its,r,pl,hz⟩:=I.list hq;refine SeqAt.in_listAt (eqU x) pl.isList (fun w hw=>ip rx fx r fs w (by simpa using hw)) ⟨.bl _,H,I,rfl,?_⟩;rw [show its.toArray.any (eqU x)=its.any (eqU x) by simp,kl r fs];exact q
 · obtain ⟨its,r,pl,hz⟩:=I.tuple hq;refine SeqAt.in_tupleAt (eqU x) pl (fun w hw=>ip rx fx r fs w (by simpa using hw)) ⟨.bl _,H,I,rfl,?_⟩;rw [show its.toArray.any (eqU x)=its.any (eqU x) by simp,kl r fs];exact q
theorem mP:OpR X (K_ .NotIn) (rIn X.K d_):=by
 intro j' s σ H x y v u Q I rx ry h;obtain ⟨p,xs,rfl,hq,fx,fs,q⟩:=h;cases ry;rcases hq with hq | hq
 · obtain ⟨its,r,pl,hz⟩:=I.list hq;refine SeqAt.notIn_listAt (eqU x) pl.isList (fun w hw=>ip rx fx r fs w (by simpa using hw)) ⟨.bl _,H,I,rfl,?_⟩;rw [show its.toArray.any (eqU x)=its.any (eqU x) by simp,kl r fs];exact q
 · obtain ⟨its,r,pl,hz⟩:=I.tuple hq;refine SeqAt.notIn_tupleAt (eqU x) pl (fun w hw=>ip rx fx r fs w (by simpa using hw)) ⟨.bl _,H,I,rfl,?_⟩;rw [show its.toArray.any (eqU x)=its.any (eqU x) by simp,kl r fs];exact q
theorem op_notIn_str:OpR X (K_ .NotIn) (fun x y H Q=>∃ i j,x=.str i∧y=.str j∧Q (.bl (!(!(K2 j i 0 j.length 1).isEmpty))) H):=by
 intro j' s σ H x y v u Q I rx ry h;obtain ⟨i,j,rfl,rfl,q⟩:=h;obtain ⟨t,rfl⟩:=rx;obtain ⟨t',rfl⟩:=ry;exact notIn_str ⟨.bl _,H,I,rfl,q⟩
theorem CallR.or {f:g_} {r r':List V→Hp→VK→Prop} (h:CallR X f r) (h':CallR X f r'):CallR X f (fun xs H Q=>r xs H Q∨r' xs H Q):=by
 intro j' s σ H xs us Q I rs q;rcases q with q | q
 · exact h j' s σ H xs us Q I rs q
 · exact h' j' s σ H xs us Q I rs q
theorem lM:CallR X (.type "tuple") (fun xs H Q=>∃ p ys,xs=[.ref p]∧((SqL X.K H p ys∧∀ l,H l=ck→Q (.ref l) (upd H l (.tup ys)))∨(SqT X.K H p ys∧Q (.ref p) H))):=by
 intro j' s σ H xs us Q I r h;obtain ⟨p,ys,rfl,h⟩:=h;obtain ⟨u,rfl,rx⟩:=eR r;cases rx;rcases h with ⟨hq,q⟩ | ⟨hq,q⟩
 · obtain ⟨its,r',pl,hz⟩:=I.list hq;have hlen:=r'.length;refine call_tuple_list pl.isList (fun h' kp=>?_) (by simp only [A_] <;> omega);have I1:Inv X j' σ H { s with heap:=h' }:=I.kept (t':=s.toks) kp;have I2:Inv X j' σ (upd H h'.objs.size (.tup ys)) { s with heap:=h'.push { cls:=.type "tuple",data:=.seq its.toArray } } :=
    I1.laid (t':=s.toks) (fun b o e=>i_ _ e) (r_ _) (show ObjOk X.prog X.w _ _ _ (.tup ys) from ⟨hz,its,r',S9 _ _⟩)
   exact ⟨.ref h'.objs.size,_,I2,rfl,q _ (I1.hok.fresh (r_ _))⟩
 · obtain ⟨its,r',pl,hz⟩:=I.tuple hq;exact call_tuple_same pl ⟨.ref p,H,I,rfl,q⟩
def tyV (K:f_) (T:String) (x:V) (H:Hp):Prop:=match x with
 | .str _=>T="str"
 | .int _=>T="int"
 | .ref p=>(T="list"∧∃ xs,SqL K H p xs)∨(T="tuple"∧∃ o,K.lookup p=a_ o∧o.cls=.type "tuple"∧o.dict=ck) ∨
  (T="dict"∧((∃ kvs,H p=a_ (.dK kvs))∨∃ kvs,H p=a_ (.dT kvs)))∨(T="set"∧∃ S n,H p=a_ (.set S n))
 | _=>False
theorem Cb {j':List (l_×Obj)} {σ:St} {H:Hp} {s:h_} {T:String} {x:V} {v:g_} (I:Inv X j' σ H s) (r:RelV x v) (ty:tyV X.K T x H) :
 s.TypeIs v T∧∀ a,v=.ref a→∃ ob,s.heap.get? a=a_ ob∧ob.dict=ck:=by
 cases x with
 | str z =>
  obtain ⟨t,rfl⟩:=r;cases (show T="str" from ty);exact ⟨Ov s z t,fun _ e=>nomatch e⟩
 | int i =>
  obtain ⟨t,rfl⟩:=r;cases (show T="int" from ty);exact ⟨typeIs_int s i t,fun _ e=>nomatch e⟩
 | ref p =>
  cases r;rcases ty with ⟨rfl,xs,hq⟩ | ⟨rfl,o,hk,hc,hd⟩ | ⟨rfl,hk⟩ | ⟨rfl,S,n,hk⟩
  · obtain ⟨its,_,pl,_⟩:=I.list hq;refine ⟨pl.isList.typeIs,fun a e=>?_⟩;cases e;obtain ⟨o,n,e,c,hd,_⟩:=pl;exact ⟨o,e,hd⟩
  · refine ⟨⟨o,I.kIn p o hk,hc⟩,fun a e=>?_⟩;cases e;exact ⟨o,I.kIn _ o hk,hd⟩
  · have z:∃ o,s.heap.get? p=a_ o∧o.ExactDict:=by
     rcases hk with ⟨kvs,hk⟩ | ⟨kvs,hk⟩
     · obtain ⟨_,_,_,_,o,_,_,e,ex,_⟩:=I.hok p _ hk;exact ⟨o,e,ex⟩
     · obtain ⟨_,_,_,_,o,_,_,e,ex,_⟩:=I.hok p _ hk;exact ⟨o,e,ex⟩
    obtain ⟨o,e,ex⟩:=z;refine ⟨⟨o,e,ex.1⟩,fun a e2=>?_⟩;cases e2;exact ⟨o,e,ex.2.1⟩
  · obtain ⟨o,_,_,_,e,ex,_⟩:=I.hok p _ hk;refine ⟨⟨o,e,ex.1⟩,fun a e2=>?_⟩;cases e2;exact ⟨o,e,ex.2.1⟩
 | _=>exact Lw ty
def tBM (K:f_) (T:String) (r:V→List V→Hp→VK→Prop) (to:TE) (t:TA):TE:=fun σ H Q=>to σ H fun x H1=>tyV K T x H1∧t σ H1 fun xs H2=>r x xs H2 Q
variable {o e:H_} {es:List H_} {to:TE} {t:TA} {name:Str} {apos cpos:Pos} {T id:String} {r:V→List V→Hp→VK→Prop}
theorem za (pa:PlainAttrs T) (slot:Slot T name id) (hty:typeOf (.builtin id)=pure (.type "method_descriptor")) (hm:MtR X id r) (ho:PE X o to) (ha:PA X (e :: es) t)
 (hbase:NP o name X.env (eval o X.env)=eval o X.env:=by rfl)
 (hfew:((Lc cpos (k_ (e :: es) X.env)).all (fun x=>!x.1) && (Nv cpos (Mb [] X.env)).all (fun x=>x.1.isSome)
   && u_ ((e :: es).length + ([]:List No).length + (if ([]:List No).isEmpty then 0 else 1) < 30))=d_:=by rfl)
 (hline:(apos.endLine == cpos.line)=d_:=by rfl) (hs:k_ (e :: es) X.env=(e_,eval e X.env) :: k_ es X.env:=by rfl) (hplain:(Lc cpos (k_ es X.env)).any (·.1)=e_:=by rfl) :
 PE X (.Call (.Attribute o name apos) (e :: es) [] cpos) (tBM X.K T r to t):=by
 intro j' s σ H Q I h;refine wpAny_Call_method_late hbase hfew hline rfl (thn (ho j' s σ H _ I h) fun v s1 ⟨x,H1,I1,r1,ty,q1⟩=>?_);obtain ⟨h1,h2⟩:=Cb I1 r1 ty;refine ⟨T,id,pa,slot,hty,h1,h2,?_⟩;have hA:=ha cpos j' s1 σ H1 _ I1 q1;rw [hs] at hA ⊢;refine Calls.callWith_builtin (by show (e_ || (Lc cpos (k_ es X.env)).any (·.1))=e_; rw [hplain] <;> rfl) (QR ?_);exact thn hA fun us s2 ⟨vs,H2,I2,r2,q2⟩=>hm j' s2 σ H2 x vs v us Q I2 r1 r2 q2
end
def MtM (X:Cx) (id:String) (r:V→List V→Hp→VK→Prop):Prop :=
 ∀ (j':List (l_×Obj)) (s:h_) (σ:St) (H:Hp) (x:V) (xs:List V) (v:g_) (us:List g_) (Q:VK),Inv X j' σ H s→RelV x v→Vals xs us→r x xs H Q →
  v_ (F_ X.prog X.w) X.A (call (.builtin id) (v :: us)) (EP X j' σ Q) X.xe s
theorem Vals.one:∀ {x:V} {us:List g_},Vals [x] us→∃ u,us=[u]∧RelV x u
 | _,_,.cons r .nil=>⟨_,rfl,r⟩
theorem Vals.two:∀ {x y:V} {us:List g_},Vals [x,y] us→∃ u v,us=[u,v]∧RelV x u∧RelV y v
 | _,_,_,.cons r (.cons q .nil)=>⟨_,_,rfl,r,q⟩
theorem Vals.zero:∀ {us:List g_},Vals [] us→us=[]
 | _,.nil=>rfl
theorem Vals.reverse {xs:List V} {us:List g_} (h:Vals xs us):Vals xs.reverse us.reverse:=by
 induction h with
 | nil=>exact .nil
 | cons r t ih=>rw [MG,MG]; exact Vals.append ih (.cons r .nil)
theorem Vals.rep {xs:List V} {us:List g_} (h:Vals xs us):∀ k:Nat,Vals (y_ k xs).flatten (y_ k us).flatten
 | 0=>.nil
 | k + 1=>by
  rw [LG,LG,MI,MI];exact Vals.append h (Vals.rep h k)
theorem mQ (its:List g_):∀ (k:Nat) (acc:List g_),
 RE (fun x1 x2=>x1 ++ x2) acc.toArray (y_ k its.toArray)=(acc ++ (y_ k its).flatten).toArray
 | 0,acc=>by simp
 | k + 1,acc=>by
  have e:acc.toArray ++ its.toArray=(acc ++ its).toArray:=by simp
  have e2:(acc ++ its) ++ (y_ k its).flatten=acc ++ (y_ (k + 1) its).flatten:=by
   rw [LG,MI,MJ]
  rw [← e2,← mQ its k (acc ++ its),← e,LG,Qn]
section
variable {X:Cx} {j':List (l_×Obj)} {σ:St} {H:Hp} {s:h_} {l b:l_} {xs ys zs:List V}
theorem Inv.lset {its its':List g_} {n:Nat} {f:Array g_→Array g_} {t':Nat} (I:Inv X j' σ H s) (hH:H l=a_ (.lst xs))
 (e:s.heap.get? l=a_ { cls:=.type "list",data:=.seq its.toArray n }) (hf:f its.toArray=its'.toArray) (hv:Vals ys its') (hz:ys.length≤sizeLine) :
 Inv X j' σ (upd H l (.lst ys)) { s with heap:=s.heap.update l (K7 f),toks:=t' }:=by
 have q:=R9 e f;rw [hf] at q;refine I.write (x:=l) (e:=l) (by rw [hH]; exact trivial) (.inl rfl) (fun b' u hb hu=>(Ob s.heap (K7 f) (Oh hb)).trans hu) ⟨_,q⟩ ?_;exact ⟨hz,its',_,hv,q⟩
theorem Inv.lnew {its:List g_} {t':Nat} (I:Inv X j' σ H s) (hv:Vals ys its) (hz:ys.length≤sizeLine) :
 Inv X j' σ (upd H s.heap.objs.size (.lst ys)) { s with heap:=s.heap.push { cls:=.type "list",data:=.seq its.toArray },toks:=t' } :=
 I.laid (fun _ _ q=>i_ _ q) (r_ _) ⟨hz,its,0,hv,t_ _ rfl⟩
theorem Inv.fresh (I:Inv X j' σ H s):H s.heap.objs.size=ck:=I.hok.fresh (r_ _)
theorem Inv.lstM (I:Inv X j' σ H s) (hH:H l=a_ (.lst xs)):xs.length≤sizeLine∧∃ (its:List g_) (n:Nat),Vals xs its∧xs.length=its.length∧s.heap.get? l=a_ { cls:=.type "list",data:=.seq its.toArray n }:=by
 obtain ⟨z,its,n,r,e⟩:=I.hok l _ hH;exact ⟨z,its,n,r,r.length,e⟩
theorem wc {n:Nat} (h:n≤sizeLine):NR n=e_:=by
 unfold NR;exact decide_eq_false (by omega)
end
section
variable {X:Cx}
def zb:V→List V→Hp→VK→Prop:=fun x vs H Q=>∃ l xs y,x=.ref l∧vs=[y]∧H l=a_ (.lst xs)∧xs.length < sizeLine∧Q .non (upd H l (.lst (xs ++ [y])))
theorem sZ:MtM X "list.append" zb:=by
 intro j' s σ H x vs v us Q I rx rv h;obtain ⟨l,xs,y,rfl,rfl,hH,hz,q⟩:=h;cases rx;obtain ⟨u,rfl,ru⟩:=rv.one;obtain ⟨z,its,n,r,hl,e⟩:=I.lstM hH;refine Nu OG ⟨_,e,rfl⟩ Rc (QP _ _) (RI l its.toArray n u (by rw [A_]; omega)) ⟨e,?_⟩;refine ⟨.non,_,I.lset (its':=its ++ [u]) hH e (by simp) (r.append (.cons ru .nil)) ?_,rfl,q⟩;rw [KS,Qt];omega
def Jc:R2:=fun x y H Q=>∃ l b xs zs,x=.ref l∧y=.ref b∧H l=a_ (.lst xs)∧H b=a_ (.lst zs)∧xs.length + zs.length≤sizeLine∧∀ p,H p=ck→Q (.ref p) (upd H p (.lst (xs ++ zs)))
theorem Cc:OpR X (L5 .Add) Jc:=by
 intro j' s σ H x y v u Q I rx ry h;obtain ⟨l,b,xs,zs,rfl,rfl,hH,hB,hz,q⟩:=h;cases rx;cases ry;obtain ⟨z,its,n,r,hl,e⟩:=I.lstM hH;obtain ⟨z2,its2,n2,r2,hl2,e2⟩:=I.lstM hB;refine PySem.P.add_list e e2 ?_ (by rw [A_,A_]; omega);have ea:its.toArray ++ its2.toArray=(its ++ its2).toArray:=by simp
 rw [ea];exact ⟨.ref _,_,I.lnew (t':=s.toks) (r.append r2) (by rw [KS]; omega),rfl,q _ I.fresh⟩
def Je:R2:=fun x y H Q=>∃ l k xs,x=.ref l∧y=.int k∧H l=a_ (.lst xs)∧-(2 ^ 63)≤k∧k < 2 ^ 63∧xs.length * k.toNat≤sizeLine ∧
 ∀ p,H p=ck→Q (.ref p) (upd H p (.lst (y_ k.toNat xs).flatten))
theorem zc {α:Type} (xs:List α) (k:Nat):(y_ k xs).flatten.length=k * xs.length:=by
 induction k with
 | zero=>simp
 | succ k ih=>rw [LG,MI,KS,ih,Nat.succ_mul,Nat.add_comm]
theorem op_rep:OpR X (L5 .Mult) Je:=by
 intro j' s σ H x y v u Q I rx ry h;obtain ⟨l,k,xs,rfl,rfl,hH,h1,h2,hz,q⟩:=h;cases rx;obtain ⟨t,rfl⟩:=ry;obtain ⟨z,its,n,r,hl,e⟩:=I.lstM hH;have hlen:its.toArray.size * k.toNat≤sizeLine:=by rw [A_,← hl]; exact hz
 have hcap:¬ its.toArray.size * k.toNat > (2 ^ 63 - 1) / 8:=by
  have:(sizeLine:Nat)≤(2 ^ 63 - 1) / 8:=by decide
  omega
 have hfit:¬ (!Builtin.List.listFitsIndex k)=d_:=by
  rw [fitsIndex_both h1 h2];exact xy
 have hlong:¬ NR (its.toArray.size * k.toNat)=d_:=by
  rw [wc hlen];exact xy
 have hnew:RE (fun x1 x2=>x1 ++ x2) #[] (y_ (if its.toArray.isEmpty=d_ then 0 else k.toNat) its.toArray)=(y_ k.toNat its).flatten.toArray:=by
  have f0:∀ m:Nat,RE (fun x1 x2=>x1 ++ x2) #[] (y_ m its.toArray)=(y_ m its).flatten.toArray:=fun m=>by
   have:=mQ its m [];rw [Ql] at this;exact this
  rw [f0];cases its with
  | nil=>simp
  | cons a r'=>rw [if_neg (by simp)]
 refine wpAny_binaryOp_repeat_ref (T:="list") (U:="int") (by decide) ⟨_,e,rfl⟩ (fun s'=>typeIs_int s' k t) noFill_list_mul F.fills_int_mul F.slot_int_rmul repeat_list F.slot_int_index.lookup
  (Nu F.slot_int_rmul (typeIs_int s k t) F.entry_int_rmul (F.args_int_rmul_2 _ _) (int___rmul___int_list k t l its.toArray n)
    ⟨e,rfl,⟨_,e,rfl⟩,Nu F.slot_list_mul ⟨_,e,rfl⟩ F.entry_list_mul (F.args_list_mul_2 _ _) (AutoListH.list___mul___list_int_3 l its.toArray n k t hfit hcap hlong) ⟨e,?_⟩⟩)
 rw [hnew];exact ⟨.ref _,_,I.lnew (t':=s.toks) (r.rep k.toNat) (by rw [zc,RS]; exact hz),rfl,q _ I.fresh⟩
end
section
variable {prog:rl} {w:C_} {A:E_} {E:g_→h_→Prop} {s:h_}
end
section
variable {X:Cx}
end
end L2
namespace Att
open PySem PySem.W PySem.Calls PyProof.Rows
theorem kn {P:OL} {h:KO}:∀ (ns:List Int) (vs:List g_),WellAll P h vs (ns.map WData.int)→Qc vs ns:=by
 intro ns
 induction ns with
 | nil =>
  intro vs w;rw [List.map_nil] at w;cases w;exact .nil
 | cons n ns ih =>
  intro vs w;rw [K0] at w;cases w with
  | cons a b =>
   cases a;exact .cons _ _ (ih _ b)
theorem td {l:OpenLaw} {n:Nat} (hn:l.most=a_ n) {P:OL} {h:KO} {args:List WData} {vals:List g_}
 (hpre:l.row.toRowW.claim.pre args=d_) (hwl:WellAll P h vals args) :
 ∃ a vs ns,vals=[q_ a]∧args=[WData.list (ns.map WData.int)]∧h.get? a=a_ { cls:=.type "list",data:=.seq vs.toArray }∧Qc vs ns∧ns.length≤n:=by
 have hsh:WShape.hasAll [] args [.list .int]=d_:=(pre_splitW hpre).1;have hc:l.pre.holds [] { args:=args }=d_:=(pre_splitW hpre).2;obtain ⟨d,r,rfl,h1,h2⟩:=hasAllW_cons hsh;obtain rfl:=hasAllW_nil h2;obtain ⟨xs,rfl,h3⟩:=hasW_list h1;obtain ⟨ns,rfl⟩:=items_int h3;have hlen:ns.length≤n:=by
  unfold OpenLaw.pre at hc;have h4:(WTm.not (.lt (.lit (.int (n:Int))) (.len (.arg 0)))).holds [] { args:=[.list (ns.map .int)] }=d_:=by
   have h4:=(holds_andW hc).1;rw [hn] at h4;exact h4
  have h5:=condW_of h4 (w_not (w_lt w_lit (w_len_list (w_arg rfl))));rw [KR] at h5;refine Nat.le_of_not_lt fun q=>?_;have q':(n:Int) < ((ns.length:Nat):Int):=by omega
  first
   | (rw [decide_eq_true q'] at h5; exact absurd h5 (by decide))
   | (simp at h5; omega)
 cases hwl with
 | cons w1 w2 =>
  cases w2;cases w1 with
  | list ho hall=>exact ⟨_,_,ns,rfl,rfl,ho,kn ns _ hall,hlen⟩
theorem tj (l:OpenLaw) (args:List WData):l.row.toRowW.claim.post args (.bool d_) args=d_ :=
 postW_of (r:=l.row.toRowW) (X:=(d_ == d_))
  (show WShape.has [] (.bool d_) .bool=d_ by first | rfl | decide | simp [WShape.has,WShape.arms,WShape.armsAll])
  (show (WTm.eq .res (.lit (.bool d_))).value [] { args:=args,res:=a_ (.bool d_),after:=args }=a_ (.bool (d_ == d_)) from w_eq_bool (w_res rfl) w_lit) rfl
theorem attach_call {l:OpenLaw} {n:Nat} {q:rl} {loose:List Str} {XP:(Str→Option g_)→KO→Prop} {YP:C_→KO→Prop} {d:DefRec}
 (hn:l.most=a_ n) (hdf:d.params.defaults=[])
 (call:∀ (w:C_) (s₀ s₁:h_) (mg mb:Str→Option g_) (fa:l_) (o:Obj) (pm cd doc:g_) (a:l_) (vs:List g_) (ns:List Int),
   Ground q loose [] XP w s₀ mg mb s₁.heap→YP w s₁.heap →
   s₁.heap.get? fa=a_ o→o.data=.func (docDef d.name d.params d.body d.scope pm cd doc)→s₁.heap.CodeRec cd d.name→mg d.name=a_ (.ref fa) →
   s₁.heap.get? a=a_ { cls:=.type "list",data:=.seq vs.toArray }→Qc vs ns→ns.length≤n→s₁.gens=#[] →
   NC (F_ l.prog w) QZ (.call (.ref fa) ⟨[.ref a],[]⟩) (fun r s'=>r=.ok (.ret (.bool d_))∧OldK s₁.heap s'.heap∧s'.os=s₁.os∧OZ s'.gens) s₁) :
 WalkO q loose XP YP l.row.toRowW d [] (fun f vs=>SL f vs):=by
 intro w s₀ s₁ mg mb G Y fa o pm cd doc dV kV ho hd hcd hD hmg hg args vals as hpre hlay hrd hwl hlo;obtain rfl:dV=.none:=Dflts.none hD hdf;obtain rfl:kV=.none:=Dflts.noKw hD;obtain ⟨a,vs,ns,rfl,rfl,hobj,hints,hlen⟩:=td hn hpre hwl;refine enter_call (M1 (call w s₀ s₁ mg mb fa o pm cd doc a vs ns G Y ho (fd_plain hd) hcd hmg hobj hints hlen hg) fun r s' hq=>?_);obtain ⟨rfl,h2,h3,h4⟩:=hq;exact ⟨.inl ⟨.bool d_,.bool d_,[],rfl,fun _=>rfl,.bool d_,tj l _,fun _=>⟨MK,fun _ hm=>(nomatch hm)⟩⟩,h2,h3,h4⟩
section
variable {prog:rl} {w:C_} {A:E_} {E:g_→h_→Prop} {s:h_} {K:Frag}
def Jf (h:KO) (L d:l_):List (l_×Obj):=(o_ h.objs.size).filterMap fun a=>if a=L∨a=d then ck else (h.get? a).map fun o=>(a,o)
end
end Att
namespace L2
open PySem PySem.Spec PyProof.Rows
theorem gT:∀ {vs:List g_} {ns:List Int},Qc vs ns→Vals (ns.map V.int) vs
 | _,_,.nil=>.nil
 | _,_,.cons n t h=>.cons ⟨t,rfl⟩ (gT h)
def jz (s:L3):Arguments:=match s with
 | .FunctionDef _ a _ _ _ _ _ _ _ _=>a
 | _=>{ posonlyargs:=[],args:=[],vararg:=ck,kwonlyargs:=[],kw_defaults:=[],kwarg:=ck,defaults:=[] }
def dc (s:L3):List L3:=match s with
 | .FunctionDef _ _ b _ _ _ _ _ _ _=>b
 | _=>[]
def aI (s:L3):L6:=match s with
 | .FunctionDef _ _ _ _ _ _ sc _ _ _=>sc
 | _=>{ kind:=.function,names:=[],isGenerator:=e_,isCoroutine:=e_ }
abbrev CX0:CXT:=fun _ _ _ _ _ _=>False
abbrev E0:XK:=fun _ _ _=>False
theorem GS {X:Cx}:mH CX0 X E0:=fun _ _ _ _ _ _ _ h=>h.elim
structure Fun (K:f_) (x qual:Str) (st:L3) (f:l_) (fd:Lv):Prop where
 ex:∃ (oc:g_) (od:Option l_) (kV doc pm:g_) (an:Option l_) (cdv ct:g_) (osl:Array (Option g_)),
  fd=M5 x qual (jz st) (dc st) (aI st) .none kV doc pm an cdv ct∧K.lookup f=a_ ⟨oc,od,.func fd,osl⟩∧O8 K cdv qual=d_
 kp:LK K (.ref f)=d_
section
variable {P:rl} {w:C_} {K:f_} {mg:Str→Option g_} {base:KO}
theorem Fun.ok {x qual:Str} {st:L3} {f:l_} {fd:Lv} {N ps:List Str} {k:Nat} {sp:Sp} (F:Fun K x qual st f fd) (S:eU N ps (aI st)) (len:∀ vs H Q E,sp vs H Q E→vs.length=ps.length)
 (hbody:∀ (cdv:g_) (A:E_) (outer:List Env) (s:h_) (H:Hp) (vs:List V) (Q:VK) (E:XK),Room k (A.deeper (M8 qual (aI st) s.heap.objs.size f cdv))→sp vs H Q E →
   ∃ t,PSs (lK CX0 P w K mg base N qual (aI st) f cdv A outer s H E).nox (dc st) t∧t { nx:=fun _ H'=>Q .non H',rt:=Q } (start N vs) H):FnOk P w K mg base CX0 (k + 1) f fd ps sp:=by
 obtain ⟨oc,od,kV,doc,pm,an,cdv,ct,osl,rfl,lk,hcd⟩:=F.ex;refine v7 lk hcd S len fun A outer s H vs Q E hr hsp=>?_;obtain ⟨t,h,q⟩:=hbody cdv A outer s H vs Q E hr hsp;exact ⟨t,h.nox,q⟩
theorem Fun.binds {x qual:Str} {st:L3} {f:l_} {fd:Lv} {ps:List Str} (F:Fun K x qual st f fd)
 (h:∀ (kV doc pm:g_) (an:Option l_) (cdv ct:g_) (us:List g_),us.length=ps.length→QF (M5 x qual (jz st) (dc st) (aI st) .none kV doc pm an cdv ct) ⟨us,[]⟩=pure (ps.zip us)):Binds K fd ps []:=by
 obtain ⟨oc,od,kV,doc,pm,an,cdv,ct,osl,rfl,lk,hcd⟩:=F.ex;exact .all (h kV doc pm an cdv ct)
theorem Cd {x qual:Str} {st:L3} {f:l_} {oc:g_} {od an:Option l_} {osl:Array (Option g_)} {kV doc pm cdv ct:g_} (l:K.lookup f=a_ ⟨oc,od,.func (M5 x qual (jz st) (dc st) (aI st) .none kV doc pm an cdv ct),osl⟩)
 (c:O8 K cdv qual=d_) (k:LK K (.ref f)=d_):Fun K x qual st f (M5 x qual (jz st) (dc st) (aI st) .none kV doc pm an cdv ct):=⟨⟨oc,od,kV,doc,pm,an,cdv,ct,osl,rfl,l,c⟩,k⟩
end
section
variable {X:Cx}
end
theorem xX {A B:Prop} (h:B):if e_=d_ then A else B:=by
 rw [if_neg xy];exact h
theorem xY {A B:Prop} (h:A):if d_=d_ then A else B:=by
 rw [if_pos rfl];exact h
def Same (H H':Hp):Prop:=∀ b o,H b=a_ o→H' b=a_ o
theorem Same.refl (H:Hp):Same H H:=fun _ _ h=>h
theorem Same.trans {H H1 H2:Hp} (a:Same H H1) (b:Same H1 H2):Same H H2:=fun c o h=>b c o (a c o h)
theorem Same.free {H H':Hp} (e:Same H H') {l:l_} (h:H' l=ck):H l=ck:=by
 cases q:H l with
 | none=>rfl
 | some o =>
  rw [e l o q] at h;cases h
theorem Same.seq {K:f_} {H H':Hp} {a:l_} {xs:List V} (e:Same H H') (h:SqL K H a xs):SqL K H' a xs:=by
 rcases h with (h | ⟨o,h⟩) | h
 · exact .inl (.inl (e _ _ h))
 · exact .inl (.inr ⟨o,e _ _ h⟩)
 · exact .inr h
end L2
namespace FD
open PySem PySem.Spec PyProof.Rows L2
inductive Dv where
 | non | bl (b:Bool) | int (i:Int) | str (x:Str) | tup (xs:List Dv) | lst (xs:List Dv) | scr (ns:List Int) | exn (c:Nat)
def xnm:Nat→Str
 | 0=>"NoName" | 1=>"NoTable" | 2=>"NoPath" | 3=>"NoAsk" | 4=>"NoNote" | 5=>"NoJar" | 6=>"NoNumber" | 7=>"NoText" | 8=>"NoStep" | _=>"JarError"
mutual
def Rep (K:f_) (H:Hp):Dv→V→Prop
 | .non,v=>v=.non
 | .bl b,v=>v=.bl b
 | .int i,v=>v=.int i
 | .str x,v=>v=.str x
 | .tup ds,v=>∃ a xs,v=.ref a∧H a=a_ (.tup xs)∧Reps K H ds xs
 | .lst ds,v=>∃ a xs,v=.ref a∧H a=a_ (.lst xs)∧Reps K H ds xs
 | .scr ns,v=>∃ a,v=.ref a∧SqL K H a (ns.map V.int)
 | .exn c,v=>∃ a o u C,v=.ref a∧H a=a_ (.frz o u)∧o.cls=.ref C∧L9 K z_ (xnm c)=a_ (a_ (.ref C))
def Reps (K:f_) (H:Hp):List Dv→List V→Prop
 | [],vs=>vs=[]
 | d :: ds,vs=>∃ v us,vs=v :: us∧Rep K H d v∧Reps K H ds us
end
section
variable {K:f_} {H H':Hp}
mutual
theorem Rep.mono (e:Same H H'):∀ (d:Dv) (v:V),Rep K H d v→Rep K H' d v
 | .non,_,h=>h
 | .bl _,_,h=>h
 | .int _,_,h=>h
 | .str _,_,h=>h
 | .tup ds,v,h=>by
  obtain ⟨a,xs,r,h,q⟩:∃ a xs,v=.ref a∧H a=a_ (.tup xs)∧Reps K H ds xs:=h;exact ⟨a,xs,r,e _ _ h,Reps.mono e ds xs q⟩
 | .lst ds,v,h=>by
  obtain ⟨a,xs,r,h,q⟩:∃ a xs,v=.ref a∧H a=a_ (.lst xs)∧Reps K H ds xs:=h;exact ⟨a,xs,r,e _ _ h,Reps.mono e ds xs q⟩
 | .scr ns,v,h=>by
  obtain ⟨a,r,h⟩:∃ a,v=.ref a∧SqL K H a (ns.map V.int):=h;exact ⟨a,r,e.seq h⟩
 | .exn c,v,h=>by
  obtain ⟨a,o,u,C,r,h,q⟩:∃ a o u C,v=.ref a∧H a=a_ (.frz o u)∧o.cls=.ref C∧L9 K z_ (xnm c)=a_ (a_ (.ref C)):=h;exact ⟨a,o,u,C,r,e _ _ h,q⟩
theorem Reps.mono (e:Same H H'):∀ (ds:List Dv) (vs:List V),Reps K H ds vs→Reps K H' ds vs
 | [],_,h=>h
 | d :: ds,vs,h=>by
  obtain ⟨v,us,r,h,q⟩:∃ v us,vs=v :: us∧Rep K H d v∧Reps K H ds us:=h;exact ⟨v,us,r,Rep.mono e d v h,Reps.mono e ds us q⟩
end
theorem Reps.nil:Reps K H [] []:=rfl
theorem Reps.cons {d ds v vs} (h:Rep K H d v) (t:Reps K H ds vs):Reps K H (d :: ds) (v :: vs):=⟨v,vs,rfl,h,t⟩
theorem Reps.length:∀ {ds:List Dv} {vs:List V},Reps K H ds vs→vs.length=ds.length
 | [],vs,h=>by cases (show vs=[] from h); rfl
 | d :: ds,vs,h=>by
  obtain ⟨v,us,r,_,q⟩:∃ v us,vs=v :: us∧Rep K H d v∧Reps K H ds us:=h;subst r;show us.length + 1=ds.length + 1;rw [Reps.length q]
theorem Reps.get:∀ {ds:List Dv} {vs:List V} {i:Nat} {v:V},Reps K H ds vs→vs[i]?=a_ v→∃ d,ds[i]?=a_ d∧Rep K H d v
 | [],vs,i,v,h,e=>by cases (show vs=[] from h); simp at e
 | d :: ds,vs,i,v,h,e=>by
  obtain ⟨v',us,r,h',q⟩:∃ v us,vs=v :: us∧Rep K H d v∧Reps K H ds us:=h;subst r;cases i with
  | zero=>simp at e; subst e; exact ⟨d,rfl,h'⟩
  | succ i =>
   obtain ⟨d',e',r'⟩:=Reps.get (i:=i) q (by simpa using e);exact ⟨d',by simpa using e',r'⟩
theorem Reps.get':∀ {ds:List Dv} {vs:List V} {i:Nat} {d:Dv},Reps K H ds vs→ds[i]?=a_ d→∃ v,vs[i]?=a_ v∧Rep K H d v
 | [],vs,i,v,h,e=>by simp at e
 | d :: ds,vs,i,d0,h,e=>by
  obtain ⟨v',us,r,h',q⟩:∃ v us,vs=v :: us∧Rep K H d v∧Reps K H ds us:=h;subst r;cases i with
  | zero=>simp at e; subst e; exact ⟨v',rfl,h'⟩
  | succ i =>
   obtain ⟨d',e',r'⟩:=Reps.get' (i:=i) q (by simpa using e);exact ⟨d',by simpa using e',r'⟩
theorem Reps.append:∀ {ds es:List Dv} {vs us:List V},Reps K H ds vs→Reps K H es us→Reps K H (ds ++ es) (vs ++ us)
 | [],es,vs,us,h,q=>by cases (show vs=[] from h); exact q
 | d :: ds,es,vs,us,h,q=>by
  obtain ⟨v',vs',r,h',t⟩:∃ v us,vs=v :: us∧Rep K H d v∧Reps K H ds us:=h;subst r;exact ⟨v',vs' ++ us,rfl,h',Reps.append t q⟩
theorem Reps.take:∀ {ds:List Dv} {vs:List V} (n:Nat),Reps K H ds vs→Reps K H (ds.take n) (vs.take n)
 | ds,vs,0,_=>by simp [Reps]
 | [],vs,n + 1,h=>by cases (show vs=[] from h); exact rfl
 | d :: ds,vs,n + 1,h=>by
  obtain ⟨v',vs',r,h',t⟩:∃ v us,vs=v :: us∧Rep K H d v∧Reps K H ds us:=h;subst r;exact ⟨v',vs'.take n,rfl,h',Reps.take n t⟩
theorem Reps.drop:∀ {ds:List Dv} {vs:List V} (n:Nat),Reps K H ds vs→Reps K H (ds.drop n) (vs.drop n)
 | ds,vs,0,h=>h
 | [],vs,n + 1,h=>by cases (show vs=[] from h); exact rfl
 | d :: ds,vs,n + 1,h=>by
  obtain ⟨v',vs',r,h',t⟩:∃ v us,vs=v :: us∧Rep K H d v∧Reps K H ds us:=h;subst r;exact Reps.drop n t
theorem Rep.lstE {ds:List Dv} {v:V} (h:Rep K H (.lst ds) v):∃ a xs,v=.ref a∧H a=a_ (.lst xs)∧Reps K H ds xs:=h
theorem Rep.tupE {ds:List Dv} {v:V} (h:Rep K H (.tup ds) v):∃ a xs,v=.ref a∧H a=a_ (.tup xs)∧Reps K H ds xs:=h
theorem Rep.exnE {c:Nat} {v:V} (h:Rep K H (.exn c) v):∃ a o u C,v=.ref a∧H a=a_ (.frz o u)∧o.cls=.ref C∧L9 K z_ (xnm c)=a_ (a_ (.ref C)):=h
theorem Rep.scrE {ns:List Int} {v:V} (h:Rep K H (.scr ns) v):∃ a,v=.ref a∧SqL K H a (ns.map V.int):=h
end
theorem aE {H:Hp} {p:l_} (h:H p=ck) (o:HO):Same H (upd H p o):=fun b u q=>by rw [ay (ar q h)]; exact q
abbrev Ev:=List (Option Dv)
structure Envs (K:f_) (H:Hp) (σ:L2.St) (ρ:Ev):Prop where
 len:σ.length=ρ.length
 at':∀ (i:Nat) (d:Dv),ρ[i]?=a_ (a_ d)→∃ v,σ[i]?=a_ (a_ v)∧Rep K H d v
theorem Envs.mono {K:f_} {H H':Hp} {σ:L2.St} {ρ:Ev} (E:Envs K H σ ρ) (e:Same H H'):Envs K H' σ ρ :=
 ⟨E.len,fun i d h=>let ⟨v,h1,h2⟩:=E.at' i d h; ⟨v,h1,Rep.mono e d v h2⟩⟩
theorem Envs.set {K:f_} {H:Hp} {σ:L2.St} {ρ:Ev} {i:Nat} {d:Dv} {v:V} (E:Envs K H σ ρ) (r:Rep K H d v):Envs K H (σ.set i (a_ v)) (ρ.set i (a_ d)):=by
 refine ⟨by rw [LQ,LQ]; exact E.len,fun j d' h=>?_⟩;by_cases hj:i=j
 · subst hj;by_cases hl:i < ρ.length
   · rw [Lu hl] at h;cases h;exact ⟨v,by rw [Lu (by rw [E.len]; exact hl)],r⟩
   · rw [Nl (by rw [LQ]; omega)] at h;cases h
 · rw [Lq hj] at h;rw [Lq hj];exact E.at' j d' h
def fgt (js:List Nat) (ρ:Ev):Ev:=js.foldl (fun r j=>r.set j ck) ρ
theorem Envs.fgt1 {K:f_} {H:Hp} {σ:L2.St} {ρ:Ev} (j:Nat) (E:Envs K H σ ρ):Envs K H σ (ρ.set j ck):=by
 refine ⟨by rw [LQ]; exact E.len,fun i d h=>?_⟩;by_cases hj:j=i
 · subst hj;by_cases hl:j < ρ.length
   · rw [Lu hl] at h;cases h
   · rw [Nl (by rw [LQ]; omega)] at h;cases h
 · rw [Lq hj] at h;exact E.at' i d h
theorem Envs.fgt {K:f_} {H:Hp} {σ:L2.St}:∀ (js:List Nat) {ρ:Ev},Envs K H σ ρ→Envs K H σ (fgt js ρ)
 | [],_,E=>E
 | j :: js,_,E=>Envs.fgt js (E.fgt1 j)
inductive Rs (α:Type) where
 | ok (a:α)
 | exc (c:Nat)
inductive Fl where
 | nx (ρ:Ev)
 | rt (d:Dv)
 | exc (c:Nat)
def Fly (N:l_→Prop) (H:Hp) (e:l_) (cls:g_) (h:KO):Prop:=H e=ck∧N e∧∃ oe vs a0,h.get? e=a_ oe∧oe.cls=cls∧oe.data=.fields vs∧vs[0]?=a_ a0 ∧
 (vs[1]?=a_ .none∨∃ T oT ts,vs[1]?=a_ (.ref T)∧T≠e∧H T=ck∧N T∧h.get? T=a_ oT∧oT.data=.fields ts∧ts[3]?=a_ .none)
def J8 (X:Cx) (a:l_):Prop:=X.s₀.heap.get? a=ck∧∀ p∈X.pn,p.1≠a
def GT (X:Cx) (H:Hp) (c:Nat) (e:g_) (s:h_):Prop:=∃ a C,e=.ref a∧L9 X.K z_ (xnm c)=a_ (a_ (.ref C))∧Fly (J8 X) H a (.ref C) s.heap
def XW (X:Cx) (c:Nat) (H:Hp):Prop:=∀ j' σ H' s e,Same H H'→Inv X j' σ H' s→GT X H' c e s→X.xe e s
theorem XW.mono {X:Cx} {c:Nat} {H H':Hp} (h:XW X c H) (e:Same H H'):XW X c H':=fun j' σ H1 s x e1 I q=>h j' σ H1 s x (e.trans e1) I q
def Out (X:Cx) (H:Hp) (o:Option (Rs Dv)) (Q:VK):Prop:=match o with
 | none=>False
 | some (.exc c)=>XW X c H
 | some (.ok d)=>∀ v H',Same H H'→Rep X.K H' d v→Q v H'
def OutB (X:Cx) (H:Hp) (o:Option (Rs Bool)) (Q:Bool→Hp→Prop):Prop:=match o with
 | none=>False
 | some (.exc c)=>XW X c H
 | some (.ok d)=>∀ H',Same H H'→Q d H'
def OutA (X:Cx) (H:Hp) (o:Option (Rs (List Dv))) (Q:List V→Hp→Prop):Prop:=match o with
 | none=>False
 | some (.exc c)=>XW X c H
 | some (.ok ds)=>∀ vs H',Same H H'→Reps X.K H' ds vs→Q vs H'
def OutS (X:Cx) (H:Hp) (o:Option Fl) (D:vU):Prop:=match o with
 | none=>False
 | some (.exc c)=>XW X c H
 | some (.rt d)=>∀ v H',Same H H'→Rep X.K H' d v→D.rt v H'
 | some (.nx ρ)=>∀ σ H',Same H H'→Envs X.K H' σ ρ→D.nx σ H'
def bnd {α β:Type} (o:Option (Rs α)) (k:α→Option (Rs β)):Option (Rs β):=match o with
 | none=>ck
 | some (.exc c)=>a_ (.exc c)
 | some (.ok a)=>k a
def bV {α:Type} (o:Option (Rs α)) (k:α→Option Fl):Option Fl:=match o with
 | none=>ck
 | some (.exc c)=>a_ (.exc c)
 | some (.ok a)=>k a
def sq (o:Option Fl) (k:Ev→Option Fl):Option Fl:=match o with
 | some (.nx ρ)=>k ρ
 | o=>o
section
variable {X:Cx} {H H':Hp} {Q:VK} {QB:Bool→Hp→Prop} {QA:List V→Hp→Prop} {D:vU}
theorem Out.mono (e:Same H H'):∀ {o:Option (Rs Dv)},Out X H o Q→Out X H' o Q
 | none,h=>h
 | some (.exc _),h=>XW.mono h e
 | some (.ok _),h=>fun v H1 e1 r=>h v H1 (e.trans e1) r
theorem OutB.mono (e:Same H H'):∀ {o:Option (Rs Bool)},OutB X H o QB→OutB X H' o QB
 | none,h=>h
 | some (.exc _),h=>XW.mono h e
 | some (.ok _),h=>fun H1 e1=>h H1 (e.trans e1)
theorem OutA.mono (e:Same H H'):∀ {o:Option (Rs (List Dv))},OutA X H o QA→OutA X H' o QA
 | none,h=>h
 | some (.exc _),h=>XW.mono h e
 | some (.ok _),h=>fun v H1 e1 r=>h v H1 (e.trans e1) r
theorem OutS.mono (e:Same H H'):∀ {o:Option Fl},OutS X H o D→OutS X H' o D
 | none,h=>h
 | some (.exc _),h=>XW.mono h e
 | some (.rt _),h=>fun v H1 e1 r=>h v H1 (e.trans e1) r
 | some (.nx _),h=>fun v H1 e1 r=>h v H1 (e.trans e1) r
theorem Out.bind {o:Option (Rs Dv)} {k:Dv→Option (Rs Dv)} {P:VK} (h:Out X H (bnd o k) Q) (hp:∀ d v H',Same H H'→Rep X.K H' d v→Out X H' (k d) Q→P v H'):Out X H o P:=by
 match o,h with
 | some (.exc _),h=>exact h
 | some (.ok d),h=>exact fun v H1 e r=>hp d v H1 e r (Out.mono e h)
theorem Out.bindB {o:Option (Rs Dv)} {k:Dv→Option (Rs Bool)} {P:VK} (h:OutB X H (bnd o k) QB) (hp:∀ d v H',Same H H'→Rep X.K H' d v→OutB X H' (k d) QB→P v H'):Out X H o P:=by
 match o,h with
 | some (.exc _),h=>exact h
 | some (.ok d),h=>exact fun v H1 e r=>hp d v H1 e r (OutB.mono e h)
theorem Out.bindA {o:Option (Rs Dv)} {k:Dv→Option (Rs (List Dv))} {P:VK} (h:OutA X H (bnd o k) QA) (hp:∀ d v H',Same H H'→Rep X.K H' d v→OutA X H' (k d) QA→P v H'):Out X H o P:=by
 match o,h with
 | some (.exc _),h=>exact h
 | some (.ok d),h=>exact fun v H1 e r=>hp d v H1 e r (OutA.mono e h)
theorem Out.bindS {o:Option (Rs Dv)} {k:Dv→Option Fl} {P:VK} (h:OutS X H (bV o k) D) (hp:∀ d v H',Same H H'→Rep X.K H' d v→OutS X H' (k d) D→P v H'):Out X H o P:=by
 match o,h with
 | some (.exc _),h=>exact h
 | some (.ok d),h=>exact fun v H1 e r=>hp d v H1 e r (OutS.mono e h)
theorem OutB.bind {o:Option (Rs Bool)} {k:Bool→Option (Rs Dv)} {P:Bool→Hp→Prop} (h:Out X H (bnd o k) Q) (hp:∀ b H',Same H H'→Out X H' (k b) Q→P b H'):OutB X H o P:=by
 match o,h with
 | some (.exc _),h=>exact h
 | some (.ok d),h=>exact fun H1 e=>hp d H1 e (Out.mono e h)
theorem OutB.bindB {o:Option (Rs Bool)} {k:Bool→Option (Rs Bool)} {P:Bool→Hp→Prop} (h:OutB X H (bnd o k) QB) (hp:∀ b H',Same H H'→OutB X H' (k b) QB→P b H'):OutB X H o P:=by
 match o,h with
 | some (.exc _),h=>exact h
 | some (.ok d),h=>exact fun H1 e=>hp d H1 e (OutB.mono e h)
theorem OutB.bindS {o:Option (Rs Bool)} {k:Bool→Option Fl} {P:Bool→Hp→Prop} (h:OutS X H (bV o k) D) (hp:∀ b H',Same H H'→OutS X H' (k b) D→P b H'):OutB X H o P:=by
 match o,h with
 | some (.exc _),h=>exact h
 | some (.ok d),h=>exact fun H1 e=>hp d H1 e (OutS.mono e h)
theorem OutA.bind {o:Option (Rs (List Dv))} {k:List Dv→Option (Rs Dv)} {P:List V→Hp→Prop} (h:Out X H (bnd o k) Q) (hp:∀ ds vs H',Same H H'→Reps X.K H' ds vs→Out X H' (k ds) Q→P vs H'):OutA X H o P:=by
 match o,h with
 | some (.exc _),h=>exact h
 | some (.ok d),h=>exact fun v H1 e r=>hp d v H1 e r (Out.mono e h)
theorem OutA.bindA {o:Option (Rs (List Dv))} {k:List Dv→Option (Rs (List Dv))} {P:List V→Hp→Prop} (h:OutA X H (bnd o k) QA) (hp:∀ ds vs H',Same H H'→Reps X.K H' ds vs→OutA X H' (k ds) QA→P vs H'):OutA X H o P:=by
 match o,h with
 | some (.exc _),h=>exact h
 | some (.ok d),h=>exact fun v H1 e r=>hp d v H1 e r (OutA.mono e h)
end
abbrev FnE:=Ev→Option (Rs Dv)
abbrev FnB:=Ev→Option (Rs Bool)
abbrev FnA:=Ev→Option (Rs (List Dv))
abbrev FnS:=Ev→Option Fl
def tF (X:Cx) (f:FnE):TE:=fun σ H Q=>∃ ρ,Envs X.K H σ ρ∧Out X H (f ρ) Q
def tT (X:Cx) (f:FnB):TT:=fun σ H Q=>∃ ρ,Envs X.K H σ ρ∧OutB X H (f ρ) Q
def tA (X:Cx) (f:FnA):TA:=fun σ H Q=>∃ ρ,Envs X.K H σ ρ∧OutA X H (f ρ) Q
def tS (X:Cx) (f:FnS):TS:=fun D σ H=>∃ ρ,Envs X.K H σ ρ∧OutS X H (f ρ) D
structure FE (X:Cx) (e:H_) (f:FnE):Prop where
 h:PE X e (tF X f)
structure FT (X:Cx) (e:H_) (f:FnB):Prop where
 h:PT X e (tT X f)
structure FW (X:Cx) (e:H_) (f:FnB):Prop where
 h:PW X e (tT X f)
structure FA (X:Cx) (es:List H_) (f:FnA):Prop where
 h:PA X es (tA X f)
structure FS (X:Cx) (st:L3) (f:FnS):Prop where
 h:PS X st (tS X f)
structure FSs (X:Cx) (st:List L3) (f:FnS):Prop where
 h:PSs X st (tS X f)
section
variable {X:Cx} {a b c e:H_} {es:List H_} {fa fb fc:FnE} {pos:Pos}
theorem de {t:TE} {f:FnE} (h:PE X e t) (w:∀ σ H Q ρ,Envs X.K H σ ρ→Out X H (f ρ) Q→t σ H Q):FE X e f :=
 ⟨fun j' s σ H Q I ⟨ρ,E,o⟩=>h j' s σ H Q I (w σ H Q ρ E o)⟩
theorem zd {t:TT} {f:FnB} (h:PT X e t) (w:∀ σ H Q ρ,Envs X.K H σ ρ→OutB X H (f ρ) Q→t σ H Q):FT X e f :=
 ⟨fun j' s σ H Q I ⟨ρ,E,o⟩=>h j' s σ H Q I (w σ H Q ρ E o)⟩
theorem Ce {t:TT} {f:FnB} (h:PW X e t) (w:∀ σ H Q ρ,Envs X.K H σ ρ→OutB X H (f ρ) Q→t σ H Q):FW X e f :=
 ⟨fun wh j' s σ H Q I ⟨ρ,E,o⟩=>h wh j' s σ H Q I (w σ H Q ρ E o)⟩
theorem oN {st:L3} {t:TS} {f:FnS} (h:PS X st t) (w:∀ D σ H ρ,Envs X.K H σ ρ→OutS X H (f ρ) D→t D σ H):FS X st f :=
 ⟨fun j' s σ H D I ⟨ρ,E,o⟩=>h j' s σ H D I (w D σ H ρ E o)⟩
theorem xZ {st:List L3} {t:TS} {f:FnS} (h:PSs X st t) (w:∀ D σ H ρ,Envs X.K H σ ρ→OutS X H (f ρ) D→t D σ H):FSs X st f :=
 ⟨fun j' s σ H D I ⟨ρ,E,o⟩=>h j' s σ H D I (w D σ H ρ E o)⟩
theorem FW.ft {f:FnB} (h:FW X e f):FT X e f:=⟨h.h _⟩
def ae (i:Nat):FnE:=fun ρ=>match ρ[i]? with
 | some (a_ d)=>a_ (.ok d)
 | _=>ck
def fC (d:Dv):FnE:=fun _=>a_ (.ok d)
theorem Cf (i:Nat) (h:PE X e (Bt i)):FE X e (ae i):=de h fun σ H Q ρ E o=>by
 unfold ae at o;split at o
 · rename_i d hd;obtain ⟨v,h1,h2⟩:=E.at' i d hd;exact ⟨v,h1,o v H (.refl H) h2⟩
 · exact o.elim
theorem glb {x:Str} (h:X.env.kindOf x=a_ .globalImplicit):Gl X x:=h
theorem GU (i:Nat) {x:Str} (hN:X.N[i]?=a_ x:=by kernel_rfl) (hv:X.env.scope.names.lookup x=a_ .local:=by kernel_rfl) (hd:(x == ("__debug__":Str))=e_:=by kernel_rfl) (hcd:(x == ("__classdict__":Str))=e_:=by kernel_rfl):FE X (.Name x pos) (ae i):=Cf i (se hN (.inl hv) hd hcd)
theorem GV (i:Nat) {x:Str} (hN:X.N[i]?=a_ x:=by kernel_rfl) (hv:X.env.scope.names.lookup x=a_ .cell:=by kernel_rfl) (hd:(x == ("__debug__":Str))=e_:=by kernel_rfl) (hcd:(x == ("__classdict__":Str))=e_:=by kernel_rfl):FE X (.Name x pos) (ae i):=Cf i (se hN (.inr (.inl hv)) hd hcd)
theorem Bu {d:Dv} {v:V} (h:PE X e (tC v)) (r:∀ K H,Rep K H d v):FE X e (fC d):=de h fun _ H _ _ _ o=>o v H (.refl H) (r X.K H)
theorem Cg {i j}:FE X (.Constant (.int i) j pos) (fC (.int i)):=Bu BL fun _ _=>rfl
theorem GW {b j}:FE X (.Constant (.bool b) j pos) (fC (.bl b)):=Bu Gu fun _ _=>rfl
theorem Ch {j}:FE X (.Constant .none j pos) (fC .non):=Bu BM fun _ _=>rfl
theorem Ci {x j}:FE X (.Constant (.str x) j pos) (fC (.str x)):=Bu BN fun _ _=>rfl
theorem ze {x:Str} {i:Int} {t:Tok} (hg:Gl X x) (hm:X.mg x=a_ (.int i t)) (hd:(x == ("__debug__":Str))=e_:=by kernel_rfl):FE X (.Name x pos) (fC (.int i)):=Bu (sf (v:=.int i) hg hm ⟨t,rfl⟩ hd) fun _ _=>rfl
theorem zf {x:Str} {i:Str} {t:Tok} (hg:Gl X x) (hm:X.mg x=a_ (.str i t)) (hd:(x == ("__debug__":Str))=e_:=by kernel_rfl):FE X (.Name x pos) (fC (.str i)):=Bu (sf (v:=.str i) hg hm ⟨t,rfl⟩ hd) fun _ _=>rfl
def f2 (g:Dv→Dv→Option (Rs Dv)) (fa fb:FnE):FnE:=fun ρ=>bnd (fa ρ) fun x=>bnd (fb ρ) fun y=>g x y
def GOp (X:Cx) (r:R2) (g:Dv→Dv→Option (Rs Dv)):Prop:=∀ dx dy x y H Q,Rep X.K H dx x→Rep X.K H dy y→Out X H (g dx dy) Q→r x y H Q
theorem two {r:R2} {g:Dv→Dv→Option (Rs Dv)} (hg:GOp X r g) {σ:L2.St} {H:Hp} {Q:VK} {ρ:Ev} (E:Envs X.K H σ ρ) (o:Out X H (f2 g fa fb ρ) Q):tOp r (tF X fa) (tF X fb) σ H Q :=
 ⟨ρ,E,Out.bind o fun dx x H1 e1 rx o1=>⟨ρ,E.mono e1,Out.bind o1 fun dy y H2 e2 ry o2=>hg dx dy x y H2 Q (Rep.mono e2 dx x rx) ry o2⟩⟩
theorem oO {op:Operator} {r:R2} {g:Dv→Dv→Option (Rs Dv)} (ho:OpR X (L5 op) r) (hg:GOp X r g) (ha:FE X a fa) (hb:FE X b fb):FE X (.BinOp a op b pos) (f2 g fa fb) :=
 de (GI ho ha.h hb.h) fun _ _ _ _ E o=>two hg E o
theorem iR {op:CmpOp} {r:R2} {g:Dv→Dv→Option (Rs Dv)} (ho:OpR X (K_ op) r) (hg:GOp X r g) (ha:FE X a fa) (hb:FE X b fb) (hm:KT op b=e_):FE X (.Compare a [op] [b] pos) (f2 g fa fb) :=
 de (yZ ho ha.h hb.h hm) fun _ _ _ _ E o=>two hg E o
def toB:Dv→Option (Rs Bool)
 | .bl b=>a_ (.ok b)
 | _=>ck
def fB (f:FnE):FnB:=fun ρ=>bnd (f ρ) toB
theorem pV {H:Hp} {d:Dv} {v:V} {QB:Bool→Hp→Prop} (r:Rep X.K H d v) (o:OutB X H (toB d) QB):∃ k,v=.bl k∧QB k H:=by
 cases d with
 | bl b=>exact ⟨b,r,o H (.refl H)⟩
 | _=>exact o.elim
theorem iS {op:CmpOp} {r:R2} {g:Dv→Dv→Option (Rs Dv)} (ho:OpR X (K_ op) r) (hg:GOp X r g) (ha:FE X a fa) (hb:FE X b fb) (hm:KT op b=e_):FT X (.Compare a [op] [b] pos) (fB (f2 g fa fb)) :=
 zd (y3 ho ha.h hb.h hm) fun σ H Q ρ E o=>by
  show tOp r (tF X fa) (tF X fb) σ H _;refine two hg E ?_;exact Out.bindB o fun d v H' e r o'=>pV r o'
theorem Cj (ha:FE X a fa) (he:∀ whole,isTrue a X.env whole=(do let v ← whole; standAt a.pos; N8 [v] (truthy v)):=by intro _; kernel_rfl):FT X a (fB fa) :=
 zd (BO ha.h he) fun σ H Q ρ E o=>⟨ρ,E,Out.bindB o fun d v H' e r o'=>pV r o'⟩
def cM (f g:FnB):FnB:=fun ρ=>bnd (f ρ) fun k=>if k then g ρ else a_ (.ok e_)
def bOr (f g:FnB):FnB:=fun ρ=>bnd (f ρ) fun k=>if k then a_ (.ok d_) else g ρ
def br (f:FnB):FnB:=fun ρ=>bnd (f ρ) fun k=>a_ (.ok (!k))
variable {ga gb:FnB} {rest:List H_}
theorem zg (ha:FT X a ga):FW X (.BoolOp .And [a] pos) ga:=⟨yW ha.h⟩
theorem Ck (ha:FT X a ga):FW X (.BoolOp .Or [a] pos) ga:=⟨BP ha.h⟩
theorem ya (ha:FT X a ga) (hb:FW X (.BoolOp .And (b :: rest) pos) gb):FW X (.BoolOp .And (a :: b :: rest) pos) (cM ga gb) :=
 Ce (BQ ha.h hb.h) fun σ H Q ρ E o=>⟨ρ,E,OutB.bindB o fun k H1 e o'=>by
  cases k with
  | true=>exact xY ⟨ρ,E.mono e,o'⟩
  | false=>exact xX (o' H1 (.refl H1))⟩
theorem Co (ha:FT X a ga) (hb:FW X (.BoolOp .Or (b :: rest) pos) gb):FW X (.BoolOp .Or (a :: b :: rest) pos) (bOr ga gb) :=
 Ce (Gx ha.h hb.h) fun σ H Q ρ E o=>⟨ρ,E,OutB.bindB o fun k H1 e o'=>by
  cases k with
  | true=>exact xY (o' H1 (.refl H1))
  | false=>exact xX ⟨ρ,E.mono e,o'⟩⟩
theorem Cp (ha:FT X a ga):FT X (.UnaryOp .Not a pos) (br ga) :=
 zd (BR ha.h) fun σ H Q ρ E o=>⟨ρ,E,OutB.bindB o fun k H1 e o'=>o' H1 (.refl H1)⟩
def c0 (f g:FnE):FnE:=fun ρ=>bnd (f ρ) fun x=>bnd (toB x) fun k=>if k then g ρ else a_ (.ok (.bl e_))
def vOr (f g:FnE):FnE:=fun ρ=>bnd (f ρ) fun x=>bnd (toB x) fun k=>if k then a_ (.ok (.bl d_)) else g ρ
def fw (f:FnE):FnE:=fun ρ=>bnd (f ρ) fun x=>bnd (toB x) fun k=>a_ (.ok (.bl (!k)))
theorem oP {H:Hp} {d:Dv} {v:V} {k:Bool→Option (Rs Dv)} {Q:VK} (r:Rep X.K H d v) (o:Out X H (bnd (toB d) k) Q):∃ b,v=.bl b∧Out X H (k b) Q:=by
 cases d with
 | bl b=>exact ⟨b,r,o⟩
 | _=>exact o.elim
theorem Cq {op} (ha:FE X a fa):FE X (.BoolOp op [a] pos) fa:=⟨BS ha.h⟩
theorem Cr (ha:FE X a fa) (hb:FE X (.BoolOp .And (b :: rest) pos) fb):FE X (.BoolOp .And (a :: b :: rest) pos) (c0 fa fb) :=
 de (BU ha.h hb.h) fun σ H Q ρ E o=>⟨ρ,E,Out.bind o fun d v H1 e r o'=>by
  obtain ⟨k,rfl,o2⟩:=oP r o';refine ⟨k,rfl,?_⟩;cases k with
  | true=>exact xY ⟨ρ,E.mono e,o2⟩
  | false=>exact xX (o2 (.bl e_) H1 (.refl H1) rfl)⟩
theorem GX (ha:FE X a fa) (hb:FE X (.BoolOp .Or (b :: rest) pos) fb):FE X (.BoolOp .Or (a :: b :: rest) pos) (vOr fa fb) :=
 de (GA ha.h hb.h) fun σ H Q ρ E o=>⟨ρ,E,Out.bind o fun d v H1 e r o'=>by
  obtain ⟨k,rfl,o2⟩:=oP r o';refine ⟨k,rfl,?_⟩;cases k with
  | true=>exact xY (o2 (.bl d_) H1 (.refl H1) rfl)
  | false=>exact xX ⟨ρ,E.mono e,o2⟩⟩
theorem Ct (ha:FE X a fa):FE X (.UnaryOp .Not a pos) (fw fa) :=
 de (BV ha.h) fun σ H Q ρ E o=>⟨ρ,E,Out.bind o fun d v H1 e r o'=>by
  obtain ⟨k,rfl,o2⟩:=oP r o';exact ⟨k,rfl,o2 (.bl (!k)) H1 (.refl H1) rfl⟩⟩
def fIf (c:FnB) (f g:FnE):FnE:=fun ρ=>bnd (c ρ) fun k=>if k then f ρ else g ρ
theorem GY (hc:FT X c ga) (ha:FE X a fa) (hb:FE X b fb):FE X (.IfExp c a b pos) (fIf ga fa fb) :=
 de (vV hc.h ha.h hb.h) fun σ H Q ρ E o=>⟨ρ,E,OutB.bind o fun k H1 e o'=>by
  cases k with
  | true=>exact xY ⟨ρ,E.mono e,o'⟩
  | false=>exact xX ⟨ρ,E.mono e,o'⟩⟩
def ah:FnA:=fun _=>a_ (.ok [])
def ac (f:FnE) (g:FnA):FnA:=fun ρ=>bnd (f ρ) fun x=>bnd (g ρ) fun xs=>a_ (.ok (x :: xs))
theorem Cu {t:TA} {f:FnA} (h:PA X es t) (w:∀ σ H Q ρ,Envs X.K H σ ρ→OutA X H (f ρ) Q→t σ H Q):FA X es f :=
 ⟨fun pos j' s σ H Q I ⟨ρ,E,o⟩=>h pos j' s σ H Q I (w σ H Q ρ E o)⟩
theorem tq:FA X [] ah:=Cu xV fun _ H _ _ _ o=>o [] H (.refl H) rfl
theorem oQ {g:FnA} (ha:FE X e fa) (hr:FA X es g) (hs:k_ (e :: es) X.env=(e_,eval e X.env) :: k_ es X.env:=by kernel_rfl):FA X (e :: es) (ac fa g) :=
 Cu (oK ha.h hr.h hs) fun σ H Q ρ E o=>⟨ρ,E,Out.bindA o fun d v H1 e r o1=>⟨ρ,E.mono e,OutA.bindA o1 fun ds vs H2 e2 rs o2=>o2 (v :: vs) H2 (.refl H2) ⟨v,vs,rfl,Rep.mono e2 d v r,rs⟩⟩⟩
def bJ (g:FnA):FnE:=fun ρ=>bnd (g ρ) fun ds=>if ds.length≤100000 then a_ (.ok (.lst ds)) else ck
def cx (g:FnA):FnE:=fun ρ=>bnd (g ρ) fun ds=>if ds.length≤100000 then a_ (.ok (.tup ds)) else ck
theorem cA {n:Nat} (h:n≤100000):n≤sizeLine:=K5 h (by rw [Nt]; decide)
theorem Cv {g:FnA} (h:FA X es g):FE X (.List es pos) (bJ g) :=
 de (xW h.h) fun σ H Q ρ E o=>⟨ρ,E,OutA.bind o fun ds vs H1 e rs o1=>by
  split at o1
  · rename_i hl;refine ⟨by rw [rs.length]; exact cA hl,fun p hp=>o1 (.ref p) _ (aE hp _) ⟨p,vs,rfl,ax,Reps.mono (aE hp _) _ _ rs⟩⟩
  · exact o1.elim⟩
theorem Cw {g:FnA} {k} (h:FA X es g):FE X (.Tuple es k pos) (cx g) :=
 de (B4 h.h) fun σ H Q ρ E o=>⟨ρ,E,OutA.bind o fun ds vs H1 e rs o1=>by
  split at o1
  · rename_i hl;refine ⟨by rw [rs.length]; exact cA hl,fun p hp=>o1 (.ref p) _ (aE hp _) ⟨p,vs,rfl,ax,Reps.mono (aE hp _) _ _ rs⟩⟩
  · exact o1.elim⟩
variable {st:L3} {sts:List L3} {f g:FnS}
theorem zh:FSs X [] (fun ρ=>a_ (.nx ρ)):=xZ sg fun D σ H ρ E o=>o σ H (.refl H) E
def av (f g:FnS):FnS:=fun ρ=>sq (f ρ) g
theorem we (h1:FS X st f) (h2:FSs X sts g):FSs X (st :: sts) (av f g) :=
 xZ (lH h1.h h2.h) fun D σ H ρ E o=>⟨ρ,E,by
  unfold av at o
  match hf:f ρ with
  | none=>rw [hf] at o; exact o.elim
  | some (.exc c)=>rw [hf] at o; exact o
  | some (.rt d)=>rw [hf] at o; exact o
  | some (.nx ρ')=>rw [hf] at o; exact fun σ' H' e E'=>⟨ρ',E',OutS.mono e o⟩⟩
theorem zi (h1:FS X st f):FSs X [st] f:=⟨si h1.h⟩
def aA (f:FnE):FnS:=fun ρ=>bV (f ρ) fun d=>a_ (.rt d)
theorem Cy (he:FE X e fa):FS X (.Return (a_ e) pos) (aA fa) :=
 oN (xQ he.h) fun D σ H ρ E o=>⟨ρ,E,Out.bindS o fun d v H1 e r o1=>o1 v H1 (.refl H1) r⟩
def bh:FnS:=fun _=>a_ (.rt .non)
def aS (f:FnE):FnS:=fun ρ=>bV (f ρ) fun _=>a_ (.nx ρ)
theorem zj (he:FE X e fa) (hs:Mk e ck pos.line X.env=pure e_:=by kernel_rfl):FS X (.Expr e pos) (aS fa) :=
 oN (sj he.h hs) fun D σ H ρ E o=>⟨ρ,E,Out.bindS o fun d v H1 e r o1=>o1 σ H1 (.refl H1) (E.mono e)⟩
def bc (i:Nat) (f:FnE):FnS:=fun ρ=>bV (f ρ) fun d=>a_ (.nx (ρ.set i (a_ d)))
theorem Cz (i:Nat) {x:Str} {pos':Pos} (hN:X.N.Nodup) (hi:X.N[i]?=a_ x) (hx:Loc X.env.scope x) (he:FE X e fa) (hs:Mk e (a_ (.Name x pos')) pos.line X.env=pure e_:=by kernel_rfl) (hf:X.fn x=d_∨X.env.scope.names.lookup x=a_ .local:=by first | exact .inl rfl | exact .inr rfl | assumption) :
 FS X (.Assign [.Name x pos'] e pos) (bc i fa) :=
 oN (sr hN hi hx he.h hs hf) fun D σ H ρ E o=>⟨ρ,E,Out.bindS o fun d v H1 e r o1=>o1 _ H1 (.refl H1) ((E.mono e).set r)⟩
def aR (c:FnB) (f g:FnS):FnS:=fun ρ=>bV (c ρ) fun k=>if k then f ρ else g ρ
theorem GZ {as bs:List L3} (hc:FT X c ga) (ha:FSs X as f) (hb:FSs X bs g):FS X (.If c as bs pos) (aR ga f g) :=
 oN (yX hc.h ha.h hb.h) fun D σ H ρ E o=>⟨ρ,E,OutB.bindS o fun k H1 e o1=>by
  cases k with
  | true=>exact xY ⟨ρ,E.mono e,o1⟩
  | false=>exact xX ⟨ρ,E.mono e,o1⟩⟩
def aY:FnS:=fun _=>ck
end
def Its (z:Str):It:=⟨fun i _=>i < z.cps.size,fun i H x H'=>H'=H∧∃ c,z.cps[i]?=a_ c∧x=.str ⟨#[c]⟩,fun i _=>i=z.cps.size⟩
theorem mR {prog:rl} {w:C_} {A:E_} (hh:A.handled=ck) (I:l_) (x:Str) (t:Tok) {ty:String} (hty:ty="str_ascii_iterator"∨ty="str_iterator") :
 Walks prog w A I [I] [I] x.cps.size (SignAt x) (fun i h=>h.IsStrIter I ty x t i):=by
 rcases hty with rfl | rfl
 · exact Walks.strAscii hh I x t
 · exact Walks.strWide hh I x t
theorem wf {P:rl} {w:C_} {K:f_} {tg:H_} (z:Str) (t:Tok) (it:l_) {ty:String} (hty:ty="str_ascii_iterator"∨ty="str_iterator"):vX P w K tg (Its z) [it] it (fun i h=>h.IsStrIter it ty z t i) where
 mem:=by simp
 obj:=fun i h st b hb=>by
  have e:b=it:=by simpa using hb
  subst e;obtain ⟨o,e,c,d⟩:=st;exact ⟨o,e,fun v z=>by rw [d] at z; cases z⟩
 keep:=fun i h h' st k=>let ⟨o,ho,r⟩:=st; ⟨o,k it (by simp) o ho,r⟩
 item:=by
  intro X hP hw hK hc i j' s σ H E I hf st hg;subst hP hw hK;obtain ⟨f0,f1,f2,f3,f4,f5⟩:=hf it (by simp);have W:=mR (prog:=X.prog) (w:=X.w) (I.ok.hd hc) it z t hty;refine W.item i s _ _ hg st fun v h' tk hv st' kk=>?_;obtain ⟨c,u,hc',rfl⟩:=hv;have I1:Inv X j' σ H { s with heap:=h',toks:=tk }:=I.turned (fun b o hb e=>kk b o (by simpa using hb) e) f0 f1 f3 f4 f5;obtain ⟨o,e,c',d⟩:=id st';refine ⟨_,rfl,vY (s:={ s with heap:=h',toks:=tk }) e c' d (by rcases hty with rfl | rfl <;> decide) ⟨.str ⟨#[c]⟩,H,I1,⟨u,rfl⟩,⟨rfl,c,hc',rfl⟩,st',fun b hb=>(hf b hb).1⟩⟩
 done:=by
  intro X hP hw hK hc i j' s σ H E I hf st hg;subst hP hw hK;obtain ⟨f0,f1,f2,f3,f4,f5⟩:=hf it (by simp);have W:=mR (prog:=X.prog) (w:=X.w) (I.ok.hd hc) it z t hty;have hg':i=z.cps.size:=hg;subst hg';exact W.done s _ _ st fun h' tk kk=>⟨rfl,I.turned (fun b o hb e=>kk b o (by simpa using hb) e) f0 f1 f3 f4 f5⟩
 self:=fun A i s Q E st h=>by
  rcases hty with rfl | rfl
  · exact wpAny_pyIter_striter_ascii st h
  · exact wpAny_pyIter_striter_wide st h
structure Wk (K:f_) (J:It) (ds:List Dv) (H0:Hp):Prop where
 go:∀ i H,Same H0 H→i < ds.length→J.go i H
 stop:∀ H,Same H0 H→J.stop ds.length H
 yld:∀ i H x H',Same H0 H→i < ds.length→J.yld i H x H'→H'=H∧∃ d,ds[i]?=a_ d∧Rep K H d x
def OutI (X:Cx) (H:Hp) (o:Option (Rs (List Dv))) (R:It→Hp→Prop):Prop:=match o with
 | none=>False
 | some (.exc c)=>XW X c H
 | some (.ok ds)=>∀ J H',Same H H'→Wk X.K J ds H'→R J H'
structure FI (X:Cx) (tg iter:H_) (f:FnA):Prop where
 h:PI X tg iter fun σ H R=>∃ ρ,Envs X.K H σ ρ∧OutI X H (f ρ) R
theorem OutI.mono {X:Cx} {H H':Hp} {R:It→Hp→Prop} (e:Same H H'):∀ {o:Option (Rs (List Dv))},OutI X H o R→OutI X H' o R
 | none,h=>h
 | some (.exc _),h=>XW.mono h e
 | some (.ok _),h=>fun v H1 e1 r=>h v H1 (e.trans e1) r
def signs (z:Str):List Dv:=z.cps.toList.map fun c=>.str ⟨#[c]⟩
def items:Dv→Option (Rs (List Dv))
 | .lst ds=>a_ (.ok ds)
 | .tup ds=>a_ (.ok ds)
 | .str z=>a_ (.ok (signs z))
 | _=>ck
def dR (f:FnE):FnA:=fun ρ=>bnd (f ρ) items
theorem zk {K:f_} {H:Hp} {a:l_} {xs:List V} {ds:List Dv} (h:H a=a_ (.lst xs)) (r:Reps K H ds xs):Wk K (Itl K a) ds H where
 go:=fun i H' e hi=>by
  have hx:i < xs.length:=by rw [r.length]; exact hi
  exact ⟨xs,xs[i],SqL.of (e _ _ h),by simp [hx]⟩
 stop:=fun H' e=>⟨xs,SqL.of (e _ _ h),by rw [r.length]; exact r_ _⟩
 yld:=fun i H' x H2 e hi y=>by
  obtain ⟨e2,y⟩:=y;obtain ⟨d,h1,h2⟩:=Reps.get (Reps.mono e _ _ r) (y xs (SqL.of (e _ _ h)));exact ⟨e2,d,h1,h2⟩
theorem CB {K:f_} {H:Hp} {a:l_} {xs:List V} {ds:List Dv} (h:H a=a_ (.tup xs)) (r:Reps K H ds xs):Wk K (Itt K a) ds H where
 go:=fun i H' e hi=>by
  have hx:i < xs.length:=by rw [r.length]; exact hi
  exact ⟨xs,xs[i],SqT.of (e _ _ h),by simp [hx]⟩
 stop:=fun H' e=>⟨xs,SqT.of (e _ _ h),by rw [r.length]; exact r_ _⟩
 yld:=fun i H' x H2 e hi y=>by
  obtain ⟨e2,y⟩:=y;obtain ⟨d,h1,h2⟩:=Reps.get (Reps.mono e _ _ r) (y xs (SqT.of (e _ _ h)));exact ⟨e2,d,h1,h2⟩
theorem CF {K:f_} {H:Hp} {z:Str}:Wk K (Its z) (signs z) H where
 go:=fun i H' e hi=>by show i < z.cps.size; simpa [signs] using hi
 stop:=fun H' e=>by show (signs z).length=z.cps.size; simp [signs]
 yld:=fun i H' x H2 e hi y=>by
  obtain ⟨e2,c,hc,rfl⟩:=y;refine ⟨e2,.str ⟨#[c]⟩,?_,rfl⟩;have hc':z.cps.toList[i]?=a_ c:=by simpa using hc
  rw [signs,La,hc'] <;> rfl
def rng (lo:Int):Nat→List Dv
 | 0=>[]
 | n + 1=>.int lo :: rng (lo + 1) n
theorem iq:∀ (n:Nat) (lo:Int),(rng lo n).length=n
 | 0,_=>rfl
 | n + 1,lo=>by show (rng (lo + 1) n).length + 1=n + 1; rw [iq]
theorem tw:∀ (n:Nat) (lo:Int) (i:Nat),i < n→(rng lo n)[i]?=a_ (.int (lo + i))
 | 0,_,_,h=>by omega
 | n + 1,lo,0,_=>by simp [rng]
 | n + 1,lo,i + 1,h=>by
  have q:=tw n (lo + 1) i (by omega);show (Dv.int lo :: rng (lo + 1) n)[i + 1]?=_;rw [N1,q];congr 2;omega
theorem pW {K:f_} {H:Hp} {lo:Int} {n:Nat}:Wk K (Itr lo n) (rng lo n) H where
 go:=fun i H' e hi=>by rw [iq] at hi; exact hi
 stop:=fun H' e=>by show n≤(rng lo n).length; rw [iq]; exact r_ _
 yld:=fun i H' x H2 e hi y=>by
  obtain ⟨e2,rfl⟩:=y;rw [iq] at hi;exact ⟨e2,_,tw n lo i hi,rfl⟩
section
variable {X:Cx} {tg l a b:H_} {fl:FnE} {pos p:Pos}
theorem CG (hl:FE X l fl):FI X tg l (dR fl):=by
 constructor;intro j' s σ H R I h;obtain ⟨ρ,E,o⟩:=h;have key:Out X H (fl ρ) fun x H1=>∃ d,Rep X.K H1 d x∧OutI X H1 (items d) R:=by
  unfold dR at o
  match hf:fl ρ,o with
  | some (.exc c),o=>exact o
  | some (.ok d),o=>exact fun v H1 e r=>⟨d,r,OutI.mono e o⟩
  | none,o=>exact o
 refine thn (hl.h j' s σ H _ I ⟨ρ,E,key⟩) fun v s1 ⟨x,H1,I1,r1,d,rd,q⟩=>?_;have fin:∀ (o:Obj) (tn:Nat→KO→Prop) (J:It) (ds:List Dv),vX X.prog X.w X.K tg J [s1.heap.objs.size] s1.heap.objs.size tn→tn 0 (s1.heap.push o)→Wk X.K J ds H1→(∀ J H',Same H1 H'→Wk X.K J ds H'→R J H') →
  PIE X j' σ tg R (.ref s1.heap.objs.size) { s1 with heap:=s1.heap.push o }:=fun o tn J ds T t0 w q=>by
  refine ⟨s1.heap.objs.size,[s1.heap.objs.size],tn,J,H1,rfl,I1.kept (t':=s1.toks) fun b o e=>i_ _ e,T,t0,fun b hb=>?_,q J H1 (.refl H1) w⟩;have e:b=s1.heap.objs.size:=by simpa using hb
  subst e;exact I1.fpOk (r_ _) (I1.hok.fresh (r_ _))
 cases d with
 | lst ds =>
  obtain ⟨a,xs,rfl,h1,h2⟩:=rd.lstE;cases r1;obtain ⟨its,rv,p,hz⟩:=I1.list (SqL.of h1);exact Nn p.isList (fin _ _ (Itl X.K a) ds (su a _) ⟨_,t_ _ rfl,rfl,rfl⟩ (zk h1 h2) q)
 | tup ds =>
  obtain ⟨a,xs,rfl,h1,h2⟩:=rd.tupE;cases r1;obtain ⟨its,rv,p,hz⟩:=I1.tuple (SqT.of h1);exact O5 (show s1.heap.IsTuple a its.toArray from p) (fin _ _ (Itt X.K a) ds (qQ a _) ⟨_,t_ _ rfl,rfl,rfl⟩ (CB h1 h2) q)
 | str z =>
  cases (show x=.str z from rd);obtain ⟨t,rfl⟩:=r1;have hty:Sn z="str_ascii_iterator"∨Sn z="str_iterator":=by
   unfold Sn;split
   · exact .inl rfl
   · exact .inr rfl
  exact wpAny_pyIter_strU (fin _ _ (Its z) (signs z) (wf z t _ hty) ⟨_,t_ _ rfl,rfl,rfl⟩ CF q)
 | _=>exact q.elim
def qV:List Dv→Option (Rs (List Dv))
 | [.int j]=>if -(2 ^ 62)≤j∧j < 2 ^ 62 then a_ (.ok (rng 0 j.toNat)) else ck
 | _=>ck
def vK:List Dv→Option (Rs (List Dv))
 | [.int i,.int j]=>if -(2 ^ 62)≤i∧i < 2 ^ 62∧-(2 ^ 62)≤j∧j < 2 ^ 62 then a_ (.ok (rng i (j - i).toNat)) else ck
 | _=>ck
theorem lf {H:Hp} {R:It→Hp→Prop} {o:Option (Rs (List Dv))} {k:List Dv→Option (Rs (List Dv))} {P:List V→Hp→Prop} (h:OutI X H (bnd o k) R) (hp:∀ ds vs H',Same H H'→Reps X.K H' ds vs→OutI X H' (k ds) R→P vs H'):OutA X H o P:=by
 match o,h with
 | some (.exc _),h=>exact h
 | some (.ok d),h=>exact fun v H1 e r=>hp d v H1 e r (OutI.mono e h)
theorem tx {ga:FnA} (hg:Gl X "range") (hm:X.mg "range"=ck) (ha:FA X [a] ga) (hs:k_ [a] X.env=[(e_,eval a X.env)]:=by kernel_rfl):FI X tg (.Call (.Name "range" p) [a] [] pos) (fun ρ=>bnd (ga ρ) qV):=by
 constructor;intro j' s σ H R I h;obtain ⟨ρ,E,o⟩:=h;refine sx hg hm ha.h hs j' s σ H R I ⟨ρ,E,lf o fun ds vs H' e rs o1=>?_⟩;unfold qV at o1;split at o1
 · rename_i j;split at o1
   · rename_i hj;obtain ⟨v,us,rfl,r,t⟩:∃ v us,vs=v :: us∧Rep X.K H' (.int j) v∧Reps X.K H' [] us:=rs;cases (show us=[] from t);cases (show v=.int j from r);exact ⟨j,rfl,hj.1,hj.2,o1 _ H' (.refl H') pW⟩
   · exact o1.elim
 · exact o1.elim
theorem tz {ga:FnA} (hg:Gl X "range") (hm:X.mg "range"=ck) (ha:FA X [a,b] ga) (hs:k_ [a,b] X.env=[(e_,eval a X.env),(e_,eval b X.env)]:=by kernel_rfl) (hs2:k_ [b] X.env=[(e_,eval b X.env)]:=by kernel_rfl) :
 FI X tg (.Call (.Name "range" p) [a,b] [] pos) (fun ρ=>bnd (ga ρ) vK):=by
 constructor;intro j' s σ H R I h;obtain ⟨ρ,E,o⟩:=h;refine sy hg hm ha.h hs hs2 j' s σ H R I ⟨ρ,E,lf o fun ds vs H' e rs o1=>?_⟩;unfold vK at o1;split at o1
 · rename_i i j;split at o1
   · rename_i hj;obtain ⟨v,us,rfl,r,t⟩:∃ v us,vs=v :: us∧Rep X.K H' (.int i) v∧Reps X.K H' [.int j] us:=rs;obtain ⟨v2,us2,rfl,r2,t2⟩:∃ v us',us=v :: us'∧Rep X.K H' (.int j) v∧Reps X.K H' [] us':=t;cases (show us2=[] from t2);cases (show v=.int i from r);cases (show v2=.int j from r2);exact ⟨i,j,rfl,hj,o1 _ H' (.refl H') pW⟩
   · exact o1.elim
 · exact o1.elim
end
def qW (i:Nat) (js:List Nat) (body:FnS):List Dv→Ev→Option Fl
 | [],ρ=>a_ (.nx (fgt js ρ))
 | d :: ds,ρ=>match body ((fgt js ρ).set i (a_ d)) with
  | some (.nx ρ')=>qW i js body ds ρ'
  | o=>o
def CH (i:Nat) (js:List Nat) (src:FnA) (body:FnS):FnS:=fun ρ=>bV (src ρ) fun ds=>qW i js body ds ρ
theorem iT {α:Type} {ds:List α} {i:Nat} {d:α} (h:ds[i]?=a_ d):ds.drop i=d :: ds.drop (i + 1):=by
 obtain ⟨hi,e⟩:=KQ.mp h;rw [List.drop_eq_getElem_cons hi,e]
theorem CI {X:Cx} {tg iter:H_} {body:List L3} {pos:Pos} {src:FnA} {fb:FnS} (i:Nat) (js:List Nat) (hp:O3 (F_ X.prog X.w) X.A X.env X.xe) (hc:X.calm=d_) (hi:FI X tg iter src) (hg:PG X tg (vW i)) (hb:FSs X body fb)
 (hs:∀ x,K9 iter X.env x=pure x:=by intro _; kernel_rfl):FS X (.For tg iter body [] pos) (CH i js src fb):=by
 refine oN (sE hp hc hi.h hg hb.h hs) fun D σ H ρ E o=>⟨ρ,E,?_⟩;unfold CH at o
 match hf:src ρ,o with
 | none,o=>exact o
 | some (.exc c),o=>exact o
 | some (.ok ds),o =>
  intro J H1 e1 wk;have o1:OutS X H1 (qW i js fb ds ρ) D:=OutS.mono e1 o;refine ⟨fun n m σ' H'=>m=ds.length - n∧n≤ds.length∧Same H1 H'∧∃ ρ',Envs X.K H' σ' ρ'∧OutS X H' (qW i js fb (ds.drop n) ρ') D,⟨ds.length,by simp,K3 _,.refl H1,ρ,E.mono e1,by simpa using o1⟩,?_⟩;rintro n m σ' H' ⟨rfl,hn,e2,ρ',E',o'⟩;by_cases hlt:n < ds.length
  · refine .inr ⟨wk.go n H' e2 hlt,fun σ2 H2=>Same H1 H2∧∃ ρ2,Envs X.K H2 σ2 ρ2∧OutS X H2 (qW i js fb (ds.drop (n + 1)) ρ2) D,fun σ2 H2 ⟨e3,ρ2,E2,o2⟩=>⟨ds.length - (n + 1),by omega,rfl,hlt,e3,ρ2,E2,o2⟩,fun x H2 y=>?_⟩;obtain ⟨rfl,d,hd,rd⟩:=wk.yld n H' x H2 e2 hlt y;rw [iT hd] at o';show tS X fb _ _ _;refine ⟨(fgt js ρ').set i (a_ d),(Envs.fgt js E').set rd,?_⟩;unfold qW at o'
    match hb':fb ((fgt js ρ').set i (a_ d)) with
    | none=>rw [hb'] at o'; exact o'
    | some (.exc c)=>rw [hb'] at o'; exact o'
    | some (.rt r)=>rw [hb'] at o'; exact o'
    | some (.nx ρ2)=>rw [hb'] at o'; exact fun σ2 H3 e3 E3=>⟨e2.trans e3,ρ2,E3,OutS.mono e3 o'⟩
  · have hn':n=ds.length:=by omega
    subst hn';rw [OB] at o';exact .inl ⟨wk.stop H' e2,o' σ' H' (.refl H') (Envs.fgt js E')⟩
def spF (K:f_) (F:List Dv→Option (Rs Dv)) (n:Nat):Sp:=fun vs H Q _=>∃ ds,Reps K H ds vs∧ds.length=n∧match F ds with
 | some (.ok d)=>∀ v H',Same H H'→Rep K H' d v→Q v H'
 | _=>False
def ag (F:List Dv→Option (Rs Dv)) (n:Nat) (g:FnA):FnE:=fun ρ=>bnd (g ρ) fun ds=>if ds.length=n then (match F ds with | some (.ok d)=>a_ (.ok d) | _=>ck) else ck
section
variable {X:Cx} {k n:Nat} {f:l_} {fd:Lv} {ps:List Str} {x:Str} {p pos:Pos} {e:H_} {es:List H_} {F:List Dv→Option (Rs Dv)} {g:FnA}
theorem zl (G:FnOk X.prog X.w X.K X.mg X.base CX0 k f fd ps (spF X.K F n)) (hr:Room k X.A) (hg:Gl X x) (hm:X.mg x=a_ (.ref f)) (hk:LK X.K (.ref f)=d_) (hb:Binds X.K fd ps [])
 (ha:FA X (e :: es) g) (hdb:(x == ("__debug__":Str))=e_:=by kernel_rfl) (he:k_ (e :: es) X.env=(e_,eval e X.env) :: k_ es X.env:=by kernel_rfl) (hpl:(Lc pos (k_ es X.env)).any (·.1)=e_:=by kernel_rfl) :
 FE X (.Call (.Name x p) (e :: es) [] pos) (ag F n g) :=
 de (lJ G hr hg hm hk hb .nil GS ha.h hdb he hpl) fun σ H Q ρ E o=>⟨ρ,E,OutA.bind o fun ds vs H' e rs o1=>by
  show spF X.K F n (vs ++ []) H' Q E0;rw [LD];split at o1
  · rename_i hl;refine ⟨ds,rs,hl,?_⟩
    match hF:F ds with
    | some (.ok d)=>rw [hF] at o1; exact o1
    | some (.exc c)=>rw [hF] at o1; exact o1
    | none=>rw [hF] at o1; exact o1
  · exact o1.elim⟩
def Has (P:rl) (w:C_) (K:f_) (mg:Str→Option g_) (base:KO) (x:Str) (k:Nat) (ps:List Str) (F:List Dv→Option (Rs Dv)):Prop :=
 ∃ f fd,FnOk P w K mg base CX0 k f fd ps (spF K F ps.length)∧mg x=a_ (.ref f)∧LK K (.ref f)=d_∧Binds K fd ps []
theorem wg {k':Nat} (k:Nat) (ps:List Str) (F:List Dv→Option (Rs Dv)) (h:Has X.prog X.w X.K X.mg X.base x k ps F) (hr:Room k' X.A) (hk:k≤k') (hg:Gl X x) (ha:FA X (e :: es) g) (hn:n=ps.length:=by kernel_rfl) (hdb:(x == ("__debug__":Str))=e_:=by kernel_rfl)
 (he:k_ (e :: es) X.env=(e_,eval e X.env) :: k_ es X.env:=by kernel_rfl) (hpl:(Lc pos (k_ es X.env)).any (·.1)=e_:=by kernel_rfl) :
 FE X (.Call (.Name x p) (e :: es) [] pos) (ag F n g):=by
 subst hn;obtain ⟨f,fd,G,hm,hkp,hb⟩:=h;exact zl (G.mono hk) hr hg hm hkp hb ha hdb he hpl
def bu (m:Nat) (fb:FnS):List Dv→Option (Rs Dv):=fun ds=>match fb (ds.map a_ ++ y_ (m - ds.length) ck) with
 | some (.nx _)=>a_ (.ok .non)
 | some (.rt d)=>a_ (.ok d)
 | _=>ck
theorem fP {K:f_} {H:Hp} {N:List Str} {ds:List Dv} {vs:List V} (r:Reps K H ds vs):Envs K H (L2.start N vs) (ds.map a_ ++ y_ (N.length - ds.length) ck):=by
 have hl:=r.length;refine ⟨by unfold L2.start; rw [KS,KS,KR,KR,Nk,Nk,hl],fun i d h=>?_⟩;by_cases hi:i < ds.length
 · rw [L4 (by simpa using hi),La] at h;cases hd:ds[i]? with
   | none=>rw [hd] at h; cases h
   | some d' =>
    rw [hd] at h;have h':a_ (a_ d')=a_ (a_ d):=h;injection h' with h';injection h' with h';subst h';obtain ⟨v,h1,h2⟩:=r.get' hd;refine ⟨v,?_,h2⟩;unfold L2.start;rw [L4 (by rw [KR,hl]; exact hi),La,h1] <;> rfl
 · rw [LZ (by simpa using hi),N0] at h;split at h <;> cases h
theorem G2 {P:rl} {w:C_} {K:f_} {mg:Str→Option g_} {base:KO} {qual:Str} {st:L3} {N:List Str} {fb:FnS} (Fn:Fun K x qual st f fd) (S:eU N ps (aI st))
 (hb:∀ (cdv:g_) (A:E_) (outer:List Env) (s:h_) (H:Hp) (E:XK),Room k (A.deeper (M8 qual (aI st) s.heap.objs.size f cdv))→FSs (lK CX0 P w K mg base N qual (aI st) f cdv A outer s H E).nox (dc st) fb) :
 FnOk P w K mg base CX0 (k + 1) f fd ps (spF K (bu N.length fb) ps.length):=by
 refine Fn.ok S (fun vs H Q E h=>?_) (fun cdv A outer s H vs Q E hr h=>?_)
 · obtain ⟨ds,r,hl,_⟩:=h;rw [r.length,hl]
 · obtain ⟨ds,r,hl,q⟩:=h;refine ⟨_,(hb cdv A outer s H E hr).h,ds.map a_ ++ y_ (N.length - ds.length) ck,fP r,?_⟩;unfold bu at q
   match hf:fb (ds.map a_ ++ y_ (N.length - ds.length) ck) with
   | none=>rw [hf] at q; exact q.elim
   | some (.exc c)=>rw [hf] at q; exact q.elim
   | some (.rt d)=>rw [hf] at q; exact fun v H' e r'=>q v H' e r'
   | some (.nx ρ)=>rw [hf] at q; exact fun σ' H' e _=>q .non H' e rfl
end
theorem CK {k:Nat} {f:l_} {fd:Lv} {x:Str} {P:rl} {w:C_} {K:f_} {mg:Str→Option g_} {base:KO} {qual:Str} {st:L3} {F:List Dv→Option (Rs Dv)} {n:Nat} (N ps:List Str) (fb:FnS) (hF:F=bu N.length fb) (hn:n=ps.length)
 (Fn:Fun K x qual st f fd) (S:eU N ps (aI st))
 (hb:∀ (cdv:g_) (A:E_) (outer:List Env) (s:h_) (H:Hp) (E:XK),Room k (A.deeper (M8 qual (aI st) s.heap.objs.size f cdv))→FSs (lK CX0 P w K mg base N qual (aI st) f cdv A outer s H E).nox (dc st) fb) :
 FnOk P w K mg base CX0 (k + 1) f fd ps (spF K F n):=by
 subst hF hn;exact G2 Fn S hb
def j7 (names:List (Str×MU)) (env:Env) (acc:List (Str×l_)):List (Str×l_):=match names with
 | []=>acc
 | (n,k) :: r=>j7 r env (if k == .free then (n,(env.cells.lookup n).getD 0) :: acc else acc)
theorem lg {env:Env} {n:Str} {c:l_}:∀ (names:List (Str×MU)) (acc:List (Str×l_)),(j7 names env acc).lookup n=a_ c→acc.lookup n=a_ c∨((n,LW)∈names∧c=(env.cells.lookup n).getD 0)
 | [],acc,h=>.inl h
 | (m,k) :: r,acc,h=>by
  rcases lg r _ h with q | ⟨q1,q2⟩
  · by_cases hk:k=.free
    · subst hk;simp only [beq_self_eq_true,if_true] at q;rw [Li] at q;cases hm:n == m with
      | true =>
       rw [hm] at q;have e:n=m:=by simpa using hm
       subst e;exact .inr ⟨on,(KZ q).symm⟩
      | false=>rw [hm] at q; exact .inl q
    · have hb:(k == LW)=e_:=by simpa using hk
      rw [hb] at q;exact .inl (by simpa using q)
  · exact .inr ⟨n_ _ q1,q2⟩
theorem mS {env:Env} {n:Str}:∀ (names:List (Str×MU)) (acc:List (Str×l_)),(acc.lookup n).isSome=d_→((j7 names env acc).lookup n).isSome=d_
 | [],acc,h=>h
 | (m,k) :: r,acc,h=>by
  refine mS r _ ?_;split
  · rw [Li];cases n == m with
    | true=>rfl
    | false=>exact h
  · exact h
theorem lN {env:Env} {n:Str}:∀ (names:List (Str×MU)) (acc:List (Str×l_)),(n,LW)∈names→((j7 names env acc).lookup n).isSome=d_
 | [],acc,h=>by cases h
 | (m,k) :: r,acc,h=>by
  rcases s_.mp h with e | q
  · injection e with e1 e2;subst e1;subst e2;refine mS r _ ?_;simp only [beq_self_eq_true,if_true,Li];rfl
  · exact lN r _ q
theorem fQ {β:Type} {n:Str} {k:β}:∀ {l:List (Str×β)},l.lookup n=a_ k→(n,k)∈l
 | [],h=>by simp at h
 | (m,j) :: r,h=>by
  rw [Li] at h;cases hm:n == m with
  | true =>
   rw [hm] at h;have e:n=m:=by simpa using hm
   subst e;have e2:j=k:=KZ h;subst e2;exact on
  | false=>rw [hm] at h; exact n_ _ (fQ h)
theorem jV {scope:L6} {env:Env} {n:Str} {k:MU} (h:(relabel scope env).names.lookup n=a_ k):(n,k)∈scope.names∨(k=.cell∧(n,LW)∈scope.names):=by
 have q:=fQ h;unfold relabel at q;obtain ⟨⟨m,j⟩,hm,e⟩:=KY.mp q;dsimp only at e;split at e
 · rename_i hc;injection e with e1 e2;subst e1;have hj:j=.free:=by
    rw [pi,pi] at hc;simpa using hc.1.1
   subst hj;exact .inr ⟨e2.symm,hm⟩
 · injection e with e1 e2;subst e1;subst e2;exact .inl hm
theorem jW {env:Env}:∀ {names:List (Str×MU)} {n:Str},names.lookup n=a_ .free →
 (names.map fun (n,k)=>if (k == LW && env.scope.kind == .function && env.kindOf n == a_ .cell) then (n,Ma) else (n,k)).lookup n=a_ .cell ∨
 (names.map fun (n,k)=>if (k == LW && env.scope.kind == .function && env.kindOf n == a_ .cell) then (n,Ma) else (n,k)).lookup n=a_ .free
 | [],_,h=>by simp at h
 | (m,k) :: r,n,h=>by
  have ih:=@jW env r n;rw [Li] at h;rw [K0];cases hm:n == m with
  | true =>
   rw [hm] at h;have e2:k=.free:=KZ h;subst e2;by_cases hc:(LW == LW && env.scope.kind == .function && env.kindOf m == a_ .cell)=d_
   · dsimp only;rw [if_pos hc,Li,hm];exact .inl rfl
   · dsimp only;rw [if_neg hc,Li,hm];exact .inr rfl
  | false =>
   rw [hm] at h;dsimp only;by_cases hc:(k == LW && env.scope.kind == .function && env.kindOf m == a_ .cell)=d_
   · rw [if_pos hc,Li,hm]; exact ih h
   · rw [if_neg hc,Li,hm]; exact ih h
def yb (cs:List (Str×Nat)) (ρ:Ev):Ev:=ck :: cs.map fun c=>(ρ[c.2]?).join
section
variable {X:Cx} {j':List (l_×Obj)} {σ:L2.St} {H:Hp} {s:h_}
end
def tE (tst:Option FnB) (elt:FnE) (cap:Ev):List Dv→Option (List Dv)
 | []=>a_ []
 | d :: ds =>
  let ρ:=cap.set 0 (a_ d)
  match (match tst with | none=>(a_ (.ok d_):Option (Rs Bool)) | some t=>t ρ) with
  | some (.ok d_)=>(match elt ρ with
   | some (.ok y)=>(match tE tst elt cap ds with | some ys=>a_ (y :: ys) | none=>ck)
   | _=>ck)
  | some (.ok e_)=>tE tst elt cap ds
  | _=>ck
def cF (cs:List (Str×Nat)) (src:FnA) (tst:Option FnB) (elt:FnE):FnE:=fun ρ=>bnd (src ρ) fun ds=>match tE tst elt (yb cs ρ) ds with
 | some ys=>if ys.length≤100000∧ds.length≤100000 then a_ (.ok (.lst ys)) else ck
 | none=>ck
def LAt (h:KO) (D:l_) (its:List g_):Prop:=∃ n,h.get? D=a_ { cls:=.type "list",data:=.seq its.toArray n }
theorem qX {P:rl} {w:C_} {A:E_} {E:g_→h_→Prop} {s:h_} {D:l_} {its:List g_} {u:g_} {Q:g_→h_→Prop} (h:LAt s.heap D its) (hz:its.length≤100000)
 (hQ:∀ h',LAt h' D (its ++ [u])→(∀ b o,b≠D→s.heap.get? b=a_ o→h'.get? b=a_ o)→Q .none { s with heap:=h' }):v_ (F_ P w) A (call (.builtin "list.append") [.ref D,u]) Q E s:=by
 obtain ⟨n,e⟩:=h;refine Nu OG ⟨_,e,rfl⟩ Rc (QP _ _) (RI D its.toArray n u (by rw [A_]; exact cA hz)) ⟨e,?_⟩;have q:=R9 e (·.push u);have e2:its.toArray.push u=(its ++ [u]).toArray:=by simp
 rw [e2] at q;exact hQ _ ⟨_,q⟩ fun b o hb ho=>(Ob s.heap _ (Oh hb)).trans ho
def vL (X:Cx) (ifs:List H_) (tst:Option FnB):Prop:=match tst with
 | none=>ifs=[]
 | some t=>∃ c,ifs=[c]∧FT X c t
theorem HOk.add {P:rl} {w:C_} {H:Hp} {h h':KO} {D C:l_} {o:HO} (x:HOk P w H h) (hD:H D=ck) (hC:H C=ck) (k:∀ b u,b≠C→h.get? b=a_ u→h'.get? b=a_ u) (new:ObjOk P w (upd H D o) h' D o):HOk P w (upd H D o) h':=fun b u e=>by
 by_cases hb:b=D
 · subst hb; rw [ax] at e; cases e; exact new
 · rw [ay hb] at e;refine (x b u e).stay (fun c v hc q=>k c v ?_ q) (fun c q=>by rw [ay (ar q hD)]; exact q) fun c xs q=>by rw [ay (ar q hD)]; exact q
   rcases hc with rfl | hc
   · exact ar e hC
   · exact ar hc hC
theorem zm {b D:Nat} (h:b < D):b≠D:=by omega
theorem CL {b D:Nat} (h:b < D):b≠D + 1:=by omega
theorem Jg {D:Nat}:D≠D + 1:=by omega
section
variable {X:Cx}
def df:Dv→Dv→Option (Rs Dv)
 | .int i,.int j=>a_ (.ok (.int (i + j)))
 | .str x,.str y=>if x.length + y.length≤100000 then a_ (.ok (.str (x ++ y))) else ck
 | .lst a,.lst b=>if a.length + b.length≤100000 then a_ (.ok (.lst (a ++ b))) else ck
 | _,_=>ck
def zn:R2:=fun x y H Q=>rI0 (fun i j=>.int (i + j)) x y H Q∨((∃ i j,x=.str i∧y=.str j∧i.length + j.length≤sizeLine∧Q (.str (i ++ j)) H)∨Jc x y H Q)
theorem o_add:OpR X (L5 .Add) zn:=op_add.or (op_add_str.or Cc)
theorem CM:GOp X zn df:=by
 intro dx dy x y H Q rx ry o;cases dx <;> cases dy <;> try exact (show False from o).elim
 · rename_i i j;exact .inl ⟨i,j,rx,ry,o _ H (.refl H) rfl⟩
 · rename_i i j;simp only [df] at o;split at o
   · rename_i hl;exact .inr (.inl ⟨i,j,rx,ry,cA hl,o _ H (.refl H) rfl⟩)
   · exact o.elim
 · rename_i a b;simp only [df] at o;split at o
   · rename_i hl;obtain ⟨p,xs,rfl,h1,q1⟩:=rx.lstE;obtain ⟨p2,xs2,rfl,h2,q2⟩:=ry.lstE;refine .inr (.inr ⟨p,p2,xs,xs2,rfl,rfl,h1,h2,by rw [q1.length,q2.length]; exact cA hl,fun l hl=>o _ _ (aE hl _) ⟨l,_,rfl,ax,Reps.mono (aE hl _) _ _ (q1.append q2)⟩⟩)
   · exact o.elim
def zo:Dv→Dv→Option (Rs Dv)
 | .int i,.int j=>a_ (.ok (.int (i - j)))
 | _,_=>ck
theorem G3:GOp X (rI0 fun i j=>.int (i - j)) zo:=by
 intro dx dy x y H Q rx ry o;cases dx <;> cases dy <;> try exact (show False from o).elim
 rename_i i j;exact ⟨i,j,rx,ry,o _ H (.refl H) rfl⟩
def jx:Dv→Dv→Option (Rs Dv)
 | .int i,.int j=>if (-18446744073709551616 < i∧i < 18446744073709551616)∨(-18446744073709551616 < j∧j < 18446744073709551616) then a_ (.ok (.int (i * j))) else ck
 | _,_=>ck
theorem CN:GOp X (rI CMul fun i j=>.int (i * j)) jx:=by
 intro dx dy x y H Q rx ry o;cases dx <;> cases dy <;> try exact (show False from o).elim
 rename_i i j;simp only [jx] at o;split at o
 · rename_i h;exact ⟨i,j,rx,ry,h,o _ H (.refl H) rfl⟩
 · exact o.elim
def iP:Dv→Dv→Option (Rs Dv)
 | .int i,.int j=>if 0 < j then a_ (.ok (.int (i % j))) else ck
 | _,_=>ck
theorem G4:GOp X (rI (fun _ j=>0 < j) fun i j=>.int (i % j)) iP:=by
 intro dx dy x y H Q rx ry o;cases dx <;> cases dy <;> try exact (show False from o).elim
 rename_i i j;simp only [iP] at o;split at o
 · rename_i h;exact ⟨i,j,rx,ry,h,o _ H (.refl H) rfl⟩
 · exact o.elim
def iU:Dv→Dv→Option (Rs Dv)
 | .int i,.int j=>if 0 < j∧j < 1073741824 then a_ (.ok (.int (i / j))) else ck
 | _,_=>ck
theorem CO:GOp X (rI IY fun i j=>.int (i / j)) iU:=by
 intro dx dy x y H Q rx ry o;cases dx <;> cases dy <;> try exact (show False from o).elim
 rename_i i j;simp only [iU] at o;split at o
 · rename_i h;exact ⟨i,j,rx,ry,h,o _ H (.refl H) rfl⟩
 · exact o.elim
def yc:Dv→Option (Rs Dv)
 | .int i=>a_ (.ok (.int (-i)))
 | _=>ck
def f1 (g:Dv→Option (Rs Dv)) (fa:FnE):FnE:=fun ρ=>bnd (fa ρ) g
theorem CP {a:H_} {fa:FnE} {pos:Pos} (ha:FE X a fa):FE X (.UnaryOp .USub a pos) (f1 yc fa) :=
 de (GJ BZ ha.h) fun σ H Q ρ E o=>⟨ρ,E,Out.bind o fun d v H1 e r o1=>by
  cases d <;> try exact (show False from o1).elim
  rename_i i;exact ⟨i,r,o1 _ H1 (.refl H1) rfl⟩⟩
def seq (x y:Str):Bool:=x.cps.toList == y.cps.toList
theorem yd (x y:Str):(x == y)=seq x y:=by
 rw [Lm];unfold seq;obtain ⟨⟨a⟩⟩:=x;obtain ⟨⟨b⟩⟩:=y;simp
def eqS:Dv→Dv→Option Bool
 | .non,.non=>a_ d_
 | .non,.int _=>a_ e_
 | .int _,.non=>a_ e_
 | .non,.bl _=>a_ e_
 | .bl _,.non=>a_ e_
 | .non,.str _=>a_ e_
 | .str _,.non=>a_ e_
 | .int i,.int j=>a_ (i == j)
 | .bl i,.bl j=>a_ (i == j)
 | .str i,.str j=>a_ (seq i j)
 | .int _,.str _=>a_ e_
 | .str _,.int _=>a_ e_
 | .bl _,.str _=>a_ e_
 | .str _,.bl _=>a_ e_
 | _,_=>ck
theorem ye {K:f_} {H:Hp} {dx dy:Dv} {x y:V} {b:Bool} (rx:Rep K H dx x) (ry:Rep K H dy y) (h:eqS dx dy=a_ b):GL x y=d_∧u_ (x=y)=b:=by
 cases dx <;> cases dy <;> (try cases h) <;> (try (cases rx; cases ry; exact ⟨rfl,by first | rfl | exact oH | exact sI | (rw [oJ,yd]) | simp⟩))
def G5 (p:Int→Int→Bool):Dv→Dv→Option (Rs Dv)
 | .int i,.int j=>a_ (.ok (.bl (p i j)))
 | _,_=>ck
theorem CQ (p:Int→Int→Bool):GOp X (rI0 fun i j=>.bl (p i j)) (G5 p):=by
 intro dx dy x y H Q rx ry o;cases dx <;> cases dy <;> try exact (show False from o).elim
 rename_i i j;exact ⟨i,j,rx,ry,o _ H (.refl H) rfl⟩
abbrev gtD:=G5 fun i j=>u_ (j < i)
def isN:Dv→Dv→Option (Rs Dv)
 | x,.non=>a_ (.ok (.bl (match x with | .non=>d_ | _=>e_)))
 | _,_=>ck
def dz:Dv→Dv→Option (Rs Dv)
 | x,.non=>a_ (.ok (.bl (match x with | .non=>e_ | _=>d_)))
 | _,_=>ck
theorem tG {K:f_} {H:Hp} {d:Dv} {v:V} (r:Rep K H d v):u_ (v=.non)=(match d with | .non=>d_ | _=>e_):=by
 cases d with
 | non=>cases (show v=.non from r); rfl
 | bl b=>cases (show v=.bl b from r); rfl
 | int b=>cases (show v=.int b from r); rfl
 | str b=>cases (show v=.str b from r); rfl
 | tup ds=>obtain ⟨a,xs,rfl,_⟩:=r.tupE; rfl
 | lst ds=>obtain ⟨a,xs,rfl,_⟩:=r.lstE; rfl
 | scr ds=>obtain ⟨a,rfl,_⟩:=r.scrE; rfl
 | exn c =>
  obtain ⟨a,_,_,_,rfl,_⟩:=r.exnE;rfl
theorem CS:GOp X (fun x y H Q=>y=.non∧Q (.bl (u_ (x=.non))) H) isN:=by
 intro dx dy x y H Q rx ry o;cases dy <;> try exact (show False from o).elim
 have q:=tG rx;refine ⟨ry,?_⟩;have q2:=o _ H (.refl H) rfl;cases dx <;> (rw [q]; exact q2)
theorem yf:GOp X (fun x y H Q=>y=.non∧Q (.bl (!u_ (x=.non))) H) dz:=by
 intro dx dy x y H Q rx ry o;cases dy <;> try exact (show False from o).elim
 have q:=tG rx;refine ⟨ry,?_⟩;have q2:=o _ H (.refl H) rfl;cases dx <;> (rw [q]; exact q2)
def inS (x y:Str):Bool:=!(K2 y x 0 y.length 1).isEmpty
def jA:Dv→Bool
 | .non=>d_
 | .bl _=>d_
 | .int _=>d_
 | .str _=>d_
 | _=>e_
def eqF:Dv→Dv→Bool
 | .non,.non=>d_
 | .bl a,.bl b=>a == b
 | .bl a,.int b=>(if a then 1 else 0) == b
 | .int a,.bl b=>a == (if b then 1 else 0)
 | .int a,.int b=>a == b
 | .str a,.str b=>seq a b
 | _,_=>e_
def inL (x:Dv) (ys:List Dv):Option Bool:=if jA x && ys.all jA then a_ (ys.any fun y=>eqF y x) else ck
def zp:Dv→Dv→Option Bool
 | .str x,.str y=>a_ (inS x y)
 | x,.lst ys=>inL x ys
 | x,.tup ys=>inL x ys
 | _,_=>ck
def inD (x y:Dv):Option (Rs Dv):=match zp x y with
 | some b=>a_ (.ok (.bl b))
 | none=>ck
def mT (x y:Dv):Option (Rs Dv):=match zp x y with
 | some b=>a_ (.ok (.bl (!b)))
 | none=>ck
theorem oR {K:f_} {H:Hp} {d:Dv} {v:V} (r:Rep K H d v) (h:jA d=d_):iF v=d_:=by
 cases d <;> first | (cases h; done) | (cases r; rfl)
theorem lQ {K:f_} {H:Hp}:∀ {ds:List Dv} {vs:List V},Reps K H ds vs→ds.all jA=d_→vs.all iF=d_
 | [],vs,r,_=>by cases (show vs=[] from r); rfl
 | d :: ds,vs,r,h=>by
  obtain ⟨v,us,rfl,r1,r2⟩:∃ v us,vs=v :: us∧Rep K H d v∧Reps K H ds us:=r;rw [Nh,pi] at h;rw [Nh,pi];exact ⟨oR r1 h.1,lQ r2 h.2⟩
theorem yg {K:f_} {H:Hp} {d e:Dv} {v u:V} (r:Rep K H d v) (q:Rep K H e u) (h:jA d=d_) (h':jA e=d_):eqV v u=eqF d e:=by
 cases d <;> first | (cases h; done) | (cases r; cases e <;> first | (cases h'; done) | (cases q; first | rfl | exact yd _ _))
theorem yh {K:f_} {H:Hp} {e:Dv} {u:V} (q:Rep K H e u) (h':jA e=d_):∀ {ds:List Dv} {vs:List V},Reps K H ds vs→ds.all jA=d_→(vs.any fun y=>eqV y u)=ds.any fun y=>eqF y e
 | [],vs,r,_=>by cases (show vs=[] from r); rfl
 | d :: ds,vs,r,h=>by
  obtain ⟨v,us,rfl,r1,r2⟩:∃ v us,vs=v :: us∧Rep K H d v∧Reps K H ds us:=r;rw [Nh,pi] at h;rw [OE,OE,yg r1 q h.1 h',yh q h' r2 h.2]
theorem pX {K:f_} {H:Hp} {dx:Dv} {ys:List Dv} {x:V} {vs:List V} {b:Bool} (rx:Rep K H dx x) (ry:Reps K H ys vs) (h:inL dx ys=a_ b):iF x=d_∧vs.all iF=d_∧inV x vs=b:=by
 unfold inL at h;split at h
 · rename_i hc;rw [pi] at hc;cases h;exact ⟨oR rx hc.1,lQ ry hc.2,yh rx hc.1 ry hc.2⟩
 · cases h
def G6 (K:f_):R2:=fun x y H Q=>(∃ i j,x=.str i∧y=.str j∧Q (.bl (!(K2 j i 0 j.length 1).isEmpty)) H)∨rIn K e_ x y H Q
def oU (K:f_):R2:=fun x y H Q=>(∃ i j,x=.str i∧y=.str j∧Q (.bl (!(!(K2 j i 0 j.length 1).isEmpty))) H)∨rIn K d_ x y H Q
theorem o_in:OpR X (K_ .In) (G6 X.K):=op_in_str.or sY
theorem o_notIn:OpR X (K_ .NotIn) (oU X.K):=op_notIn_str.or mP
theorem G7:GOp X (G6 X.K) inD:=by
 intro dx dy x y H Q rx ry o;unfold inD at o;split at o
 · rename_i b hb;have q:=o _ H (.refl H) rfl;cases dy <;> try (cases dx <;> cases hb; done)
   · rename_i z;cases dx <;> try (cases hb; done)
     rename_i z';cases hb;exact .inl ⟨z',z,rx,ry,q⟩
   · rename_i ys;have hb':inL dx ys=a_ b:=by cases dx <;> exact hb
     obtain ⟨a,vs,rfl,h1,h2⟩:=ry.tupE;obtain ⟨f1,f2,f3⟩:=pX rx h2 hb';exact .inr ⟨a,vs,rfl,.inr (SqT.of h1),f1,f2,by rw [if_neg xy,f3]; exact q⟩
   · rename_i ys;have hb':inL dx ys=a_ b:=by cases dx <;> exact hb
     obtain ⟨a,vs,rfl,h1,h2⟩:=ry.lstE;obtain ⟨f1,f2,f3⟩:=pX rx h2 hb';exact .inr ⟨a,vs,rfl,.inl (SqL.of h1),f1,f2,by rw [if_neg xy,f3]; exact q⟩
 · exact o.elim
theorem tH:GOp X (oU X.K) mT:=by
 intro dx dy x y H Q rx ry o;unfold mT at o;split at o
 · rename_i b hb;have q:=o _ H (.refl H) rfl;cases dy <;> try (cases dx <;> cases hb; done)
   · rename_i z;cases dx <;> try (cases hb; done)
     rename_i z';cases hb;exact .inl ⟨z',z,rx,ry,q⟩
   · rename_i ys;have hb':inL dx ys=a_ b:=by cases dx <;> exact hb
     obtain ⟨a,vs,rfl,h1,h2⟩:=ry.tupE;obtain ⟨f1,f2,f3⟩:=pX rx h2 hb';exact .inr ⟨a,vs,rfl,.inr (SqT.of h1),f1,f2,by rw [if_pos rfl,f3]; exact q⟩
   · rename_i ys;have hb':inL dx ys=a_ b:=by cases dx <;> exact hb
     obtain ⟨a,vs,rfl,h1,h2⟩:=ry.lstE;obtain ⟨f1,f2,f3⟩:=pX rx h2 hb';exact .inr ⟨a,vs,rfl,.inl (SqL.of h1),f1,f2,by rw [if_pos rfl,f3]; exact q⟩
 · exact o.elim
def atD {α:Type} (xs:List α) (i:Int):Option α:=if 0≤i then xs[i.toNat]? else if -(xs.length:Int)≤i then xs[(i + xs.length).toNat]? else ck
theorem lR {α:Type} {xs:List α} {i:Int} {v:α} (h:atD xs i=a_ v):atI xs i=a_ v:=by
 unfold atD at h;unfold atI ixN;split at h
 · rename_i h0;have hl:i.toNat < xs.length:=by
    obtain ⟨q,_⟩:=KQ.mp h;exact q
   rw [if_pos h0,if_pos (by omega)];exact h
 · rename_i h0;split at h
   · rename_i h1;rw [if_neg h0,if_pos h1];exact h
   · cases h
def ixD:Dv→Dv→Option (Rs Dv)
 | .lst xs,.int i=>(match atD xs i with | some d=>a_ (.ok d) | none=>ck)
 | .tup xs,.int i=>(match atD xs i with | some d=>a_ (.ok d) | none=>ck)
 | .str z,.int i=>if z.length≤100000 then (match atD z.cps.toList i with | some c=>a_ (.ok (.str ⟨#[c]⟩)) | none=>ck) else ck
 | .scr ns,.int i=>(match atD ns i with | some d=>a_ (.ok (.int d)) | none=>ck)
 | _,_=>ck
theorem oV {α β:Type} {xs:List α} {ys:List β} (h:ys.length=xs.length) {i:Int} {x:α} (e:atD xs i=a_ x):∃ j:Nat,xs[j]?=a_ x∧∀ y,ys[j]?=a_ y→atD ys i=a_ y:=by
 unfold atD at e;split at e
 · rename_i h0;exact ⟨_,e,fun y q=>by unfold atD; rw [if_pos h0]; exact q⟩
 · rename_i h0;split at e
   · rename_i h1;exact ⟨_,e,fun y q=>by unfold atD; rw [if_neg h0,h,if_pos h1]; exact q⟩
   · cases e
theorem J9:GOp X (rIx X.K) ixD:=by
 intro dx dy x y H Q rx ry o;cases dx <;> cases dy <;> try exact (show False from o).elim
 · rename_i z i;simp only [ixD] at o;split at o
   · rename_i hl;split at o
     · rename_i c hc;exact .inr (.inr ⟨z,i,c,rx,ry,cA hl,lR hc,o _ H (.refl H) rfl⟩)
     · exact o.elim
   · exact o.elim
 · rename_i ds i;simp only [ixD] at o;split at o
   · rename_i d hd;obtain ⟨a,xs,rfl,h1,h2⟩:=rx.tupE;obtain ⟨j,e1,e2⟩:=oV h2.length hd;obtain ⟨v,e3,r3⟩:=h2.get' e1;exact .inr (.inl ⟨a,xs,i,v,rfl,ry,SqT.of h1,lR (e2 v e3),o v H (.refl H) r3⟩)
   · exact o.elim
 · rename_i ds i;simp only [ixD] at o;split at o
   · rename_i d hd;obtain ⟨a,xs,rfl,h1,h2⟩:=rx.lstE;obtain ⟨j,e1,e2⟩:=oV h2.length hd;obtain ⟨v,e3,r3⟩:=h2.get' e1;exact .inl ⟨a,xs,i,v,rfl,ry,SqL.of h1,lR (e2 v e3),o v H (.refl H) r3⟩
   · exact o.elim
 · rename_i ns i;simp only [ixD] at o;split at o
   · rename_i d hd;obtain ⟨a,rfl,h1⟩:=rx.scrE;obtain ⟨j,e1,e2⟩:=oV (ys:=ns.map V.int) (by simp) hd;exact .inl ⟨a,_,i,.int d,rfl,ry,h1,lR (e2 _ (by rw [La,e1] <;> rfl)),o _ H (.refl H) rfl⟩
   · exact o.elim
theorem G8 {a b:H_} {fa fb:FnE} {pos:Pos} (ha:FE X a fa) (hb:FE X b fb) (hs:sV b:=by intro _ _; kernel_rfl):FE X (.Subscript a b pos) (f2 ixD fa fb) :=
 de (GQ B9 ha.h hb.h hs) fun _ _ _ _ E o=>two J9 E o
abbrev FnO:=Ev→Option (Rs (Option Int))
def OutO (X:Cx) (H:Hp) (o:Option (Rs (Option Int))) (Q:Option Int→Hp→Prop):Prop:=match o with
 | none=>False
 | some (.exc c)=>XW X c H
 | some (.ok d)=>∀ H',Same H H'→Q d H'
theorem OutO.mono {H H':Hp} {Q:Option Int→Hp→Prop} (e:Same H H'):∀ {o:Option (Rs (Option Int))},OutO X H o Q→OutO X H' o Q
 | none,h=>h
 | some (.exc _),h=>XW.mono h e
 | some (.ok _),h=>fun H1 e1=>h H1 (e.trans e1)
structure FO (X:Cx) (e:Option H_) (f:FnO):Prop where
 h:PO X e fun σ H Q=>∃ ρ,Envs X.K H σ ρ∧OutO X H (f ρ) Q
def dv:FnO:=fun _=>a_ (.ok ck)
def toI:Dv→Option (Rs (Option Int))
 | .int i=>a_ (.ok (a_ i))
 | _=>ck
def cG (f:FnE):FnO:=fun ρ=>bnd (f ρ) toI
theorem zq:FO X ck dv:=⟨fun j' s σ H Q I ⟨_,_,o⟩=>y8 j' s σ H Q I (o H (.refl H))⟩
theorem zr {e:H_} {fa:FnE} (h:FE X e fa):FO X (a_ e) (cG fa):=⟨fun j' s σ H Q I ⟨ρ,E,o⟩=>y9 h.h j' s σ H Q I ⟨ρ,E,by
 unfold cG at o
 match hf:fa ρ,o with
 | none,o=>exact o
 | some (.exc c),o=>exact o
 | some (.ok d),o =>
  intro v H' e r;cases d <;> try exact (show False from o).elim
  rename_i i;exact ⟨i,r,o H' e⟩⟩⟩
def yi {α:Type} (xs:List α) (lo hi:Option Int):List α:=(xs.drop (HT.sIx xs.length 0 lo)).take (HT.sIx xs.length xs.length hi - HT.sIx xs.length 0 lo)
def Ka:V→Option Int→Option Int→Hp→VK→Prop:=fun x lo hi H Q=>∃ z,x=.str z∧z.length≤sizeLine∧Q (.str (R4 z lo hi)) H
theorem sl_str:SlR X Ka:=by
 intro j' s σ H x v vl vu lo hi sl Q I rx hs pl pu q;obtain ⟨z,rfl,hz,q⟩:=q;obtain ⟨t,rfl⟩:=rx;refine ⟨"str",_,F.slot_str_getitem.lookup,Ov _ _ _,?_⟩;have fin:∀ (t':Tok) (k:Nat),EP X j' σ Q (.str (R4 z lo hi) t') { s with toks:=k }:=fun t' k=>⟨.str (R4 z lo hi),H,I.tok _,⟨_,rfl⟩,q⟩;cases pl with
 | none =>
  cases pu with
  | none=>exact MQ (l:=ck) (u:=ck) (st:=ck) hs rfl (OI ⟨K5 (P9 z _ _) hz,fun t' k=>fin t' k⟩)
  | int j u=>exact MQ (l:=ck) (u:=a_ (j,u)) (st:=ck) hs rfl (OI ⟨K5 (P9 z _ _) hz,fun t' k=>fin t' k⟩)
 | int i u' =>
  cases pu with
  | none=>exact MQ (l:=a_ (i,u')) (u:=ck) (st:=ck) hs rfl (OI ⟨K5 (P9 z _ _) hz,fun t' k=>fin t' k⟩)
  | int j u=>exact MQ (l:=a_ (i,u')) (u:=a_ (j,u)) (st:=ck) hs rfl (OI ⟨K5 (P9 z _ _) hz,fun t' k=>fin t' k⟩)
def F8 (x:Dv) (lo hi:Option Int):Option (Rs Dv):=match x with
 | .str z=>if z.length≤100000 then a_ (.ok (.str (R4 z lo hi))) else ck
 | .lst xs=>a_ (.ok (.lst (yi xs lo hi)))
 | _=>ck
def rS (fa:FnE) (fl fh:FnO):FnE:=fun ρ=>bnd (fa ρ) fun x=>bnd (fl ρ) fun lo=>bnd (fh ρ) fun hi=>F8 x lo hi
theorem iV {H:Hp} {Q:VK} {o:Option (Rs (Option Int))} {k:Option Int→Option (Rs Dv)} {P:Option Int→Hp→Prop} (h:Out X H (bnd o k) Q) (hp:∀ b H',Same H H'→Out X H' (k b) Q→P b H'):OutO X H o P:=by
 match o,h with
 | some (.exc _),h=>exact h
 | some (.ok d),h=>exact fun H1 e=>hp d H1 e (Out.mono e h)
theorem CU {a:H_} {lo hi:Option H_} {fa:FnE} {fl fh:FnO} {p2 pos:Pos} (ha:FE X a fa) (hl:FO X lo fl) (hh:FO X hi fh):FE X (.Subscript a (.Slice lo hi ck p2) pos) (rS fa fl fh) :=
 de (pU (sl_str.or sW) ha.h hl.h hh.h) fun σ H Q ρ E o=>⟨ρ,E,Out.bind o fun d v H1 e1 r1 o1=>⟨ρ,E.mono e1,iV o1 fun l H2 e2 o2=>⟨ρ,(E.mono e1).mono e2,iV o2 fun u H3 e3 o3=>by
  have r3:=Rep.mono e3 d v (Rep.mono e2 d v r1);cases d <;> try exact (show False from o3).elim
  · rename_i z;unfold F8 at o3;dsimp only at o3;split at o3
    · rename_i hz;exact .inl ⟨z,r3,cA hz,o3 _ H3 (.refl H3) rfl⟩
    · exact o3.elim
  · rename_i ds;obtain ⟨a',xs,rfl,h1,h2⟩:=r3.lstE;refine .inr ⟨a',xs,rfl,SqL.of h1,fun p hp=>o3 _ _ (aE hp _) ⟨p,_,rfl,ax,Reps.mono (aE hp _) _ _ ?_⟩⟩;unfold wa yi;rw [h2.length];exact (h2.drop _).take _⟩⟩⟩
def gU:List Dv→Option (Rs Dv)
 | [.str z]=>if z.length≤100000 then a_ (.ok (.int z.length)) else ck
 | [.lst xs]=>a_ (.ok (.int xs.length))
 | [.tup xs]=>a_ (.ok (.int xs.length))
 | [.scr ns]=>a_ (.ok (.int ns.length))
 | _=>ck
def fB1 (g:List Dv→Option (Rs Dv)) (ga:FnA):FnE:=fun ρ=>bnd (ga ρ) g
variable {x:Str} {p pos:Pos} {e:H_} {es:List H_} {ga:FnA}
theorem dO {K:f_} {H:Hp} {d:Dv} {vs:List V} (r:Reps K H [d] vs):∃ v,vs=[v]∧Rep K H d v:=by
 obtain ⟨v,us,rfl,r1,r2⟩:∃ v us,vs=v :: us∧Rep K H d v∧Reps K H [] us:=r;cases (show us=[] from r2);exact ⟨v,rfl,r1⟩
theorem zt {K:f_} {H:Hp} {d d2:Dv} {vs:List V} (r:Reps K H [d,d2] vs):∃ v v2,vs=[v,v2]∧Rep K H d v∧Rep K H d2 v2:=by
 obtain ⟨v,us,rfl,r1,r2⟩:∃ v us,vs=v :: us∧Rep K H d v∧Reps K H [d2] us:=r;obtain ⟨v2,rfl,r3⟩:=dO r2;exact ⟨v,v2,rfl,r1,r3⟩
theorem CV (hg:Gl X "len") (hm:X.mg "len"=ck) (ha:FA X (e :: es) ga) (he:k_ (e :: es) X.env=(e_,eval e X.env) :: k_ es X.env:=by kernel_rfl) (hpl:(Lc pos (k_ es X.env)).any (·.1)=e_:=by kernel_rfl):FE X (.Call (.Name "len" p) (e :: es) [] pos) (fB1 gU ga) :=
 de (gq vZ hg hm SN ha.h (by decide) (by decide) he hpl) fun σ H Q ρ E o=>⟨ρ,E,OutA.bind o fun ds vs H1 e1 rs o1=>by
  unfold gU at o1;split at o1
  · rename_i z;split at o1
    · rename_i hz;obtain ⟨v,rfl,r⟩:=dO rs;cases (show v=.str z from r);exact ⟨_,_,rfl,⟨cA hz,rfl⟩,o1 _ H1 (.refl H1) rfl⟩
    · exact o1.elim
  · rename_i xs;obtain ⟨v,rfl,r⟩:=dO rs;obtain ⟨a,ws,rfl,h1,h2⟩:=r.lstE;exact ⟨_,_,rfl,.inl ⟨ws,SqL.of h1,rfl⟩,o1 _ H1 (.refl H1) (by rw [h2.length]; rfl)⟩
  · rename_i xs;obtain ⟨v,rfl,r⟩:=dO rs;obtain ⟨a,ws,rfl,h1,h2⟩:=r.tupE;exact ⟨_,_,rfl,.inr ⟨ws,SqT.of h1,rfl⟩,o1 _ H1 (.refl H1) (by rw [h2.length]; rfl)⟩
  · rename_i ns;obtain ⟨v,rfl,r⟩:=dO rs;obtain ⟨a,rfl,h1⟩:=r.scrE;exact ⟨_,_,rfl,.inl ⟨_,h1,rfl⟩,o1 _ H1 (.refl H1) (by rw [KR]; rfl)⟩
  · exact o1.elim⟩
def eI:List Dv→Option (List Bool)
 | []=>a_ []
 | .bl b :: r=>(match eI r with | some bs=>a_ (b :: bs) | none=>ck)
 | _=>ck
def iW:List Dv→Option (Rs Dv)
 | [.lst xs]=>(match eI xs with | some bs=>a_ (.ok (.bl (bs.all id))) | none=>ck)
 | _=>ck
theorem lS {K:f_} {H:Hp}:∀ {ds:List Dv} {vs:List V} {us:List g_} {bs:List Bool},Reps K H ds vs→Vals vs us→eI ds=a_ bs→us=bs.map Lj
 | [],vs,us,bs,r,q,h=>by
  cases (show vs=[] from r);cases q;cases h;rfl
 | d :: ds,vs,us,bs,r,q,h=>by
  obtain ⟨v,ws,rfl,r1,r2⟩:∃ v us,vs=v :: us∧Rep K H d v∧Reps K H ds us:=r;cases q with
  | cons q1 q2 =>
   cases d <;> try (cases h; done)
   rename_i b;simp only [eI] at h;cases hb:eI ds with
   | none=>rw [hb] at h; cases h
   | some bs' =>
    rw [hb] at h;cases h;cases (show v=.bl b from r1);cases q1;rw [lS r2 q2 hb];rfl
theorem wj:CallR X (.builtin "all") (fun xs H Q=>∃ a vs bs ds,xs=[.ref a]∧H a=a_ (.lst vs)∧Reps X.K H ds vs∧eI ds=a_ bs∧X.calm=d_∧Q (.bl (bs.all id)) H):=by
 intro j' s σ H xs us Q I r h;obtain ⟨a,vs,bs,ds,rfl,h1,h2,h3,hc,q⟩:=h;obtain ⟨u,rfl,ru⟩:=eR r;cases ru;obtain ⟨z,its,n,rv,hl,e⟩:=I.lstM h1;have eb:=lS h2 rv h3;subst eb;have hL:s.heap.IsList a (bs.map Lj).toArray:=⟨_,e,rfl,_,rfl⟩;have hlt:a < s.heap.objs.size:=w_ e;refine call_all_walk (Nn hL ?_);refine ⟨s.heap.objs.size,[s.heap.objs.size,a],[s.heap.objs.size],(bs.map Lj).toArray.size,_,_,fun i=>(bs[i]?).getD d_,rfl,Ru (A:=X.A.in1) (I.ok.hd hc) _ a (KP hlt) (bs.map Lj).toArray,
  ⟨⟨_,t_ _ rfl,rfl,rfl⟩,hL.push _⟩,fun i v s' Q' E' hP hQ=>?_,fun h' tk hk=>?_⟩
 · have hP':(bs.map Lj)[i]?=a_ v:=by simpa using hP
   rw [La] at hP';cases hb:bs[i]? with
   | none=>rw [hb] at hP'; cases hP'
   | some b =>
    rw [hb] at hP';cases hP';have hQ2:Q' ((bs[i]?).getD d_) s':=hQ;rw [hb] at hQ2;exact Me hQ2
 · have e2:((o_ (bs.map Lj).toArray.size).all fun i=>(bs[i]?).getD d_)=bs.all id:=by
    rw [A_,KR];rw [Lm];simp only [LF,Lk,id];constructor
    · intro hh b hb;obtain ⟨i,hi,rfl⟩:=QU.mp hb;simpa [hi] using hh i hi
    · intro hh i hi;simp only [B_ hi,Sb];exact hh _ (OA hi)
   rw [e2];refine ⟨.bl _,H,I.kept fun b x eb=>hk b x (fun hm=>?_) (i_ _ eb),rfl,q⟩;rw [KN.mp hm] at eb;exact LX _ (w_ eb)
theorem CW (hc:X.calm=d_) (hg:Gl X "all") (hm:X.mg "all"=ck) (ha:FA X (e :: es) ga) (he:k_ (e :: es) X.env=(e_,eval e X.env) :: k_ es X.env:=by kernel_rfl) (hpl:(Lc pos (k_ es X.env)).any (·.1)=e_:=by kernel_rfl):FE X (.Call (.Name "all" p) (e :: es) [] pos) (fB1 iW ga) :=
 de (gq wj hg hm PyProof.Rows.boot_all ha.h (by decide) (by decide) he hpl) fun σ H Q ρ E o=>⟨ρ,E,OutA.bind o fun ds vs H1 e1 rs o1=>by
  unfold iW at o1;split at o1
  · rename_i xs;split at o1
    · rename_i bs hb;obtain ⟨v,rfl,r⟩:=dO rs;obtain ⟨a,ws,rfl,h1,h2⟩:=r.lstE;exact ⟨a,ws,bs,xs,rfl,h1,h2,hb,hc,o1 _ H1 (.refl H1) rfl⟩
    · exact o1.elim
  · exact o1.elim⟩
def tyD:Dv→String
 | .non=>"NoneType"
 | .bl _=>"bool"
 | .int _=>"int"
 | .str _=>"str"
 | .tup _=>"tuple"
 | .lst _=>"list"
 | .scr _=>"list"
 | .exn _=>"object"
end
section
variable {X:Cx} {p pos apos cpos pT:Pos} {e a o:H_} {es:List H_} {ga:FnA} {fa fo:FnE}
theorem zu {K:f_} {H:Hp} {d:Dv} {v:V} (r:Rep K H d v) (hs:∀ ns,d≠.scr ns) (hx:∀ c,d≠.exn c):pR K H v (.type (tyD d)):=by
 cases d with
 | non=>cases (show v=.non from r); exact .non
 | bl b=>cases (show v=.bl b from r); exact .bl b
 | int b=>cases (show v=.int b from r); exact .int b
 | str b=>cases (show v=.str b from r); exact .str b
 | tup ds=>obtain ⟨a,xs,rfl,h,_⟩:=r.tupE; exact .tup h
 | lst ds=>obtain ⟨a,xs,rfl,h,_⟩:=r.lstE; exact .lst h
 | scr ns=>exact absurd rfl (hs ns)
 | exn c=>exact absurd rfl (hx c)
theorem wl (T:String):CallR X (.builtin "isinstance") (fun xs H Q=>∃ x t b,xs=[x,.ty T]∧pR X.K H x t∧MT X.K t (.type T)=a_ b∧Q (.bl b) H):=by
 intro j' s σ H xs us Q I r h;obtain ⟨x,t,b,rfl,ty,hk,q⟩:=h;obtain ⟨u,w',rfl,ru,rw'⟩:=B1 r;cases (show w'=x_ T from rw');exact sQ I ru ty hk fun tk=>⟨.bl b,H,I.tok tk,rfl,q⟩
def cO (tb:Dv→Bool):Dv→Option (Rs Dv)
 | .scr _=>ck
 | .exn _=>ck
 | d=>a_ (.ok (.bl (tb d)))
theorem pY {T:String} {tb:Dv→Bool} (hk:∀ K d,MT K (.type (tyD d)) (.type T)=a_ (tb d)) (hT:LO (b_ T)=a_ (.type T)) (hn:b_ T≠"__name__") (hdT:(b_ T == ("__debug__":Str))=e_)
 (hg:Gl X "isinstance") (hm:X.mg "isinstance"=ck) (hgT:Gl X (b_ T)) (hmT:X.mg (b_ T)=ck) (ha:FE X a fa)
 (hs1:k_ [a,.Name (b_ T) pT] X.env=(e_,eval a X.env) :: k_ [.Name (b_ T) pT] X.env:=by kernel_rfl) (hs2:k_ [.Name (b_ T) pT] X.env=(e_,eval (.Name (b_ T) pT) X.env) :: k_ [] X.env:=by kernel_rfl)
 (hpl:(Lc pos (k_ [.Name (b_ T) pT] X.env)).any (·.1)=e_:=by kernel_rfl) :
 FE X (.Call (.Name "isinstance" p) [a,.Name (b_ T) pT] [] pos) (f1 (cO tb) fa) :=
 de (gq (wl T) hg hm PyProof.Rows.boot_isinstance (oK ha.h (oK (yV (v:=.ty T) hgT hmT hT rfl hn hdT) xV hs2) hs1) (by decide) (by decide) hs1 hpl) fun σ H Q ρ E o=>⟨ρ,E,Out.bind o fun d v H1 e1 r o1=>by
  show ∃ x t b,[v,V.ty T]=[x,.ty T]∧_;cases d with
  | scr ns=>exact o1.elim
  | exn c=>exact o1.elim
  | _=>exact ⟨v,_,_,rfl,zu r (fun ns z=>by cases z) (fun c z=>by cases z),hk X.K _,o1 _ H1 (.refl H1) rfl⟩⟩
def bH:Dv→Bool
 | .str _=>d_
 | _=>e_
theorem zv (K:f_) (d:Dv):MT K (.type (tyD d)) (.type "str")=a_ (bH d):=by cases d <;> kernel_rfl
def bK:Dv→Bool
 | .tup _=>d_
 | _=>e_
theorem zw (K:f_) (d:Dv):MT K (.type (tyD d)) (.type "tuple")=a_ (bK d):=by cases d <;> kernel_rfl
def aH:Dv→Bool
 | .bl _=>d_
 | _=>e_
theorem wm (K:f_) (d:Dv):MT K (.type (tyD d)) (.type "bool")=a_ (aH d):=by cases d <;> kernel_rfl
def fM (g:Str→List Dv→Option (Rs Dv)) (fo:FnE) (ga:FnA):FnE:=fun ρ=>bnd (fo ρ) fun x=>match x with
 | .str i=>bnd (ga ρ) fun xs=>g i xs
 | _=>ck
def mU (h:Str→Str→Bool):Str→List Dv→Option (Rs Dv)
 | x,[.str y]=>a_ (.ok (.bl (h x y)))
 | _,_=>ck
def F9 (h:Str→Str→Int):Str→List Dv→Option (Rs Dv)
 | x,[.str y]=>a_ (.ok (.int (h x y)))
 | _,_=>ck
def zx (h:Str→Str→Bool):V→List V→Hp→VK→Prop:=fun x xs H Q=>∃ i j,x=.str i∧xs=[.str j]∧Q (.bl (h i j)) H
def CY (h:Str→Str→Int):V→List V→Hp→VK→Prop:=fun x xs H Q=>∃ i j,x=.str i∧xs=[.str j]∧Q (.int (h i j)) H
theorem G9:MtR X "str.startswith" (zx K1):=by
 intro j' s σ H x xs v us Q I rx rs h;obtain ⟨i,j,rfl,rfl,q⟩:=h;obtain ⟨t,rfl⟩:=rx;obtain ⟨u,rfl,ru⟩:=eR rs;obtain ⟨t',rfl⟩:=ru;exact SC.startswith ⟨.bl _,H,I,rfl,q⟩
theorem Ha:MtR X "str.endswith" (zx OW):=by
 intro j' s σ H x xs v us Q I rx rs h;obtain ⟨i,j,rfl,rfl,q⟩:=h;obtain ⟨t,rfl⟩:=rx;obtain ⟨u,rfl,ru⟩:=eR rs;obtain ⟨t',rfl⟩:=ru;exact SC.endswith ⟨.bl _,H,I,rfl,q⟩
theorem wn:MtR X "str.rfind" (CY S7):=by
 intro j' s σ H x xs v us Q I rx rs h;obtain ⟨i,j,rfl,rfl,q⟩:=h;obtain ⟨t,rfl⟩:=rx;obtain ⟨u,rfl,ru⟩:=eR rs;obtain ⟨t',rfl⟩:=ru;exact SC.rfind ⟨.int _,H,I.tok _,⟨_,rfl⟩,q⟩
theorem zy {name:Str} {id:String} {r:V→List V→Hp→VK→Prop} {g:Str→List Dv→Option (Rs Dv)} (slot:Slot "str" name id) (hty:typeOf (.builtin id)=pure (.type "method_descriptor")) (hm:MtR X id r)
 (hg:∀ i ds vs H Q,Reps X.K H ds vs→Out X H (g i ds) Q→r (.str i) vs H Q) (ho:FE X o fo) (ha:FA X (e :: es) ga)
 (hbase:NP o name X.env (eval o X.env)=eval o X.env:=by kernel_rfl)
 (hfew:((Lc cpos (k_ (e :: es) X.env)).all (fun x=>!x.1) && (Nv cpos (Mb [] X.env)).all (fun x=>x.1.isSome)
   && u_ ((e :: es).length + ([]:List No).length + (if ([]:List No).isEmpty then 0 else 1) < 30))=d_:=by kernel_rfl)
 (hline:(apos.endLine == cpos.line)=d_:=by kernel_rfl) (hs:k_ (e :: es) X.env=(e_,eval e X.env) :: k_ es X.env:=by kernel_rfl) (hplain:(Lc cpos (k_ es X.env)).any (·.1)=e_:=by kernel_rfl) :
 FE X (.Call (.Attribute o name apos) (e :: es) [] cpos) (fM g fo ga) :=
 de (za PySem.F.plainAttrs_str slot hty hm ho.h ha.h hbase hfew hline hs hplain) fun σ H Q ρ E o=>⟨ρ,E,Out.bind o fun d v H1 e1 rd o1=>by
  cases d <;> try exact (show False from o1).elim
  rename_i i;cases (show v=.str i from rd);exact ⟨rfl,ρ,E.mono e1,OutA.bind o1 fun ds vs H2 e2 rs o2=>hg i ds vs H2 Q rs o2⟩⟩
theorem yj {h:Str→Str→Bool} (i:Str) (ds:List Dv) (vs:List V) (H:Hp) (Q:VK) (rs:Reps X.K H ds vs) (o:Out X H (mU h i ds) Q):zx h (.str i) vs H Q:=by
 unfold mU at o;split at o
 · rename_i j;obtain ⟨w,rfl,rw'⟩:=dO rs;cases (show w=.str j from rw');exact ⟨i,j,rfl,rfl,o _ H (.refl H) rfl⟩
 · exact o.elim
theorem CZ {h:Str→Str→Int} (i:Str) (ds:List Dv) (vs:List V) (H:Hp) (Q:VK) (rs:Reps X.K H ds vs) (o:Out X H (F9 h i ds) Q):CY h (.str i) vs H Q:=by
 unfold F9 at o;split at o
 · rename_i j;obtain ⟨w,rfl,rw'⟩:=dO rs;cases (show w=.str j from rw');exact ⟨i,j,rfl,rfl,o _ H (.refl H) rfl⟩
 · exact o.elim
def Jh (K:f_):R2:=fun x y H Q=>∃ (a b:l_) (ns:List Int),x=.ref a∧y=.ref b∧SqL K H a (ns.map V.int)∧H b=a_ (.lst [])∧Q (.bl ns.isEmpty) H
theorem Hb (hu:X.A.units < cLine):OpR X (K_ .Eq) (Jh X.K):=by
 intro j' s σ H x y v u Q I rx ry h;obtain ⟨a,b,ns,rfl,rfl,h1,h2,q⟩:=h;cases rx;cases ry;obtain ⟨its,r,pl,hz⟩:=I.list h1;obtain ⟨z2,its2,n2,r2,hl2,e2⟩:=I.lstM h2;cases r2;have hb:s.heap.IsList b #[]:=⟨_,e2,rfl,_,rfl⟩;have hl:=r.length;cases ns with
 | nil =>
  have e0:its=[]:=by cases its with | nil=>rfl | cons _ _=>simp at hl
  subst e0;exact SeqAt.eq_listAt (e:=fun _=>d_) pl.isList hb rfl hu (fun i hi=>absurd hi (by simp)) (by first | exact ⟨.bl _,H,I,rfl,q⟩ | (refine ⟨.bl _,H,I,?_,q⟩; simp [RelV]))
 | cons n ns =>
  refine SeqAt.eq_list_lengthsAt pl.isList hb ?_ hu ⟨.bl _,H,I,rfl,q⟩;have:0 < its.length:=by rw [← hl]; simp
  simp;exact fun z=>by rw [z] at this; simp at this
def Ga:Dv→Dv→Option (Rs Dv)
 | .scr ns,.lst []=>a_ (.ok (.bl ns.isEmpty))
 | _,_=>ck
theorem Hc:GOp X (Jh X.K) Ga:=by
 intro dx dy x y H Q rx ry o;unfold Ga at o;split at o
 · rename_i ns;obtain ⟨a,rfl,h1⟩:=rx.scrE;obtain ⟨b,xs,rfl,h2,h3⟩:=ry.lstE;cases (show xs=[] from h3);exact ⟨a,b,ns,rfl,rfl,h1,h2,o _ H (.refl H) rfl⟩
 · exact o.elim
end
end FD
namespace FD
open PySem
theorem C0:LO (b_ "str")=a_ (.type "str"):=PyProof.Rows.boot_str
theorem wo:LO (b_ "tuple")=a_ (.type "tuple"):=by decide +kernel
theorem zz:LO (b_ "bool")=a_ (.type "bool"):=by decide +kernel
end FD
namespace FD
open PySem PySem.Spec PyProof.Rows L2
mutual
def bW:Dv→PyData
 | .non=>.none
 | .bl b=>.bool b
 | .int i=>.int i
 | .str x=>.str x
 | .tup xs=>.tuple (toPys xs)
 | .lst xs=>.list (toPys xs)
 | .scr ns=>.list (ns.map PyData.int)
 | .exn _=>.dict []
def toPys:List Dv→List PyData
 | []=>[]
 | d :: ds=>bW d :: toPys ds
end
section
variable {X:Cx} {j':List (l_×Obj)} {σ:L2.St} {H:Hp} {s:h_}
theorem lh:∀ {ns:List Int} {us:List g_},Vals (ns.map V.int) us→∃ as,ReadsAll s.heap us (ns.map PyData.int) as
 | [],us,r=>by cases r; exact ⟨_,.nil⟩
 | n :: ns,us,r=>by
  cases r with
  | cons r1 r2 =>
   obtain ⟨t,rfl⟩:=r1;obtain ⟨as,q⟩:=lh r2;exact ⟨_,.cons (.int n t) q⟩
mutual
theorem Rep.reads (I:Inv X j' σ H s):∀ (d:Dv) (v:V) (u:g_),Rep X.K H d v→RelV v u→(bW d).canLay0=d_→∃ as,Reads s.heap u (bW d) as
 | .non,v,u,r,q,hz0=>by cases (show v=.non from r); cases (show u=KW from q); exact ⟨_,.none⟩
 | .bl b,v,u,r,q,hz0=>by cases (show v=.bl b from r); cases (show u=Lj b from q); exact ⟨_,.bool b⟩
 | .int i,v,u,r,q,hz0=>by cases (show v=.int i from r); obtain ⟨t,rfl⟩:=(show ∃ t,u=R3 i t from q); exact ⟨_,.int i t⟩
 | .str x,v,u,r,q,hz0=>by cases (show v=.str x from r); obtain ⟨t,rfl⟩:=(show ∃ t,u=ND x t from q); exact ⟨_,.str x t⟩
 | .tup ds,v,u,r,q,hz0=>by
  obtain ⟨a,xs,rfl,h,rs⟩:=r.tupE;cases (show u=q_ a from q);obtain ⟨its,rv,⟨o,e,c,n,d⟩,hz⟩:=I.tuple (SqT.of h);obtain ⟨as,ra⟩:=Reps.reads I ds xs its rs rv (by simpa [bW,K6] using hz0);exact ⟨as,.tuple e c d (by simpa using ra)⟩
 | .lst ds,v,u,r,q,hz0=>by
  obtain ⟨a,xs,rfl,h,rs⟩:=r.lstE;cases (show u=q_ a from q);obtain ⟨z,its,n,rv,hl,e⟩:=I.lstM h;obtain ⟨as,ra⟩:=Reps.reads I ds xs its rs rv (by simpa [bW,K6] using hz0);exact ⟨a :: as,.list e rfl rfl (by simpa using ra)⟩
 | .scr ns,v,u,r,q,hz0=>by
  obtain ⟨a,rfl,h⟩:=r.scrE;cases (show u=q_ a from q);obtain ⟨its,rv,⟨o,n,e,c,hd,d⟩,hz⟩:=I.list h;obtain ⟨as,ra⟩:=lh (s:=s) rv;exact ⟨a :: as,.list e c d (by simpa using ra)⟩
 | .exn c,v,u,r,q,hz0=>by simp [bW,K6] at hz0
theorem Reps.reads (I:Inv X j' σ H s):∀ (ds:List Dv) (vs:List V) (us:List g_),Reps X.K H ds vs→Vals vs us→LI (toPys ds)=d_→∃ as,ReadsAll s.heap us (toPys ds) as
 | [],vs,us,r,q,_=>by cases (show vs=[] from r); cases q; exact ⟨_,.nil⟩
 | d :: ds,vs,us,r,q,hz0=>by
  obtain ⟨v,ws,rfl,r1,r2⟩:∃ v us,vs=v :: us∧Rep X.K H d v∧Reps X.K H ds us:=r;cases q with
  | cons q1 q2 =>
   have hz1:(bW d).canLay0=d_∧LI (toPys ds)=d_:=by simpa [toPys,LI] using hz0
   obtain ⟨as,a⟩:=Rep.reads I d v _ r1 q1 hz1.1;obtain ⟨bs,b⟩:=Reps.reads I ds ws _ r2 q2 hz1.2;exact ⟨_,.cons a b⟩
end
end
section
variable {X:Cx}
def okP (d:Dv):Bool:=SeqAt.shaped (bW d)
def rPy (X:Cx) (neg:Bool):R2:=fun x y H Q=>∃ dx dy,Rep X.K H dx x∧Rep X.K H dy y∧okP dx=d_∧okP dy=d_∧Q (.bl (if neg then !Ld (bW dx) (bW dy) else Ld (bW dx) (bW dy))) H
theorem C7 (hu:X.A.units + 64 < cLine):OpR X (K_ .Eq) (rPy X e_):=by
 intro j' s σ H x y v u Q I rx ry h;obtain ⟨dx,dy,qx,qy,hx,hy,q⟩:=h;obtain ⟨as,ra⟩:=Rep.reads I dx x v qx rx (Lg.mp hx).1;obtain ⟨bs,rb⟩:=Rep.reads I dy y u qy ry (Lg.mp hy).1;exact SeqAt.compareEq_shaped ra rb hx hy hu ⟨.bl _,H,I,rfl,q⟩
theorem C8 (hu:X.A.units + 64 < cLine):OpR X (K_ .NotEq) (rPy X d_):=by
 intro j' s σ H x y v u Q I rx ry h;obtain ⟨dx,dy,qx,qy,hx,hy,q⟩:=h;obtain ⟨as,ra⟩:=Rep.reads I dx x v qx rx (Lg.mp hx).1;obtain ⟨bs,rb⟩:=Rep.reads I dy y u qy ry (Lg.mp hy).1;exact SeqAt.compareNe_shaped ra rb hx hy hu ⟨.bl _,H,I,rfl,q⟩
def eqX (x y:Dv):Option (Rs Dv):=match eqS x y with
 | some b=>a_ (.ok (.bl b))
 | none=>if okP x && okP y then a_ (.ok (.bl (Ld (bW x) (bW y)))) else ck
def neX (x y:Dv):Option (Rs Dv):=match eqS x y with
 | some b=>a_ (.ok (.bl (!b)))
 | none=>if okP x && okP y then a_ (.ok (.bl (!Ld (bW x) (bW y)))) else ck
def Ji (X:Cx):R2:=fun x y H Q=>rEq x y H Q∨rPy X e_ x y H Q
def Jj (X:Cx):R2:=fun x y H Q=>rNe x y H Q∨rPy X d_ x y H Q
theorem C9 (hu:X.A.units + 64 < cLine):OpR X (K_ .Eq) (Ji X):=op_eq.or (C7 hu)
theorem Hd (hu:X.A.units + 64 < cLine):OpR X (K_ .NotEq) (Jj X):=op_ne.or (C8 hu)
theorem Da:GOp X (Ji X) eqX:=by
 intro dx dy x y H Q rx ry o;unfold eqX at o;split at o
 · rename_i b hb;obtain ⟨h1,h2⟩:=ye rx ry hb;exact .inl ⟨h1,by rw [h2]; exact o _ H (.refl H) rfl⟩
 · split at o
   · rename_i hc;rw [pi] at hc;exact .inr ⟨dx,dy,rx,ry,hc.1,hc.2,o _ H (.refl H) rfl⟩
   · exact o.elim
theorem He:GOp X (Jj X) neX:=by
 intro dx dy x y H Q rx ry o;unfold neX at o;split at o
 · rename_i b hb;obtain ⟨h1,h2⟩:=ye rx ry hb;exact .inl ⟨h1,by rw [h2]; exact o _ H (.refl H) rfl⟩
 · split at o
   · rename_i hc;rw [pi] at hc;exact .inr ⟨dx,dy,rx,ry,hc.1,hc.2,o _ H (.refl H) rfl⟩
   · exact o.elim
def ltX:Dv→Dv→Option (Rs Dv)
 | .int i,.int j=>a_ (.ok (.bl (u_ (i < j))))
 | .str x,.str y=>a_ (.ok (.bl (u_ (x.cps.toList < y.cps.toList))))
 | _,_=>ck
def Jk:R2:=fun x y H Q=>rI0 (fun i j=>.bl (u_ (i < j))) x y H Q∨∃ i j,x=.str i∧y=.str j∧Q (.bl (u_ (i.cps.toList < j.cps.toList))) H
theorem Db:OpR X (K_ .Lt) Jk:=op_lt.or sK
theorem Dc:GOp X Jk ltX:=by
 intro dx dy x y H Q rx ry o;cases dx <;> cases dy <;> try exact (show False from o).elim
 · rename_i i j;exact .inl ⟨i,j,rx,ry,o _ H (.refl H) rfl⟩
 · rename_i i j;exact .inr ⟨i,j,rx,ry,o _ H (.refl H) rfl⟩
theorem mV:∀ (ps:List Str) (k:Nat),Vals (ps.map V.str) (strsFrom k ps)
 | [],_=>.nil
 | p :: ps,k=>.cons ⟨k,rfl⟩ (mV ps (k + 1))
theorem mW {K:f_} {H:Hp}:∀ ps:List Str,Reps K H (ps.map Dv.str) (ps.map V.str)
 | []=>rfl
 | p :: ps=>⟨.str p,ps.map V.str,rfl,rfl,mW ps⟩
def gK:Str→List Dv→Option (Rs Dv)
 | x,[.str y]=>if y.length≠0∧x.length≤100000∧(Mz x y).length≤100000 then a_ (.ok (.lst ((Mz x y).map Dv.str))) else ck
 | _,_=>ck
def yk:V→List V→Hp→VK→Prop:=fun x xs H Q=>∃ i j,x=.str i∧xs=[.str j]∧j.length≠0∧i.length≤sizeLine∧(Mz i j).length≤sizeLine∧∀ p,H p=ck→Q (.ref p) (upd H p (.lst ((Mz i j).map V.str)))
theorem wp:MtR X "str.split" yk:=by
 intro j' s σ H x xs v us Q I rx rs h;obtain ⟨i,j,rfl,rfl,hj,hi,hn,q⟩:=h;obtain ⟨t,rfl⟩:=rx;obtain ⟨u,rfl,ru⟩:=eR rs;obtain ⟨t',rfl⟩:=ru;have hy:(j.length == 0)=e_:=by simpa using hj
 have one:∀ {s':h_},s'={ s with heap:=s.heap.push { cls:=.type "list",data:=.seq [ND i t].toArray } }→Mz i j=[i]→EP X j' σ Q (.ref s.heap.objs.size) s':=fun e e2=>by
  subst e;rw [e2] at q;exact ⟨.ref _,_,I.lnew (its:=[ND i t]) (ys:=[V.str i]) (t':=s.toks) (.cons ⟨t,rfl⟩ .nil) (by show 1≤sizeLine; decide),rfl,q _ I.fresh⟩
 cases h1:(u_ (i.length < j.length) || u_ (Mg i < Mg j))
 · cases hf:(K2 i j 0 i.length (i.length + 1)).isEmpty
   · have e2:Mz i j=Builtin.Str.partsBetween i (K2 i j 0 i.length (i.length + 1)) j.length:=by
      unfold Mz;rw [if_neg (by rw [h1]; exact xy),if_neg (by rw [hf]; exact xy)]
     rw [e2] at q hn;refine Nu N3 (Ov _ _ _) Pr (Pe _ _) (meets_str_split_sep i j t t' h1 hy hf hi hn) ?_;exact ⟨.ref _,_,I.lnew (t':=_) (mV _ _) (by rw [KR]; exact hn),rfl,q _ I.fresh⟩
   · refine Nu N3 (Ov _ _ _) Pr (Pe _ _) (meets_str_split_not_found i j t t' h1 hy hf) ?_;exact one rfl (by unfold Mz; rw [if_neg (by rw [h1]; exact xy),if_pos hf])
 · refine Nu N3 (Ov _ _ _) Pr (Pe _ _) (meets_str_split_cannot_occur i j t t' h1) ?_;exact one rfl (by unfold Mz; rw [if_pos h1])
theorem zC (i:Str) (ds:List Dv) (vs:List V) (H:Hp) (Q:VK) (rs:Reps X.K H ds vs) (o:Out X H (gK i ds) Q):yk (.str i) vs H Q:=by
 unfold gK at o;split at o
 · rename_i j;split at o
   · rename_i hc;obtain ⟨w,rfl,rw'⟩:=dO rs;cases (show w=.str j from rw');exact ⟨i,j,rfl,rfl,hc.1,cA hc.2.1,cA hc.2.2,fun p hp=>o _ _ (aE hp _) ⟨p,_,rfl,ax,mW _⟩⟩
   · exact o.elim
 · exact o.elim
def qY:List Dv→Option (List Str)
 | []=>a_ []
 | .str x :: r=>(match qY r with | some xs=>a_ (x :: xs) | none=>ck)
 | _=>ck
def wq:Str→List Dv→Option (Rs Dv)
 | x,[.lst ds]=>(match qY ds with
  | some ts=>if JoinOk x ts=d_ then a_ (.ok (.str (Nx x ts))) else ck
  | none=>ck)
 | _,_=>ck
def Dd (K:f_):V→List V→Hp→VK→Prop:=fun x xs H Q=>∃ i a vs ds ts,x=.str i∧xs=[.ref a]∧H a=a_ (.lst vs)∧Reps K H ds vs∧qY ds=a_ ts∧JoinOk i ts=d_∧Q (.str (Nx i ts)) H
theorem ll {K:f_} {H:Hp}:∀ {ds:List Dv} {vs:List V} {us:List g_} {ts:List Str},Reps K H ds vs→Vals vs us→qY ds=a_ ts→∃ l:List (Str×Tok),us=strValues l∧l.map (·.1)=ts
 | [],vs,us,ts,r,q,h=>by
  cases (show vs=[] from r);cases q;cases h;exact ⟨[],rfl,rfl⟩
 | d :: ds,vs,us,ts,r,q,h=>by
  obtain ⟨v,ws,rfl,r1,r2⟩:∃ v us,vs=v :: us∧Rep K H d v∧Reps K H ds us:=r;cases q with
  | cons q1 q2 =>
   cases d <;> try (cases h; done)
   rename_i b;simp only [qY] at h;cases hb:qY ds with
   | none=>rw [hb] at h; cases h
   | some bs' =>
    rw [hb] at h;cases h;cases (show v=.str b from r1);obtain ⟨t,rfl⟩:=q1;obtain ⟨l,e1,e2⟩:=ll r2 q2 hb;exact ⟨(b,t) :: l,by rw [e1]; rfl,by rw [K0,e2]⟩
theorem zD:MtR X "str.join" (Dd X.K):=by
 intro j' s σ H x xs v us Q I rx rs h;obtain ⟨i,a,vs,ds,ts,rfl,rfl,h1,h2,h3,h4,q⟩:=h;obtain ⟨t,rfl⟩:=rx;obtain ⟨u,rfl,ru⟩:=eR rs;cases ru;obtain ⟨z,its,n,rv,hl,e⟩:=I.lstM h1;obtain ⟨l,e1,e2⟩:=ll h2 rv h3;subst e1;exact SC.join ⟨_,e,rfl,_,rfl⟩ e2 h4 fun t' k=>⟨.str _,H,I.tok _,⟨_,rfl⟩,q⟩
theorem De (i:Str) (ds:List Dv) (vs:List V) (H:Hp) (Q:VK) (rs:Reps X.K H ds vs) (o:Out X H (wq i ds) Q):Dd X.K (.str i) vs H Q:=by
 unfold wq at o;split at o
 · rename_i es;split at o
   · rename_i ts ht;split at o
     · rename_i hj;obtain ⟨w,rfl,rw'⟩:=dO rs;obtain ⟨a,xs,rfl,h1,h2⟩:=rw'.lstE;exact ⟨i,a,xs,es,ts,rfl,rfl,h1,h2,ht,hj,o _ H (.refl H) rfl⟩
     · exact o.elim
   · exact o.elim
 · exact o.elim
def lU:Str→List Dv→Option (Rs Dv)
 | x,[.str y]=>if y.length≠0∧x.length≤100000 then a_ (.ok (.tup [.str (Mj x y).1,.str (Mj x y).2.1,.str (Mj x y).2.2])) else ck
 | _,_=>ck
def Df:V→List V→Hp→VK→Prop:=fun x xs H Q=>∃ i j,x=.str i∧xs=[.str j]∧j.length≠0∧i.length≤sizeLine∧∀ p,H p=ck→Q (.ref p) (upd H p (.tup [.str (Mj i j).1,.str (Mj i j).2.1,.str (Mj i j).2.2]))
theorem zE:MtR X "str.partition" Df:=by
 intro j' s σ H x xs v us Q I rx rs h;obtain ⟨i,j,rfl,rfl,hj,hi,q⟩:=h;obtain ⟨t,rfl⟩:=rx;obtain ⟨u,rfl,ru⟩:=eR rs;obtain ⟨t',rfl⟩:=ru;have hy:(j.length == 0)=e_:=by simpa using hj
 have fin:∀ (a b c:Str) (ta tb tc:Tok) (k:Nat),Mj i j=(a,b,c)→EP X j' σ Q (.ref s.heap.objs.size) { s with toks:=k,heap:=s.heap.push { cls:=.type "tuple",data:=.seq [ND a ta,.str b tb,.str c tc].toArray } }:=fun a b c ta tb tc k e=>by
  rw [e] at q;refine ⟨.ref _,_,I.laid (t':=k) (fun b u e=>i_ _ e) (r_ _) ?_,rfl,q _ I.fresh⟩;exact ⟨by show 3≤sizeLine; decide,[ND a ta,.str b tb,.str c tc],.cons ⟨_,rfl⟩ (.cons ⟨_,rfl⟩ (.cons ⟨_,rfl⟩ .nil)),⟨_,t_ _ rfl,rfl,_,rfl⟩⟩
 refine Nu PJ (Ov _ _ _) F.entry_str_partition (F.args_str_partition_2 _ _) (meets_str_partition i j t t' hy hi) ?_;cases ho:K2 i j 0 i.length 1 with
 | nil=>exact fin _ _ _ _ _ _ _ (by unfold Mj; rw [ho])
 | cons k r=>exact fin _ _ _ _ _ _ _ (by unfold Mj; rw [ho])
theorem Dg (i:Str) (ds:List Dv) (vs:List V) (H:Hp) (Q:VK) (rs:Reps X.K H ds vs) (o:Out X H (lU i ds) Q):Df (.str i) vs H Q:=by
 unfold lU at o;split at o
 · rename_i j;split at o
   · rename_i hc;obtain ⟨w,rfl,rw'⟩:=dO rs;cases (show w=.str j from rw');exact ⟨i,j,rfl,rfl,hc.1,cA hc.2,fun p hp=>o _ _ (aE hp _) ⟨p,_,rfl,ax,⟨_,_,rfl,rfl,_,_,rfl,rfl,_,_,rfl,rfl,rfl⟩⟩⟩
   · exact o.elim
 · exact o.elim
variable {p pos:Pos} {e:H_} {es:List H_} {ga:FnA}
def gL:List Dv→Option (Rs Dv)
 | [.lst xs]=>a_ (.ok (.tup xs))
 | [.tup xs]=>a_ (.ok (.tup xs))
 | _=>ck
theorem wt (hg:Gl X "tuple") (hm:X.mg "tuple"=ck) (ha:FA X (e :: es) ga) (he:k_ (e :: es) X.env=(e_,eval e X.env) :: k_ es X.env:=by kernel_rfl) (hpl:(Lc pos (k_ es X.env)).any (·.1)=e_:=by kernel_rfl):FE X (.Call (.Name "tuple" p) (e :: es) [] pos) (fB1 gL ga) :=
 de (gS lM hg hm (by decide +kernel) ha.h (by decide) (by decide) he hpl) fun σ H Q ρ E o=>⟨ρ,E,OutA.bind o fun ds vs H1 e1 rs o1=>by
  unfold gL at o1;split at o1
  · rename_i xs;obtain ⟨v,rfl,r⟩:=dO rs;obtain ⟨a,ws,rfl,h1,h2⟩:=r.lstE;exact ⟨a,ws,rfl,.inl ⟨SqL.of h1,fun l hl=>o1 _ _ (aE hl _) ⟨l,ws,rfl,ax,Reps.mono (aE hl _) _ _ h2⟩⟩⟩
  · rename_i xs;obtain ⟨v,rfl,r⟩:=dO rs;obtain ⟨a,ws,rfl,h1,h2⟩:=r.tupE;exact ⟨a,ws,rfl,.inr ⟨SqT.of h1,o1 _ H1 (.refl H1) ⟨a,ws,rfl,h1,h2⟩⟩⟩
  · exact o1.elim⟩
end
section
variable {X:Cx} {apos cpos:Pos} {e o:H_} {es:List H_} {ga:FnA} {fo:FnE}
def Gb (x:Dv):List Dv→Nat→Option Nat
 | [],_=>ck
 | y :: ys,k=>if eqF y x then a_ k else Gb x ys (k + 1)
def Hg:List Dv→List Dv→Option (Rs Dv)
 | xs,[x]=>if jA x && xs.all jA && u_ (xs.length≤100000) then (match Gb x xs 0 with | some j=>a_ (.ok (.int j)) | none=>ck) else ck
 | _,_=>ck
theorem tI {K:f_} {H:Hp} {x:Dv} {u:V} (q:Rep K H x u) (hx:jA x=d_):∀ {xs:List Dv} {vs:List V} {k j:Nat},Reps K H xs vs→xs.all jA=d_→Gb x xs k=a_ j →
 k≤j∧(∃ v,vs[j - k]?=a_ v∧eqV v u=d_)∧∀ (m:Nat) v,m < j - k→vs[m]?=a_ v→eqV v u=e_
 | [],vs,k,j,r,_,h=>by cases h
 | y :: ys,vs,k,j,r,hf,h=>by
  obtain ⟨v,ws,rfl,r1,r2⟩:∃ v us,vs=v :: us∧Rep K H y v∧Reps K H ys us:=r;rw [Nh,pi] at hf;unfold Gb at h;have e1:=yg r1 q hf.1 hx;split at h
  · rename_i hh;cases h;refine ⟨r_ _,⟨v,by simp,by rw [e1]; exact hh⟩,fun m w hm=>by omega⟩
  · rename_i hh;obtain ⟨a,⟨w,b1,b2⟩,c⟩:=tI q hx r2 hf.2 h;refine ⟨by omega,⟨w,?_,b2⟩,fun m z hm hz=>?_⟩
    · have e:j - k=(j - (k + 1)) + 1:=by omega
      rw [e,N1];exact b1
    · cases m with
      | zero =>
       have:z=v:=by simpa using hz.symm
       subst this;rw [e1];simpa using hh
      | succ m=>exact c m z (by omega) (by simpa using hz)
def Dh:V→List V→Hp→VK→Prop:=fun x xs H Q=>∃ a vs y j,x=.ref a∧xs=[y]∧H a=a_ (.lst vs)∧iF y=d_∧vs.all iF=d_∧vs.length≤100000∧(∃ v,vs[j]?=a_ v∧eqV v y=d_)∧(∀ (m:Nat) v,m < j→vs[m]?=a_ v→eqV v y=e_)∧Q (.int j) H
theorem yl {y:V} {vs:List V} {its:List g_} (r:Vals vs its) (f:vs.all iF=d_) {m:Nat} {v:V} (h:vs[m]?=a_ v):∃ hm:m < its.length,eqU y its[m]=eqV v y:=by
 obtain ⟨u,hu,ru⟩:=r.get h;obtain ⟨hm,e⟩:=KQ.mp hu;refine ⟨hm,?_⟩;rw [e];exact sX ru (LF.mp f v (MH h))
theorem wu:MtR X "list.index" Dh:=by
 intro j' s σ H x xs v us Q I rx rs h;obtain ⟨a,vs,y,j,rfl,rfl,h1,fy,fv,hz,⟨w,hw,hit⟩,hno,q⟩:=h;cases rx;obtain ⟨u,rfl,ru⟩:=eR rs;obtain ⟨z,its,n,rv,hl,e⟩:=I.lstM h1;obtain ⟨hj,ej⟩:=yl (y:=y) rv fv hw;refine Nu PK ⟨_,e,rfl⟩ PySem.F.entry_list_index (PySem.F.args_list_index_2 _ _) (SeqAt.list_indexAt a its.toArray n ck #[] u (eqU y) j (by simpa using hj) (by omega) (by simpa [ej] using hit) fun m hm hlt=>?_) ⟨e,fun t ht=>ip ru fy rv fv t (by simpa using ht),⟨.int j,H,I.tok _,⟨_,rfl⟩,q⟩⟩;have hm':m < vs.length:=by rw [rv.length]; simpa using hm
 obtain ⟨hm2,em⟩:=yl (y:=y) rv fv (B_ hm');have:=hno m vs[m] hlt (B_ hm');simpa [em] using this
def fML (g:List Dv→List Dv→Option (Rs Dv)) (fo:FnE) (ga:FnA):FnE:=fun ρ=>bnd (fo ρ) fun x=>match x with
 | .lst i=>bnd (ga ρ) fun xs=>g i xs
 | _=>ck
theorem ww (ho:FE X o fo) (ha:FA X (e :: es) ga)
 (hbase:NP o "index" X.env (eval o X.env)=eval o X.env:=by kernel_rfl)
 (hfew:((Lc cpos (k_ (e :: es) X.env)).all (fun x=>!x.1) && (Nv cpos (Mb [] X.env)).all (fun x=>x.1.isSome)
   && u_ ((e :: es).length + ([]:List No).length + (if ([]:List No).isEmpty then 0 else 1) < 30))=d_:=by kernel_rfl)
 (hline:(apos.endLine == cpos.line)=d_:=by kernel_rfl) (hs:k_ (e :: es) X.env=(e_,eval e X.env) :: k_ es X.env:=by kernel_rfl) (hplain:(Lc cpos (k_ es X.env)).any (·.1)=e_:=by kernel_rfl) :
 FE X (.Call (.Attribute o "index" apos) (e :: es) [] cpos) (fML Hg fo ga) :=
 de (za PM PK PySem.F.type_list_index wu ho.h ha.h hbase hfew hline hs hplain) fun σ H Q ρ E o=>⟨ρ,E,Out.bind o fun d v H1 e1 rd o1=>by
  cases d <;> try exact (show False from o1).elim
  rename_i ds;obtain ⟨a,vs,rfl,h1,h2⟩:=rd.lstE;refine ⟨.inl ⟨rfl,vs,SqL.of h1⟩,ρ,E.mono e1,OutA.bind o1 fun es ws H2 e2 rs o2=>?_⟩;unfold Hg at o2;split at o2
  · rename_i x;split at o2
    · rename_i hc;rw [pi,pi] at hc;split at o2
      · rename_i j hj;obtain ⟨w,rfl,rw'⟩:=dO rs;have h2':=Reps.mono e2 _ _ h2;obtain ⟨c1,c2,c3⟩:=tI rw' hc.1.1 h2' hc.1.2 hj;refine ⟨a,vs,w,j,rfl,rfl,e2 _ _ h1,oR rw' hc.1.1,lQ h2' hc.1.2,by rw [h2.length]; exact of_decide_eq_true hc.2,by simpa using c2,by simpa using c3,o2 _ H2 (.refl H2) rfl⟩
      · exact o2.elim
    · exact o2.elim
  · exact o2.elim⟩
end
structure FG (X:Cx) (tg:H_) (b:Dv→Ev→Option Ev):Prop where
 h:∀ (j':List (l_×Obj)) (s:h_) (σ:L2.St) (H:Hp) (v:V) (u:g_) (d:Dv) (ρ ρ':Ev),Inv X j' σ H s→RelV v u→Rep X.K H d v→Envs X.K H σ ρ→b d ρ=a_ ρ' →
  v_ (F_ X.prog X.w) X.A (M4 tg X.env u) (fun _ s'=>∃ σ' H',Inv X j' σ' H' s'∧Same H H'∧Envs X.K H' σ' ρ') X.xe s
def gN (i:Nat):Dv→Ev→Option Ev:=fun d ρ=>a_ (ρ.set i (a_ d))
def gP (i j:Nat):Dv→Ev→Option Ev:=fun d ρ=>match d with
 | .tup [a,c]=>a_ ((ρ.set i (a_ a)).set j (a_ c))
 | _=>ck
section
variable {X:Cx} {pos p1 p2:Pos}
theorem zF (i:Nat) {x:Str} (hN:X.N.Nodup) (hi:X.N[i]?=a_ x) (hx:Loc X.env.scope x) (hf:X.fn x=d_∨X.env.scope.names.lookup x=a_ .local):FG X (.Name x pos) (gN i) :=
 ⟨fun j' s σ H v u d ρ ρ' I r rd E e=>by
  cases e;exact thn (iE hN hi hx hf j' s σ H v u (fun σ' H'=>H'=H∧σ'=σ.set i (a_ v)) I r ⟨rfl,rfl⟩) fun _ s' ⟨σ',H',I',e1,e2⟩=>by
   subst e1 e2;exact ⟨_,_,I',.refl _,E.set rd⟩⟩
theorem tJ (i j:Nat) {x y:Str} {k:Nat} (hc:X.calm=d_) (hN:X.N.Nodup) (hi:X.N[i]?=a_ x) (hx:Loc X.env.scope x) (hf:X.fn x=d_∨X.env.scope.names.lookup x=a_ .local)
 (hj:X.N[j]?=a_ y) (hy:Loc X.env.scope y) (hg:X.fn y=d_∨X.env.scope.names.lookup y=a_ .local)
 (hs1:(KU [.Name x p1,.Name y p2] X.env).map (·.2)=M4 (.Name x p1) X.env :: (KU [.Name y p2] X.env).map (·.2):=by kernel_rfl) (hs2:(KU [.Name y p2] X.env).map (·.2)=M4 (.Name y p2) X.env :: (KU [] X.env).map (·.2):=by kernel_rfl)
 (hn:(KU [.Name x p1,.Name y p2] X.env).length=2:=by kernel_rfl) (hst:(KU [.Name x p1,.Name y p2] X.env).findIdx? (·.1)=ck:=by kernel_rfl):FG X (.Tuple [.Name x p1,.Name y p2] k pos) (gP i j) :=
 ⟨fun j' s σ H v u d ρ ρ' I r rd E e=>by
  unfold gP at e;split at e
  · rename_i a c;cases e;obtain ⟨ad,xs,rfl,h1,h2⟩:=rd.tupE;obtain ⟨va,vc,rfl,ra,rc⟩:=zt h2;refine thn (xR (n:=2) hc (lI (iE (i:=i) hN hi hx hf) (lI (iE (i:=j) hN hj hy hg) sk hs2) hs1) hn hst j' s σ H _ u (fun σ' H'=>H'=H∧σ'=(σ.set i (a_ va)).set j (a_ vc)) I r ⟨ad,_,rfl,SqT.of h1,rfl,va,[vc],rfl,vc,[],rfl,rfl,rfl,rfl⟩) fun _ s' ⟨σ',H',I',e1,e2⟩=>?_;subst e1 e2;exact ⟨_,_,I',.refl _,(E.set ra).set rc⟩
  · cases e⟩
end
structure WkG (K:f_) (J:It) (ds:List Dv) (H0:Hp):Prop where
 go:∀ i H,Same H0 H→i < ds.length→J.go i H
 stop:∀ H,Same H0 H→J.stop ds.length H
 yld:∀ i H x H',Same H0 H→i < ds.length→J.yld i H x H'→Same H H'∧∃ d,ds[i]?=a_ d∧Rep K H' d x
theorem Wk.toG {K:f_} {J:It} {ds:List Dv} {H0:Hp} (w:Wk K J ds H0):WkG K J ds H0 :=
 ⟨w.go,w.stop,fun i H x H' e hi y=>by
  obtain ⟨rfl,d,h1,h2⟩:=w.yld i H x H' e hi y;exact ⟨.refl _,d,h1,h2⟩⟩
def OutG (X:Cx) (H:Hp) (o:Option (Rs (List Dv))) (R:It→Hp→Prop):Prop:=match o with
 | none=>False
 | some (.exc c)=>XW X c H
 | some (.ok ds)=>∀ J H',Same H H'→WkG X.K J ds H'→R J H'
theorem OutG.mono {X:Cx} {H H':Hp} {R:It→Hp→Prop} (e:Same H H'):∀ {o:Option (Rs (List Dv))},OutG X H o R→OutG X H' o R
 | none,h=>h
 | some (.exc _),h=>XW.mono h e
 | some (.ok _),h=>fun v H1 e1 r=>h v H1 (e.trans e1) r
structure FIG (X:Cx) (tg iter:H_) (f:FnA):Prop where
 h:PI X tg iter fun σ H R=>∃ ρ,Envs X.K H σ ρ∧OutG X H (f ρ) R
theorem FI.toG {X:Cx} {tg iter:H_} {f:FnA} (h:FI X tg iter f):FIG X tg iter f :=
 ⟨fun j' s σ H R I ⟨ρ,E,o⟩=>h.h j' s σ H R I ⟨ρ,E,by
  match hf:f ρ,o with
  | some (.exc c),o=>exact o
  | some (.ok ds),o=>exact fun J H' e w=>o J H' e w.toG⟩⟩
def iy (m:Nat) (cs:List (Str×Nat)) (ρ:Ev):Ev:=y_ m ck ++ cs.map fun c=>(ρ[c.2]?).join
def jZ (b:Dv→Ev→Option Ev) (tst:Option FnB) (elt:FnE) (cap:Ev):List Dv→Option (List Dv)
 | []=>a_ []
 | d :: ds=>match b d cap with
  | none=>ck
  | some ρ=>match (match tst with | none=>(a_ (.ok d_):Option (Rs Bool)) | some t=>t ρ) with
   | some (.ok d_)=>(match elt ρ with
    | some (.ok y)=>(match jZ b tst elt cap ds with | some ys=>a_ (y :: ys) | none=>ck)
    | _=>ck)
   | some (.ok e_)=>jZ b tst elt cap ds
   | _=>ck
def mX (m:Nat) (cs:List (Str×Nat)) (σ:L2.St):L2.St:=y_ m ck ++ cs.map fun c=>(σ[c.2]?).join
theorem mY {α:Type} {m i:Nat} {v:α} {l:List (Option α)} (h:(y_ m (ck:Option α) ++ l)[i]?=a_ (a_ v)):∃ k,i=m + k∧l[k]?=a_ (a_ v):=by
 by_cases hi:i < m
 · rw [L4 (by simpa using hi),N0,if_pos hi] at h;cases h
 · refine ⟨i - m,by omega,?_⟩;rw [LZ (by simpa using hi)] at h;simpa using h
theorem tK {K:f_} {H:Hp} {σ:L2.St} {ρ:Ev} (m:Nat) (cs:List (Str×Nat)) (E:Envs K H σ ρ):Envs K H (mX m cs σ) (iy m cs ρ):=by
 refine ⟨by simp [mX,iy],fun i d h=>?_⟩;obtain ⟨k,rfl,hk⟩:=mY h;rw [La] at hk;cases hc:cs[k]? with
 | none=>rw [hc] at hk; simp at hk
 | some c =>
  rw [hc] at hk;simp only [Nb,Np] at hk;have h2:ρ[c.2]?=a_ (a_ d):=by
   cases q:ρ[c.2]? with
   | none=>rw [q] at hk; simp at hk
   | some o=>rw [q] at hk; simp at hk; rw [hk]
  obtain ⟨v,h3,h4⟩:=E.at' c.2 d h2;refine ⟨v,?_,h4⟩;unfold mX;rw [LZ (by simp)];simp only [Nk,PR,La,hc,Nb,h3];rfl
theorem mZ {prog:rl} {w:C_} {A:E_} {R:QM→h_→Prop} {s:h_} {elt target iter:H_} {ifs:List H_} {scope:L6} {pos:Pos} {it acc:g_} {env:Env} (I:Nat→h_→Prop)
 (turn:∀ n s,I n s→v_ (F_ prog w) A (Pw it) (fun r s₁=>match r with
   | none=>R (.ok .next) s₁
   | some v=>v_ (F_ prog w) A (OJ target it v) (fun _ s₀=>v_ (F_ prog w) A (M4 target env v) (fun _ s₂ =>
    v_ (F_ prog w) A (S2 ifs d_ fun c r=>if r=d_ then do let ok ← isTrue c env (eval c env); pure (Qo ok) else pure (Qo r)) (fun ok s₃ =>
     if ok=d_ then v_ (F_ prog w) A (eval elt env) (fun x s₄ =>
      v_ (F_ prog w) A (call (.builtin "list.append") [acc,x]) (fun _ s₅=>∃ m,m < n∧I m s₅) (P6 (F_ prog w) A env fun e s'=>R (.error e) s') s₄) (P6 (F_ prog w) A env fun e s'=>R (.error e) s') s₃
     else ∃ m,m < n∧I m s₃) (P6 (F_ prog w) A env fun e s'=>R (.error e) s') s₂) (P6 (F_ prog w) A env fun e s'=>R (.error e) s') s₀) (P6 (F_ prog w) A env fun e s'=>R (.error e) s') s₁) (P6 (F_ prog w) A env fun e s'=>R (.error e) s') s)
 (n:Nat) (h:I n s) :
 NC (F_ prog w) A (.compLoop (.ListComp elt [⟨target,iter,ifs,0⟩] scope pos) 0 it acc env) R s:=by
 refine codeAny_loop rfl I (fun n s hI=>?_) n h;show v_ _ A ((compTurn (.ListComp elt [⟨target,iter,ifs,0⟩] scope pos) 0 it acc env).onRaise (fun x=>do noteFrame x env; theTreesLotGoes x)) _ _ s
 refine wpAny_noted ?_;rw [compTurn_list];refine c_ (Ri (c_ (Lf (turn n s hI) (fun r s₁ h₁=>?_) fun _ _ h'=>h')));cases r with
 | none=>exact j_ h₁
 | some v =>
  refine c_ (Lf h₁ (fun _ s₀ h₀=>?_) fun _ _ h'=>h');refine c_ (Lf h₀ (fun _ s₂ h₂=>c_ (Lf h₂ (fun ok s₃ h₃=>?_) fun _ _ h'=>h')) fun _ _ h'=>h');cases ok with
  | false =>
   rw [if_neg xy] at h₃
   first
    | exact c_ (j_ (j_ ⟨rfl,h₃⟩))
    | exact j_ ⟨rfl,h₃⟩
    | (show v_ _ _ (again _) _ _ _; exact j_ ⟨rfl,h₃⟩)
  | true =>
   rw [if_pos rfl] at h₃
   first
    | exact c_ (c_ (Lf h₃ (fun x s₄ h₄=>c_ (Lf h₄ (fun _ s₅ h₅=>j_ (j_ ⟨rfl,h₅⟩)) fun _ _ h'=>h')) fun _ _ h'=>h'))
    | exact c_ (Lf h₃ (fun x s₄ h₄=>c_ (Lf h₄ (fun _ s₅ h₅=>j_ ⟨rfl,h₅⟩) fun _ _ h'=>h')) fun _ _ h'=>h')
def cp (m:Nat) (cs:List (Str×Nat)) (src:FnA) (b:Dv→Ev→Option Ev) (tst:Option FnB) (elt:FnE):FnE:=fun ρ=>bnd (src ρ) fun ds=>match jZ b tst elt (iy m cs ρ) ds with
 | some ys=>if ys.length≤100000∧ds.length≤100000 then a_ (.ok (.lst ys)) else ck
 | none=>ck
theorem Hh {m:Nat} {cs:List (Str×Nat)} {src:FnA} {b:Dv→Ev→Option Ev} {tst:Option FnB} {fe:FnE} {ρ:Ev} {o:Rs Dv} (h:cp m cs src b tst fe ρ=a_ o) :
 (∃ c,src ρ=a_ (.exc c)∧o=.exc c)∨∃ ds ys,src ρ=a_ (.ok ds)∧jZ b tst fe (iy m cs ρ) ds=a_ ys∧ds.length≤100000∧ys.length≤100000∧o=.ok (.lst ys):=by
 unfold cp at h
 match hf:src ρ with
 | none=>rw [hf] at h; cases h
 | some (.exc c)=>rw [hf] at h; cases h; exact .inl ⟨c,rfl,rfl⟩
 | some (.ok ds) =>
  rw [hf] at h;dsimp only [bnd] at h
  match hm:jZ b tst fe (iy m cs ρ) ds with
  | none=>rw [hm] at h; cases h
  | some ys =>
   rw [hm] at h;dsimp only at h;split at h
   · rename_i hl;cases h;exact .inr ⟨ds,ys,rfl,hm,hl.2,hl.1,rfl⟩
   · cases h
theorem Di (cs:List (Str×Nat)) (ρ:Ev) (d:Dv) (ρ':Ev) (h:gN 0 d (iy 1 cs ρ)=a_ ρ'):fgt [0] ρ'=iy 1 cs ρ:=by
 cases h;rfl
theorem Hi (cs:List (Str×Nat)) (ρ:Ev) (d:Dv) (ρ':Ev) (h:gP 0 1 d (iy 2 cs ρ)=a_ ρ'):fgt [0,1] ρ'=iy 2 cs ρ:=by
 unfold gP at h;split at h
 · cases h;rfl
 · cases h
def Ite (K:f_) (a:l_):It :=
 ⟨fun i H=>∃ xs x,SqL K H a xs∧xs[i]?=a_ x,fun i H v H'=>∃ p x,v=.ref p∧H p=ck∧H'=upd H p (.tup [.int i,x])∧∀ xs,SqL K H a xs→xs[i]?=a_ x,fun i H=>∃ xs,SqL K H a xs∧xs.length≤i⟩
theorem tL {P:rl} {w:C_} {K:f_} {es:List H_} {k:Nat} {pos:Pos} (a e it:l_) (hne:e≠it):vX P w K (.Tuple es k pos) (Ite K a) [e,it] e (fun i h=>(∃ old,IsEnum h e it i old)∧h.IsListIter it a i) where
 mem:=by simp
 obj:=fun i h st b hb=>by
  obtain ⟨⟨old,he⟩,o,e2,c,d⟩:=st;have hb':b=e∨b=it:=by simpa using hb
  rcases hb' with rfl | rfl
  · exact ⟨_,he,fun v z=>by cases z⟩
  · exact ⟨o,e2,fun v z=>by rw [d] at z; cases z⟩
 keep:=fun i h h' st kk=>by
  obtain ⟨⟨old,he⟩,st2⟩:=st;exact ⟨⟨old,kk e (by simp) _ he⟩,st2.at fun o ee=>kk it (by simp) o ee⟩
 item:=by
  intro X hP hw hK hc i j' s σ H E I hf st hg;subst hP hw hK;obtain ⟨xs,x,hq,hx⟩:=hg;obtain ⟨its,rv,p,hz⟩:=I.list hq;obtain ⟨u,hu,ru⟩:=rv.get hx;obtain ⟨⟨old,he⟩,st2⟩:=st;obtain ⟨f0,f1,f2,f3,f4,f5⟩:=hf e (by simp);obtain ⟨g0,g1,g2,g3,g4,g5⟩:=hf it (by simp);refine wpAny_pyNext_enum_item he st2 p.isList (x:=u) (by simpa using hu) hne fun h' eo st' tp sz kk=>?_;refine ⟨_,rfl,wpAny_letOwnedTupleGo_enum eo fun h2 he2 sb2=>?_⟩;have hp:H s.heap.objs.size=ck:=I.hok.fresh (r_ _);have elt:e < s.heap.objs.size:=w_ he;have k2:∀ b o,b ∉ [e,it]→s.heap.get? b=a_ o→h2.get? b=a_ o:=fun b o hb q=>sb2.extBut b o (fun z=>hb (by simp [z])) (kk b o (fun z=>hb (by simp [z])) (fun z=>hb (by simp [z])) q);have tp2:h2.get? s.heap.objs.size=a_ { cls:=.type "tuple",data:=.seq #[.int i s.toks,u] }:=sb2.extBut _ _ (M9 elt) tp;have I1:Inv X j' σ (upd H s.heap.objs.size (.tup [.int i,x])) { s with heap:=h2,toks:=s.toks + 1 }:=by
   have nt:∀ b u,H b=a_ u→b ∉ [e,it]:=fun b u q z=>by
    have z':b=e∨b=it:=by simpa using z
    rcases z' with rfl | rfl
    · rw [f0] at q; cases q
    · rw [g0] at q; cases q
   refine I.step (g':=s.gens) (d':=s.drawn) (ch:=[e,it]) (fun b hb=>?_) (fun b o _ _ hcb q _=>k2 b o hcb q) (fun b o _ _ hcb q _=>⟨o.slots,k2 b o hcb q⟩) (fun b o hcb q n=>?_) (fun b o hcb q=>⟨o,k2 b o hcb q⟩)
    (fun b ys q=>by rw [ay (ar q hp)]; exact q) (fun b o ys q=>by rw [ay (ar q hp)]; exact q) (fun b ps q=>⟨#[],by rw [ay (ar q hp),q]; simp⟩) (fun m hm=>?_) (fun b u2 q=>?_) I.bare
   · have z':b=e∨b=it:=by simpa using hb
     rcases z' with rfl | rfl
     · exact ⟨f3,f1,f4,f5⟩
     · exact ⟨g3,g1,g4,g5⟩
   · rw [ay (KP (w_ q))]; exact n
   · obtain ⟨o,es',ep,ho,r⟩:=hm;exact ⟨o,es',ep,k2 _ o (fun z=>by
      have z':X.env.locals=e∨X.env.locals=it:=by simpa using z
      rcases z' with z' | z'
      · exact f1 z'.symm
      · exact g1 z'.symm) ho,r⟩
   · by_cases hb:b=s.heap.objs.size
     · subst hb;rw [ax] at q;cases q;exact ⟨by show 2≤sizeLine; decide,[.int i s.toks,u],.cons ⟨_,rfl⟩ (.cons ru .nil),⟨_,tp2,rfl,_,rfl⟩⟩
     · rw [ay hb] at q;refine (I.hok b u2 q).stay (fun c v hcv qq=>k2 c v ?_ qq) (fun c qq=>by rw [ay (ar qq hp)]; exact qq) fun c ys qq=>by rw [ay (ar qq hp)]; exact qq
       rcases hcv with rfl | hcv
       · exact nt _ _ q
       · exact nt _ _ hcv
  refine ⟨.ref s.heap.objs.size,_,I1,rfl,⟨_,x,rfl,hp,rfl,fun zs hy=>by rw [I.list_inj hy hq]; exact hx⟩,⟨⟨_,by simpa using he2⟩,?_⟩,fun b hb=>?_⟩
  · exact st'.at fun o q=>sb2.extBut _ _ (Oh hne) q
  · have z':b=e∨b=it:=by simpa using hb
    rcases z' with rfl | rfl
    · rw [ay (KP elt)]; exact f0
    · obtain ⟨o,q,_⟩:=id st2;rw [ay (KP (w_ q))]; exact g0
 done:=by
  intro X hP hw hK hc i j' s σ H E I hf st hg;subst hP hw hK;obtain ⟨xs,hq,hx⟩:=hg;obtain ⟨its,rv,p,hz⟩:=I.list hq;obtain ⟨⟨old,he⟩,st2⟩:=st;obtain ⟨g0,g1,g2,g3,g4,g5⟩:=hf it (by simp);have hl:=rv.length;exact wpAny_pyNext_enum_end (I.ok.hd hc) he st2 p.isList (by simp; omega) fun h' eb=>⟨rfl,I.turned (t':=s.toks) (fun b o hb e=>eb b o hb e) g0 g1 g3 g4 g5⟩
 self:=fun _ _ _ _ _ st h=>by
  obtain ⟨⟨old,he⟩,_⟩:=st;exact wpAny_pyIter_enum he h
def jC:Nat→List Dv→List Dv
 | _,[]=>[]
 | k,d :: ds=>.tup [.int k,d] :: jC (k + 1) ds
theorem gW:∀ (ds:List Dv) (k:Nat),(jC k ds).length=ds.length
 | [],_=>rfl
 | d :: ds,k=>by show (jC (k + 1) ds).length + 1=ds.length + 1; rw [gW]
theorem m7:∀ (ds:List Dv) (k i:Nat) (d:Dv),ds[i]?=a_ d→(jC k ds)[i]?=a_ (.tup [.int ((k + i:Nat):Int),d])
 | [],_,_,_,h=>by simp at h
 | d :: ds,k,0,d',h=>by simp at h; subst h; rfl
 | d :: ds,k,i + 1,d',h=>by
  have q:=m7 ds (k + 1) i d' (by simpa using h);show (Dv.tup [.int k,d] :: jC (k + 1) ds)[i + 1]?=_;rw [N1,q];have e:k + 1 + i=k + (i + 1):=by omega
  rw [e]
theorem zI {K:f_} {H:Hp} {a:l_} {xs:List V} {ds:List Dv} (h:H a=a_ (.lst xs)) (r:Reps K H ds xs):WkG K (Ite K a) (jC 0 ds) H where
 go:=fun i H' e hi=>by
  rw [gW] at hi;have hx:i < xs.length:=by rw [r.length]; exact hi
  exact ⟨xs,xs[i],SqL.of (e _ _ h),by simp [hx]⟩
 stop:=fun H' e=>⟨xs,SqL.of (e _ _ h),by rw [r.length,gW]; exact r_ _⟩
 yld:=fun i H' v H2 e hi y=>by
  obtain ⟨p,x,rfl,hp,rfl,y⟩:=y;obtain ⟨d,h1,h2⟩:=Reps.get (Reps.mono e _ _ r) (y xs (SqL.of (e _ _ h)));have q:=m7 ds 0 i d h1;rw [NG] at q;exact ⟨aE hp _,_,q,⟨p,_,rfl,ax,⟨.int i,[x],rfl,rfl,x,[],rfl,Rep.mono (aE hp _) _ _ h2,rfl⟩⟩⟩
def wx:List Dv→Option (Rs (List Dv))
 | [.lst ds]=>a_ (.ok (jC 0 ds))
 | _=>ck
theorem wz {X:Cx} {es:List H_} {k:Nat} {pt p pos:Pos} {l:H_} {ga:FnA} (hg:Gl X "enumerate") (hm:X.mg "enumerate"=ck) (ha:FA X [l] ga) (hs:k_ [l] X.env=[(e_,eval l X.env)]:=by kernel_rfl):FIG X (.Tuple es k pt) (.Call (.Name "enumerate" p) [l] [] pos) (fun ρ=>bnd (ga ρ) wx):=by
 constructor;intro j' s σ H R I h;obtain ⟨ρ,E,o⟩:=h;have key:OutA X H (ga ρ) fun vs H'=>∃ ds,Reps X.K H' ds vs∧OutG X H' (wx ds) R:=by
  match hf:ga ρ,o with
  | some (.exc c),o=>exact o
  | some (.ok ds),o=>exact fun vs H' e rs=>⟨ds,rs,OutG.mono e o⟩
 refine Call_ (iC I hg hm (show LO "enumerate"=a_ (.type "enumerate") by decide +kernel) (Lz (thn (ha.h pos j' s σ H _ I ⟨ρ,E,key⟩) fun us s1 ⟨vs,H1,I1,r1,ds,rs,q1⟩=>?_) hs rfl));unfold wx at q1;split at q1
 · rename_i xs;obtain ⟨v,rfl,rv⟩:=dO rs;obtain ⟨a,ws,rfl,h1,h2⟩:=rv.lstE;obtain ⟨u,rfl,ru⟩:=eR r1;cases ru;obtain ⟨its,rv',pl,hz⟩:=I1.list (SqL.of h1);refine call_enumerate_list pl.isList fun h' he hit hsz kk=>?_;refine wpAny_pyIter_enum he ?_;have I2:Inv X j' σ H1 { s1 with heap:=h' }:=I1.kept (t':=s1.toks) kk;refine ⟨s1.heap.objs.size + 1,[s1.heap.objs.size + 1,s1.heap.objs.size],_,Ite X.K a,H1,rfl,I2,tL a _ _ (Nat.succ_ne_self _),⟨⟨_,he⟩,hit⟩,fun b hb=>?_,q1 _ H1 (.refl H1) (zI h1 h2)⟩;have hb':b=s1.heap.objs.size + 1∨b=s1.heap.objs.size:=by simpa using hb
   rcases hb' with rfl | rfl
   · exact I1.fpOk (Nz _) (I1.hok.fresh (Nz _))
   · exact I1.fpOk (r_ _) (I1.hok.fresh (r_ _))
 · exact q1.elim
def Hj:List Nat→List V→L2.St→L2.St
 | i :: is,v :: vs,σ=>Hj is vs (σ.set i (a_ v))
 | _,_,σ=>σ
def Gc:List Nat→List Dv→Ev→Ev
 | i :: is,d :: ds,ρ=>Gc is ds (ρ.set i (a_ d))
 | _,_,ρ=>ρ
def zJ (is:List Nat):TGs:=fun vs σ H Q=>vs.length=is.length∧Q (Hj is vs σ) H
section
variable {X:Cx} {pos p1:Pos}
theorem pZ {ts:List H_} {t t':TGs} (h:PGs X ts t) (w:∀ vs σ H Q,t' vs σ H Q→t vs σ H Q):PGs X ts t' :=
 fun j' s σ H vs us Q I r q=>h j' s σ H vs us Q I r (w vs σ H Q q)
theorem Dj:PGs X [] (zJ []):=pZ sk fun vs σ H Q ⟨l,q⟩=>by
 cases vs with
 | nil=>exact ⟨rfl,q⟩
 | cons v r=>cases l
theorem zK (i:Nat) {x:Str} {is:List Nat} {es:List H_} (hN:X.N.Nodup) (hi:X.N[i]?=a_ x) (hx:Loc X.env.scope x) (hf:X.fn x=d_∨X.env.scope.names.lookup x=a_ .local) (h:PGs X es (zJ is))
 (hs:(KU (.Name x p1 :: es) X.env).map (·.2)=M4 (.Name x p1) X.env :: (KU es X.env).map (·.2):=by kernel_rfl):PGs X (.Name x p1 :: es) (zJ (i :: is)) :=
 pZ (lI (iE (i:=i) hN hi hx hf) h hs) fun vs σ H Q ⟨l,q⟩=>by
  cases vs with
  | nil=>cases l
  | cons v r=>exact ⟨v,r,rfl,(⟨Nat.succ.inj l,q⟩:zJ is r (σ.set i (a_ v)) H Q)⟩
theorem Envs.setAll {K:f_} {H:Hp}:∀ (is:List Nat) {ds:List Dv} {vs:List V} {σ:L2.St} {ρ:Ev},Envs K H σ ρ→Reps K H ds vs→Envs K H (Hj is vs σ) (Gc is ds ρ)
 | [],_,_,_,_,E,_=>E
 | _ :: _,[],vs,_,_,E,r=>by cases (show vs=[] from r); exact E
 | i :: is,d :: ds,vs,σ,ρ,E,r=>by
  obtain ⟨v,us,rfl,h,t⟩:∃ v us,vs=v :: us∧Rep K H d v∧Reps K H ds us:=r;exact Envs.setAll is (E.set h) t
def Kb (is:List Nat) (ρ:Ev):Dv→Option Fl
 | .tup ds=>if ds.length=is.length then a_ (.nx (Gc is ds ρ)) else ck
 | _=>ck
def Dk (is:List Nat) (f:FnE):FnS:=fun ρ=>bV (f ρ) (Kb is ρ)
theorem Dl {es:List H_} {k:Nat} {e:H_} {fa:FnE} {is:List Nat} (hc:X.calm=d_) (h:PGs X es (zJ is)) (he:FE X e fa)
 (hn:(KU es X.env).length=is.length:=by kernel_rfl) (hst:(KU es X.env).findIdx? (·.1)=ck:=by kernel_rfl)
 (hs:Rl [.Tuple es k p1] e pos.line X.env=pure e_:=by kernel_rfl) (hw:Rm [.Tuple es k p1] e X.env=pure ck:=by kernel_rfl)
 (h1:(KU [.Tuple es k p1] X.env).map (·.2)=[M4 (.Tuple es k p1) X.env]:=by kernel_rfl):FS X (.Assign [.Tuple es k p1] e pos) (Dk is fa) :=
 oN (xS he.h (xR (n:=is.length) hc h hn hst) hs hw h1) fun D σ H ρ E o=>⟨ρ,E,Out.bindS o fun d v H1 e r o1=>by
  cases d with
  | tup ds =>
   have o2:OutS X H1 (if ds.length=is.length then a_ (.nx (Gc is ds ρ)) else ck) D:=o1;by_cases hl:ds.length=is.length
   · rw [if_pos hl] at o2;obtain ⟨a,xs,rfl,h1,h2⟩:=r.tupE;exact ⟨a,xs,rfl,SqT.of h1,h2.length.trans hl,h2.length.trans hl,o2 _ H1 (.refl H1) (Envs.setAll is (E.mono e) h2)⟩
   · rw [if_neg hl] at o2;exact o2.elim
  | _=>exact o1.elim⟩
end
theorem ao {a b:FnS} {ρ ρ':Ev} (h:a ρ=a_ (.nx ρ')):av a b ρ=b ρ':=by
 unfold av; rw [h]; rfl
theorem lV {a b:FnS} {ρ:Ev} {d:Dv} (h:a ρ=a_ (.rt d)):av a b ρ=a_ (.rt d):=by
 unfold av; rw [h]; rfl
theorem bL {c:FnB} {f:FnS} {ρ:Ev} (h:c ρ=a_ (.ok e_)):aR c f (fun ρ=>a_ (.nx ρ)) ρ=a_ (.nx ρ):=by
 unfold aR; rw [h]; rfl
theorem aW {i:Nat} {v:FnE} {ρ ρ':Ev} {d:Dv} (h:v ρ=a_ (.ok d)) (e:ρ.set i (a_ d)=ρ'):bc i v ρ=a_ (.nx ρ'):=by
 unfold bc; rw [h,← e]; rfl
theorem p4 {v:FnE} {ρ:Ev} {d:Dv} (h:v ρ=a_ (.ok d)):aS v ρ=a_ (.nx ρ):=by
 unfold aS; rw [h]; rfl
theorem cP {v:FnE} {ρ:Ev} {d:Dv} (h:v ρ=a_ (.ok d)):aA v ρ=a_ (.rt d):=by
 unfold aA; rw [h]; rfl
theorem wC {a b:FnB} {ρ:Ev} (h:a ρ=a_ (.ok e_)):bOr a b ρ=b ρ:=by unfold bOr; rw [h]; rfl
theorem ym {a b:FnB} {ρ:Ev} (h:a ρ=a_ (.ok d_)):cM a b ρ=b ρ:=by unfold cM; rw [h]; rfl
theorem yn {a b:FnB} {ρ:Ev} (h:a ρ=a_ (.ok e_)):cM a b ρ=a_ (.ok e_):=by unfold cM; rw [h]; rfl
theorem oW {a:FnB} {ρ:Ev} {k:Bool} (h:a ρ=a_ (.ok k)):br a ρ=a_ (.ok (!k)):=by unfold br; rw [h]; rfl
theorem bU {f:FnE} {ρ:Ev} {k:Bool} (h:f ρ=a_ (.ok (.bl k))):fB f ρ=a_ (.ok k):=by unfold fB; rw [h]; rfl
theorem bf {g:Dv→Dv→Option (Rs Dv)} {f h:FnE} {ρ:Ev} {x y:Dv} (hf:f ρ=a_ (.ok x)) (hh:h ρ=a_ (.ok y)):f2 g f h ρ=g x y:=by unfold f2; rw [hf,hh]; rfl
theorem aj {f:FnE} {g:FnA} {ρ:Ev} {x:Dv} {xs:List Dv} (h:f ρ=a_ (.ok x)) (t:g ρ=a_ (.ok xs)):ac f g ρ=a_ (.ok (x :: xs)):=by unfold ac; rw [h,t]; rfl
theorem aB {ρ:Ev}:ah ρ=a_ (.ok []):=rfl
theorem j8 {F:List Dv→Option (Rs Dv)} {n:Nat} {g:FnA} {ρ:Ev} {ds:List Dv} {d:Dv} (h:g ρ=a_ (.ok ds)) (hl:ds.length=n) (hF:F ds=a_ (.ok d)):ag F n g ρ=a_ (.ok d):=by
 unfold ag; rw [h];show (if _ then _ else _)=_;rw [if_pos hl,hF]
theorem fR (F:List Dv→Option (Rs Dv)) {f:FnE} {ρ:Ev} {a d:Dv} (h:f ρ=a_ (.ok a)) (hF:F [a]=a_ (.ok d)):ag F 1 (ac f ah) ρ=a_ (.ok d):=j8 (aj h aB) rfl hF
theorem fA (F:List Dv→Option (Rs Dv)) {f g:FnE} {ρ:Ev} {a b d:Dv} (h:f ρ=a_ (.ok a)) (h':g ρ=a_ (.ok b)) (hF:F [a,b]=a_ (.ok d)):ag F 2 (ac f (ac g ah)) ρ=a_ (.ok d):=j8 (aj h (aj h' aB)) rfl hF
theorem oX {g:FnA} {ρ:Ev} {ds:List Dv} (h:g ρ=a_ (.ok ds)) (hl:ds.length≤100000):cx g ρ=a_ (.ok (.tup ds)):=by
 unfold cx; rw [h];show (if _ then _ else _)=_;rw [if_pos hl]
theorem yo {f g:FnE} {ρ:Ev} (h:f ρ=a_ (.ok (.bl d_))):c0 f g ρ=g ρ:=by unfold c0; rw [h]; rfl
theorem dD {g:List Dv→Option (Rs Dv)} {a:FnA} {ρ:Ev} {ds:List Dv} (h:a ρ=a_ (.ok ds)):fB1 g a ρ=g ds:=by unfold fB1; rw [h]; rfl
theorem Hk {g:Dv→Option (Rs Dv)} {f:FnE} {ρ:Ev} {x:Dv} (h:f ρ=a_ (.ok x)):f1 g f ρ=g x:=by unfold f1; rw [h]; rfl
theorem Hl {c:FnB} {f g:FnE} {ρ:Ev} (h:c ρ=a_ (.ok d_)):fIf c f g ρ=f ρ:=by unfold fIf; rw [h]; rfl
theorem Hm {c:FnB} {f g:FnE} {ρ:Ev} (h:c ρ=a_ (.ok e_)):fIf c f g ρ=g ρ:=by unfold fIf; rw [h]; rfl
theorem jE {g:FnA} {ρ:Ev} {ds:List Dv} (h:g ρ=a_ (.ok ds)) (hl:ds.length≤100000):bJ g ρ=a_ (.ok (.lst ds)):=by
 unfold bJ; rw [h];show (if _ then _ else _)=_;rw [if_pos hl]
theorem fT {n:Nat} {B:FnS} {ds:List Dv} {d:Dv} (h:B (ds.map a_ ++ y_ (n - ds.length) ck)=a_ (.rt d)):bu n B ds=a_ (.ok d):=by
 unfold bu; rw [h]
section
variable {prog:rl} {w:C_} {A:E_} {E:g_→h_→Prop}
end
section
variable {X:Cx} {pos p1:Pos}
end
structure Aft (X:Cx) (e:l_) (Ts:List l_) (h h':KO):Prop where
 keep:∀ b o,h.get? b=a_ o→b≠e→b ∉ Ts→b ∉ frs X.stack→h'.get? b=a_ o
 slot:∀ b o,h.get? b=a_ o→b∈frs X.stack→∃ sl,h'.get? b=a_ { o with slots:=sl }
section
variable {X:Cx} {j':List (l_×Obj)} {σ:L2.St} {H:Hp} {s:h_} {e:l_} {Ts:List l_} {h':KO}
theorem Aft.any {h:KO} (A:Aft X e Ts h h') {b:l_} {o:Obj} (q:h.get? b=a_ o) (n1:b≠e) (n2:b ∉ Ts):∃ sl,h'.get? b=a_ { o with slots:=sl }:=by
 by_cases hb:b∈frs X.stack
 · exact A.slot b o q hb
 · exact ⟨o.slots,A.keep b o q n1 n2 hb⟩
theorem Inv.aft (I:Inv X j' σ H s) (A:Aft X e Ts s.heap h') (hex:X.ex=[]) (hf:∀ b,b=e∨b∈Ts→H b=ck∧X.s₀.heap.get? b=ck∧(∀ p∈X.pn ++ j',p.1≠b)∧∃ o vs,s.heap.get? b=a_ o∧o.data=.fields vs) :
 Inv X j' σ H { s with heap:=h' }:=by
 have nE:∀ b,H b≠ck→b≠e∧b ∉ Ts:=fun b hb=>⟨fun z=>hb (hf b (.inl z)).1,fun z=>hb (hf b (.inr z)).1⟩;have n0:∀ b o,X.s₀.heap.get? b=a_ o→b≠e∧b ∉ Ts:=fun b o hb=>⟨fun z=>(by simp:(a_ o:Option Obj)≠ck) (hb.symm.trans (hf b (.inl z)).2.1),fun z=>(by simp:(a_ o:Option Obj)≠ck) (hb.symm.trans (hf b (.inr z)).2.1)⟩;have nx:∀ b,b ∉ X.ex:=fun b=>by rw [hex]; simp
 have nD:∀ b o,s.heap.get? b=a_ o→(∀ vs,o.data≠.fields vs)→b≠e∧b ∉ Ts:=fun b o hb hd =>
  have go:(b=e∨b∈Ts)→False:=fun z=>by
   obtain ⟨o',vs,q,d⟩:=(hf b z).2.2.2;rw [hb] at q;cases q;exact hd vs d
  ⟨fun z=>go (.inl z),fun z=>go (.inr z)⟩
 have nS:∀ b∈frs X.stack,H b=ck:=I.stkFree;have cellK:∀ c v,s.heap.IsCell c v→h'.IsCell c v:=fun c v ⟨o,ho,hd⟩=>by
  obtain ⟨n1,n2⟩:=nD c o ho fun vs q=>by rw [hd] at q; cases q
  obtain ⟨sl,q⟩:=A.any ho n1 n2;exact ⟨_,q,hd⟩
 refine ⟨I.ok,I.os,I.bare,⟨fun b o q n hb hx=>?_,fun b o q n hb hx=>?_,I.base.free,fun b o q hx=>?_,I.base.tups,I.base.frzs,I.base.tbls⟩,?_,fun x c q=>?_,I.free,I.freeC,fun p hp=>?_,fun a o q=>?_,I.len⟩
 · have h1:=I.base.keep b o q n hb hx;obtain ⟨n1,n2⟩:=n0 b o q;refine A.keep b o h1 n1 n2 fun z=>?_;rcases s_.mp (I.stkSub b z) with z | z
   · exact absurd z (KP (J_ (w_ q) I.ok.above))
   · exact hb z
 · obtain ⟨sl,h1⟩:=I.base.slot b o q n hb hx;obtain ⟨n1,n2⟩:=n0 b o q;obtain ⟨sl',h2⟩:=A.any h1 n1 n2;exact ⟨sl',h2⟩
 · obtain ⟨o',h1⟩:=I.base.there b o q hx;obtain ⟨n1,n2⟩:=n0 b o q;obtain ⟨sl,h2⟩:=A.any h1 n1 n2;exact ⟨_,h2⟩
 · obtain ⟨m,⟨o,es,ep,ho,hd,r⟩,hl⟩:=I.loc;obtain ⟨n1,n2⟩:=nD _ o ho fun vs q=>by rw [hd] at q; cases q
   obtain ⟨sl,q⟩:=A.any ho n1 n2;refine ⟨m,⟨_,es,ep,q,hd,r⟩,fun i x v e1 e2 e3=>?_⟩;obtain ⟨u,ru,l⟩:=hl i x v e1 e2 e3;refine ⟨u,ru,?_⟩;rcases l with l | ⟨k,c,ec,z⟩
   · exact .inl l
   · exact .inr ⟨k,c,ec,cellK c _ z⟩
 · obtain ⟨v,z⟩:=I.cell x c q;exact ⟨v,cellK c v z⟩
 · obtain ⟨q,n,ne,nf,d⟩:=I.pin p hp;have n1:p.1≠e:=(hf e (.inl rfl)).2.2.1 p hp;have n2:p.1 ∉ Ts:=fun z=>(hf p.1 (.inr z)).2.2.1 p hp rfl;refine ⟨A.keep p.1 p.2 q n1 n2 fun z=>?_,n,ne,nf,d⟩;rcases s_.mp (I.stkSub _ z) with z | z
   · exact ne z
   · exact nf z
 · refine (I.hok a o q).stay (fun b u hb hu=>?_) (fun _ z=>z) fun _ _ z=>z;have hn:H b≠ck:=by
    rcases hb with rfl | hb
    · rw [q]; simp
    · rw [hb]; simp
   exact A.keep b u hu (nE b hn).1 (nE b hn).2 fun z=>hn (nS b z)
abbrev hid (X:Cx) (e:l_) (Ts:List l_) (h:KO):KO:=Ss h (e :: (Ts ++ frs X.stack))
theorem yp (I:Inv X j' σ H s) (k:(hid X e Ts s.heap).StaysIn h') (u:∀ b o,s.heap.get? b=a_ o→(∀ vs,o.data≠.fields vs)→∃ sl,h'.get? b=a_ { o with slots:=sl }):Aft X e Ts s.heap h' :=
 ⟨fun b o q n1 n2 n3=>k b o (OS _ q (by simp only [s_,D_]; rintro (z | z | z); exact n1 z; exact n2 z; exact n3 z)),fun b o q hb=>by
  obtain ⟨_,o',q',d⟩:=I.stack.mem hb;rw [q] at q';cases q';exact u b o q d⟩
theorem tM (I:Inv X j' σ H s):s.heap.FunFrames (hid X e Ts s.heap) X.stack :=
 PySem.W.funFrames_hide I.stack fun env he a hfa=>n_ _ (m_ _ (Pl.mpr ⟨env,he,hfa⟩))
end
section
variable {X:Cx} {j':List (l_×Obj)} {σ:L2.St} {H:Hp} {s:h_} {e:l_} {cls:g_}
theorem Fly.imp {N N':l_→Prop} {h:KO} (F:Fly N H e cls h) (k:∀ a,N a→N' a):Fly N' H e cls h:=by
 obtain ⟨h1,h2,oe,vs,a0,q1,q2,q3,q4,q5⟩:=F;refine ⟨h1,k _ h2,oe,vs,a0,q1,q2,q3,q4,?_⟩;rcases q5 with q5 | ⟨T,oT,ts,r1,r2,r3,r4,r5⟩
 · exact .inl q5
 · exact .inr ⟨T,oT,ts,r1,r2,r3,k _ r4,r5⟩
theorem yq {h':KO} {Ts:List l_} (I:Inv X j' σ H s) (hex:X.ex=[]) (he:H e=ck∧X.s₀.heap.get? e=ck) (hT:∀ T∈Ts,H T=ck∧X.s₀.heap.get? T=ck) (ff:h'.FunFrames (hid X e Ts s.heap) X.stack)
 {T:l_} {oT:Obj} {ts:Array g_} (hn:(hid X e Ts s.heap).get? T=ck) (ne:T≠e) (hg:h'.get? T=a_ oT) (hd:oT.data=.fields ts):H T=ck∧X.s₀.heap.get? T=ck:=by
 have nf:T ∉ frs X.stack:=fun z=>by
  obtain ⟨_,o,q,d⟩:=ff.mem z;rw [hg] at q;cases q;exact d ts hd
 have out:T∈Ts∨s.heap.get? T=ck:=by
  cases q:s.heap.get? T with
  | none=>exact .inr rfl
  | some o =>
   by_cases hm:T∈Ts
   · exact .inl hm
   · have:=OS (e :: (Ts ++ frs X.stack)) q (by simp only [s_,D_]; rintro (z | z | z); exact ne z; exact hm z; exact nf z);rw [hn] at this;cases this
 rcases out with hm | hm
 · exact hT T hm
 · constructor
   · cases q:H T with
     | none=>rfl
     | some u =>
      have hk:=I.hok T u q;exfalso;have:∃ o,s.heap.get? T=a_ o:=by
       clear q
       induction u with
       | lst xs=>obtain ⟨_,_,_,_,z⟩:=hk; exact ⟨_,z⟩
       | tup xs=>obtain ⟨_,_,_,o,z,_⟩:=hk; exact ⟨_,z⟩
       | dK kvs=>obtain ⟨_,_,_,_,o,_,_,z,_⟩:=hk; exact ⟨_,z⟩
       | dT kvs=>obtain ⟨_,_,_,_,o,_,_,z,_⟩:=hk; exact ⟨_,z⟩
       | set S n=>obtain ⟨o,_,_,_,z,_⟩:=hk; exact ⟨_,z⟩
       | ins C dx fs=>obtain ⟨_,_,_,z,_⟩:=hk; exact ⟨_,z⟩
       | own y=>obtain ⟨_,z⟩:=hk; exact ⟨_,z⟩
       | xd fs=>obtain ⟨_,⟨_,_,_,z,_⟩,_⟩:=hk; exact ⟨_,z⟩
       | rng lo hi=>obtain ⟨_,_,_,z⟩:=hk; exact ⟨_,z⟩
       | frz ob u ih=>obtain ⟨z,_⟩:=hk; exact ⟨_,z⟩
       | tbl ps=>obtain ⟨_,z,_⟩:=hk; exact ⟨_,z⟩
       | met f y=>exact ⟨_,(show s.heap.get? T=a_ _ from hk)⟩
       | ext φ=>obtain ⟨_,⟨_,z⟩,_⟩:=hk; exact ⟨_,z⟩
      obtain ⟨o,z⟩:=this;rw [hm] at z;cases z
   · cases q:X.s₀.heap.get? T with
     | none=>rfl
     | some o =>
      obtain ⟨o',z⟩:=I.base.there T o q (by rw [hex]; simp);rw [hm] at z;cases z
theorem tN (I:Inv X j' σ H s) (hex:X.ex=[]) (hst:X.stack=X.env :: X.outer) (hfm:X.env.frame=a_ X.env.locals) (F:Fly (fun a=>X.s₀.heap.get? a=ck) H e cls s.heap)
 {Q:Unit→h_→Prop} {E:g_→h_→Prop} (k:∀ h' Ts,Fly (fun a=>X.s₀.heap.get? a=ck) H e cls h'→Aft X e Ts s.heap h'→(∀ b,b=e∨b∈Ts→H b=ck∧X.s₀.heap.get? b=ck∧∃ o vs,s.heap.get? b=a_ o∧o.data=.fields vs)→Q () { s with heap:=h' }) :
 v_ (F_ X.prog X.w) X.A (leaving X.env (.ref e)) Q E s:=by
 obtain ⟨f1,f2,oe,vs,a0,q1,q2,q3,q4,q5⟩:=F;have hfr:X.A.frames=a_ (X.env :: X.outer):=hst ▸ I.ok.frames;subst q2;rcases q5 with q5 | ⟨T,oT,ts,r1,r2,r3,r4,r5,r6,r7⟩
 · have b3:s.heap.FunFrames (hid X e [] s.heap) (X.env :: X.outer):=hst ▸ tM I;refine wpAny_leaving_firstW (base:=hid X e [] s.heap) hfr b3 hfm q1 (fun b o z=>O7 _ z) (Nw _ (on ..)) q3 q5 q4 fun h' hL=>?_;obtain ⟨k1,k2,⟨oe',vs',T,oT,ts,t1,⟨t2,t3⟩,t4,t5,t6,t7,t8,t9,t10⟩,k4⟩:=hL;have k2':h'.FunFrames (hid X e [] s.heap) X.stack:=hst ▸ k2;have nT:=yq I hex ⟨f1,f2⟩ (fun _ z=>absurd z (by simp)) k2' t6 t7 t8 t9;refine k h' [] ⟨f1,f2,oe',vs',a0,t1,t2,t4,t3,.inr ⟨T,oT,ts,t5,t7,nT.1,nT.2,t8,t9,t10⟩⟩ (yp I k1 k4) fun b hb=>?_;rcases hb with rfl | hb
   · exact ⟨f1,f2,oe,vs,q1,q3⟩
   · cases hb
 · have b3:s.heap.FunFrames (hid X e [T] s.heap) (X.env :: X.outer):=hst ▸ tM I;have ht:s.heap.TracedW (hid X e [T] s.heap) e oe.cls a0:=⟨oe,vs,T,oT,ts,q1,⟨rfl,q4⟩,q3,r1,Nw _ (by simp),r2,r5,r6,r7⟩;refine wpAny_leaving_nextW (base:=hid X e [T] s.heap) hfr b3 hfm ht (fun b o z=>O7 _ z) (Nw _ (on ..)) fun h' hL=>?_;obtain ⟨k1,k2,⟨oe',vs',T',oT',ts',t1,⟨t2,t3⟩,t4,t5,t6,t7,t8,t9,t10⟩,k4⟩:=hL;have k2':h'.FunFrames (hid X e [T] s.heap) X.stack:=hst ▸ k2;have nT:=yq I hex ⟨f1,f2⟩ (fun T0 z=>by simp at z; subst z; exact ⟨r3,r4⟩) k2' t6 t7 t8 t9;refine k h' [T] ⟨f1,f2,oe',vs',a0,t1,t2,t4,t3,.inr ⟨T',oT',ts',t5,t7,nT.1,nT.2,t8,t9,t10⟩⟩ (yp I k1 k4) fun b hb=>?_;rcases hb with rfl | hb
   · exact ⟨f1,f2,oe,vs,q1,q3⟩
   · simp at hb;subst hb;exact ⟨r3,r4,oT,ts,r5,r6⟩
end
def CXE (P:rl) (w:C_):CXT:=fun outer H s E ev s'=>∃ e cls H',ev=.ref e∧s'.os=s.os∧OZ s'.gens∧Un (frs outer) [] H H' s.heap s'.heap∧HOk P w H' s'.heap∧Fly (fun a=>s.heap.get? a=ck) H' e cls s'.heap∧E cls ck H'
def spE (K:f_) (F:List Dv→Option (Rs Dv)) (n:Nat):Sp:=fun vs H Q E=>∃ ds,Reps K H ds vs∧ds.length=n∧match F ds with
 | some (.ok d)=>∀ v H',Same H H'→Rep K H' d v→Q v H'
 | some (.exc c)=>∀ C H',L9 K z_ (xnm c)=a_ (a_ (.ref C))→Same H H'→E (.ref C) ck H'
 | none=>False
def EX (X:Cx):XK:=fun cv _ H1=>∃ c C,cv=.ref C∧L9 X.K z_ (xnm c)=a_ (a_ (.ref C))∧XW X c H1
theorem Do {X:Cx} (hex:X.ex=[]):mH (CXE X.prog X.w) X (EX X):=by
 intro j' σ H s ev s' I ⟨e,cls,H',he,os,bare,un,hok,F,c,C,hcv,hC,hx⟩;have I':Inv X j' σ H' s':=I.call' (ch:=[]) os un hok bare fun b z=>absurd z (by simp);refine hx j' σ H' s' ev (fun _ _ z=>z) I' ⟨e,C,he,hC,hcv ▸ F.imp fun a ha=>⟨?_,fun p hp z=>?_⟩⟩
 · cases q:X.s₀.heap.get? a with
   | none=>rfl
   | some o =>
    obtain ⟨o',z⟩:=I.base.there a o q (by rw [hex]; simp);rw [ha] at z;cases z
 · have:=(I.pin p (G_ _ hp)).1;rw [z,ha] at this;cases this
def am (F:List Dv→Option (Rs Dv)) (n:Nat) (g:FnA):FnE:=fun ρ=>bnd (g ρ) fun ds=>if ds.length=n then F ds else ck
def Dr (P:rl) (w:C_) (K:f_) (mg:Str→Option g_) (base:KO) (x:Str) (k:Nat) (ps:List Str) (F:List Dv→Option (Rs Dv)):Prop :=
 ∃ f fd,FnOk P w K mg base (CXE P w) k f fd ps (spE K F ps.length)∧mg x=a_ (.ref f)∧LK K (.ref f)=d_∧Binds K fd ps []
section
variable {X:Cx} {k n:Nat} {ps:List Str} {x:Str} {p pos:Pos} {e:H_} {es:List H_} {F:List Dv→Option (Rs Dv)} {g:FnA}
theorem wD {k':Nat} (k:Nat) (ps:List Str) (F:List Dv→Option (Rs Dv)) (h:Dr X.prog X.w X.K X.mg X.base x k ps F) (hr:Room k' X.A) (hk:k≤k') (hex:X.ex=[]) (hg:Gl X x) (ha:FA X (e :: es) g) (hn:n=ps.length:=by kernel_rfl) (hdb:(x == ("__debug__":Str))=e_:=by kernel_rfl)
 (he:k_ (e :: es) X.env=(e_,eval e X.env) :: k_ es X.env:=by kernel_rfl) (hpl:(Lc pos (k_ es X.env)).any (·.1)=e_:=by kernel_rfl) :
 FE X (.Call (.Name x p) (e :: es) [] pos) (am F n g):=by
 subst hn;obtain ⟨f,fd,G,hm,hkp,hb⟩:=h;refine de (lJ (G.mono hk) hr hg hm hkp hb .nil (Do hex) ha.h hdb he hpl) fun σ H Q ρ E o=>⟨ρ,E,OutA.bind o fun ds vs H' e rs o1=>?_⟩;show spE X.K F ps.length (vs ++ []) H' Q (EX X);rw [LD];by_cases hl:ds.length=ps.length
 · rw [if_pos hl] at o1;refine ⟨ds,rs,hl,?_⟩
   match hF:F ds with
   | none=>rw [hF] at o1; exact o1.elim
   | some (.ok d)=>rw [hF] at o1; exact o1
   | some (.exc c)=>rw [hF] at o1; exact fun C H1 hC e1=>⟨c,C,rfl,hC,XW.mono o1 e1⟩
 · rw [if_neg hl] at o1;exact o1.elim
end
def eV (m:Nat) (fb:FnS):List Dv→Option (Rs Dv):=fun ds=>match fb (ds.map a_ ++ y_ (m - ds.length) ck) with
 | some (.nx _)=>a_ (.ok .non)
 | some (.rt d)=>a_ (.ok d)
 | some (.exc c)=>a_ (.exc c)
 | none=>ck
theorem Ds {P:rl} {w:C_} {K:f_} {mg:Str→Option g_} {base:KO} {N:List Str} {qual:Str} {scope:L6} {f:l_} {cd:g_} {A:E_} {outer:List Env} {s:h_} {H:Hp} {E:XK} {c:Nat}
 (q:∀ C H',L9 K z_ (xnm c)=a_ (a_ (.ref C))→Same H H'→E (.ref C) ck H'):XW (lK (CXE P w) P w K mg base N qual scope f cd A outer s H E) c H:=by
 intro j' σ H' s1 ev e1 I ⟨e,C,he,hC,F⟩;subst he;have F':Fly (fun a=>s.heap.get? a=ck) H' e (.ref C) s1.heap:=F.imp fun a ha=>ha.1;refine tN I rfl rfl rfl F' fun h' Ts F2 A2 hf=>?_;have I2:=Inv.aft (j':=[]) (I.pins_of (pins':=[]) fun p hp=>nomatch hp) A2 rfl fun b hb=>⟨(hf b hb).1,(hf b hb).2.1,fun p hp=>absurd (show p∈([]:List (l_×Obj)) from hp) (by simp),(hf b hb).2.2⟩;exact ⟨e,.ref C,H',rfl,I.os,I.bare,I2.base,I2.hok,F2,q C H' hC e1⟩
theorem Dt {k:Nat} {f:l_} {fd:Lv} {x:Str} {P:rl} {w:C_} {K:f_} {mg:Str→Option g_} {base:KO} {qual:Str} {st:L3} {F:List Dv→Option (Rs Dv)} {n:Nat} (N ps:List Str) (fb:FnS) (hF:F=eV N.length fb) (hn:n=ps.length)
 (Fn:Fun K x qual st f fd) (S:eU N ps (aI st))
 (hb:∀ (cdv:g_) (A:E_) (outer:List Env) (s:h_) (H:Hp) (E:XK),Room k (A.deeper (M8 qual (aI st) s.heap.objs.size f cdv))→FSs (lK (CXE P w) P w K mg base N qual (aI st) f cdv A outer s H E) (dc st) fb) :
 FnOk P w K mg base (CXE P w) (k + 1) f fd ps (spE K F n):=by
 subst hF hn;obtain ⟨oc,od,kV,doc,pm,an,cdv,ct,osl,rfl,lk,hcd⟩:=Fn.ex;refine v7 lk hcd S (fun vs H Q E h=>?_) fun A outer s H vs Q E hr h=>?_
 · obtain ⟨ds,r,hl,_⟩:=h;rw [r.length,hl]
 · obtain ⟨ds,r,hl,q⟩:=h;refine ⟨_,(hb cdv A outer s H E hr).h,ds.map a_ ++ y_ (N.length - ds.length) ck,fP r,?_⟩;unfold eV at q
   match hf:fb (ds.map a_ ++ y_ (N.length - ds.length) ck) with
   | none=>rw [hf] at q; exact q.elim
   | some (.exc c)=>rw [hf] at q; exact Ds q
   | some (.rt d)=>rw [hf] at q; exact fun v H' e r'=>q v H' e r'
   | some (.nx ρ)=>rw [hf] at q; exact fun σ' H' e _=>q .non H' e rfl
theorem lW {P:rl} {w:C_} {H:Hp} {h:KO} (ok:HOk P w H h) {a:l_} {u:HO} (q:H a=a_ u):∃ o,h.get? a=a_ o:=by
 have hk:=ok a u q;clear q
 induction u with
 | lst xs=>obtain ⟨_,_,_,_,z⟩:=hk; exact ⟨_,z⟩
 | tup xs=>obtain ⟨_,_,_,o,z,_⟩:=hk; exact ⟨_,z⟩
 | dK kvs=>obtain ⟨_,_,_,_,o,_,_,z,_⟩:=hk; exact ⟨_,z⟩
 | dT kvs=>obtain ⟨_,_,_,_,o,_,_,z,_⟩:=hk; exact ⟨_,z⟩
 | set S n=>obtain ⟨o,_,_,_,z,_⟩:=hk; exact ⟨_,z⟩
 | ins C dx fs=>obtain ⟨_,_,_,z,_⟩:=hk; exact ⟨_,z⟩
 | own y=>obtain ⟨_,z⟩:=hk; exact ⟨_,z⟩
 | xd fs=>obtain ⟨_,⟨_,_,_,z,_⟩,_⟩:=hk; exact ⟨_,z⟩
 | rng lo hi=>obtain ⟨_,_,_,z⟩:=hk; exact ⟨_,z⟩
 | frz ob u ih=>obtain ⟨z,_⟩:=hk; exact ⟨_,z⟩
 | tbl ps=>obtain ⟨_,z,_⟩:=hk; exact ⟨_,z⟩
 | met f y=>exact ⟨_,(show h.get? a=a_ _ from hk)⟩
 | ext φ=>obtain ⟨_,⟨_,z⟩,_⟩:=hk; exact ⟨_,z⟩
theorem tP {P:rl} {w:C_} {H:Hp} {h:KO} (ok:HOk P w H h) {a:l_} (n:h.get? a=ck):H a=ck:=by
 cases q:H a with
 | none=>rfl
 | some u =>
  obtain ⟨o,z⟩:=lW ok q;rw [n] at z;cases z
theorem Du {K:f_} {h:KO} {mg:Str→Option g_} {x:Str} {C:l_} {bmB:List g_} {newId:String} (X:K.In h) (hb:mg x=a_ (.ref C)) (q:Ro K C bmB newId=d_):OwnCls x C bmB newId mg h:=by
 constructor
 · exact hb
 unfold Ro at q;split at q
 · rename_i dd cd sl look;split at q
   · rename_i C2 rest s0 s1 s2 s3 nid s5 em es;simp only [pi,beq_iff_eq,L0] at q;have e1:=q.1.1.1.1.1;have e2:=q.1.1.1.1.2;have e3:=q.1.1.1.2;have e4:=q.1.1.2;have e5:=q.1.2;have e6:=q.2;clear q;subst e1 e2;obtain ⟨f1,f2,f3,f4,f5,f6,f7,f8,f9,f10,f11⟩:=cd;dsimp only at em e3 e5 e6;subst em e3;obtain ⟨l⟩:=sl;have e7:l=[s0,s1,s2,s3,a_ (.builtin nid),s5]:=es;subst e7;refine ⟨rest,f4,f1,f5,f2,f6,f7,f8,f9,f10,dd,s0,s1,s2,s3,s5,_,X _ _ look,.of_isNs (PySem.W.isNs_of_in X e5),?_,PySem.W.tail_of_in X e4⟩;exact PySem.W.nsMap_none_of_in X e5 e6
   · cases q
 · cases q
abbrev bmV:List g_:=[.type "ValueError",.type "Exception",.type "BaseException",.type "object"]
structure XC (K:f_) (c:Nat) (C:l_):Prop where
 nm:L9 K z_ (xnm c)=a_ (a_ (.ref C))
 ex:Ro K C bmV "ValueError.__new__"=d_
def aG (c:Nat) (f:FnE):FnS:=fun ρ=>bV (f ρ) fun _=>a_ (.exc c)
section
variable {X:Cx} {a:H_} {fa:FnE} {np cpos pos:Pos} {x:Str} {C:l_}
theorem wE (c:Nat) (K:XC X.K c C) (hx:xnm c=x) (hm:X.mg x=a_ (.ref C)) (hex:X.ex=[]) (hc:X.calm=d_) (hg:Gl X x) (ha:FE X a fa)
 (he:k_ [a] X.env=(e_,eval a X.env) :: k_ [] X.env:=by kernel_rfl) (hdb:(x == ("__debug__":Str))=e_:=by kernel_rfl) :
 FS X (.Raise (a_ (.Call (.Name x np) [a] [] cpos)) ck pos) (aG c fa):=by
 subst hx;constructor;intro j' s σ H D I ⟨ρ,E,o⟩;obtain ⟨tl,N,nm,q,bs,hdct,sn,sub,ab,col,dd,k0,k1,k2,k3,k5,mN,hC,hN,hni,T⟩:=(Du I.ok.mod.kin hm K.ex).obj;refine wpAny_Raise_call_subT (C:=C) (nm:=nm) (q:=q) (N:=N) (bs:=bs) (bm:=tl) (hdct:=hdct) (sn:=sn) (sub:=sub) (ab:=ab) (col:=col) (dd:=dd) (k0:=k0) (k1:=k1) (k2:=k2) (k3:=k3) (k5:=k5) Pd (mN:=mN)
  (T.hasType Pd.hasBase) (I.ok.hd hc) (by rw [he]; rfl) hni (oF I hg hm ⟨rfl,?_⟩ hdb)
 have hp:=(oQ ha tq he).h cpos j' s σ H (fun vs H1=>vs.length=1∧XW X c H1) I ⟨ρ,E,?_⟩
 · rw [he] at hp ⊢;refine QR (thn hp fun us s2 ⟨vs,H1,I1,rv,hl,hw⟩=>⟨rfl,?_,I1.bk _ _ hC,hN.keeps I1.bk,T.keeps I1.bk,fun h' e me=>?_⟩)
   · rw [← rv.length,hl]; decide
   · have I2:Inv X j' σ H1 { s2 with heap:=h' }:=I1.kept (t':=s2.toks) me.keeps;obtain ⟨t,t1,t2,t3⟩:=me.there;refine hw j' σ H1 _ (.ref e) (fun _ _ z=>z) I2 ⟨e,C,rfl,K.nm,tP I1.hok me.new,⟨?_,fun p hp z=>?_⟩,_,_,.ref t,t1,rfl,rfl,rfl,.inl rfl⟩
     · cases z:X.s₀.heap.get? e with
       | none=>rfl
       | some o2 =>
        obtain ⟨o3,z3⟩:=I1.base.there e o2 z (by rw [hex]; simp);rw [me.new] at z3;cases z3
     · have z2:=(I1.pin p (G_ _ hp)).1;rw [z,me.new] at z2;cases z2
 · show OutA X H (ac fa ah ρ) _;unfold ac;unfold aG at o
   match hf:fa ρ with
   | none=>rw [hf] at o; exact o.elim
   | some (.exc c2)=>rw [hf] at o; exact o
   | some (.ok d)=>rw [hf] at o; exact fun vs H1 e1 r=>⟨r.length,XW.mono o e1⟩
end
end FD
namespace FD
open PySem PySem.Spec PyProof.Rows L2 PySem.W Builtin.Getset_descriptor
section
variable {prog:rl} {w:C_} {A:E_} {E:g_→h_→Prop} {s:h_} {K:f_} {x C:l_} {ox:Obj}
structure XI (K:f_) (C:l_):Prop where
 ga:findIn K (.ref C) "__getattribute__"=a_ (a_ (.builtin "BaseException.__getattribute__"))
 gt:findIn K (.ref C) "__getattr__"=a_ ck
 cl:findIn K (.ref C) "__class__"=a_ (a_ (.builtin "object.__class__"))
 sp:specialIn K (.builtin "object.__class__") "__get__"=a_ (a_ (.builtin "getset_descriptor.__get__"))
 tk:takesIn K (.builtin "object.__class__")=a_ d_
 ob:mroIn K C (.type "object")=a_ d_
 be:mroIn K C (.type "BaseException")=a_ d_
end
section
variable {X:Cx} {p pos pT:Pos} {a:H_} {fa:FnE} {T:Str}
end
end FD
namespace FD
open PySem PySem.Spec PyProof.Rows L2 PySem.W
section
variable {X:Cx} {j':List (l_×Obj)} {σ:L2.St} {H:Hp} {s:h_}
end
structure RoomM (k:Nat) (A:E_):Prop where
 dp:A.depth + 3 * k + 5 < recursionLimit
 un:A.units + 16 * k + 200 < cLine
theorem RoomM.of {k:Nat} {A:E_} (r:Room k A):RoomM k A:=⟨r.dp,r.un⟩
theorem RoomM.mono {j k:Nat} {A:E_} (r:RoomM k A) (h:j≤k):RoomM j A:=⟨by have:=r.dp; omega,by have:=r.un; omega⟩
theorem RoomM.deeper {k:Nat} {A:E_} (r:RoomM (k + 1) A) (env:Env):RoomM k (A.deeper env) :=
 ⟨by have:=r.dp; show A.depth + 1 + 3 * k + 5 < _; omega,by have:=r.un; show A.units + 3 + 16 * k + 200 < _; omega⟩
theorem RoomM.units {k:Nat} {A:E_} (r:RoomM k A):A.units + 64 < cLine:=by have:=r.un; omega
structure FnM (P:rl) (w:C_) (K:f_) (mg:Str→Option g_) (base:KO) (k:Nat) (f:l_) (fd:Lv) (ps:List Str) (F:List Dv→Option (Rs Dv)):Prop where
 run:∀ (A:E_) (outer:List Env) (s:h_) (H:Hp) (args:Args) (us:List g_) (vs:List V) (ds:List Dv) (d:Dv) (Q:VK),RoomM k A→Env0 P w K mg base A outer s H→Q0 s fd args (ps.zip us)→Vals vs us →
  Reps K H ds vs→ds.length=ps.length→F ds=a_ (.ok d)→(∀ v H',Same H H'→Rep K H' d v→Q v H')→NC (F_ P w) A (.call (.ref f) args) (CR CX0 outer P w H s Q E0) s
def KM (P:rl) (w:C_) (K:f_) (mg:Str→Option g_) (base:KO) (x:Str) (k:Nat) (ps:List Str) (F:List Dv→Option (Rs Dv)):Prop :=
 ∃ f fd,FnM P w K mg base k f fd ps F∧mg x=a_ (.ref f)∧LK K (.ref f)=d_∧Binds K fd ps []
section
variable {X:Cx} {x:Str} {p pos:Pos} {e:H_} {es:List H_} {g:FnA} {n:Nat}
end
section
variable {X:Cx} {pl ps:List (l_×Obj)} {σ:L2.St} {H:Hp} {s:h_} {E:g_→h_→Prop} {e:l_}
end
section
variable {X:Cx} {ex hx:H_} {f g:FnE} {J n:Str} {CJ:l_} {np rp rp2 hpos pos:Pos}
end
end FD
namespace FD
open PySem PySem.Spec PyProof.Rows L2
section
variable {X:Cx} {apos cpos:Pos} {e o:H_} {es:List H_} {ga:FnA} {fo:FnE}
end
section
variable {X:Cx} {a b c:H_} {fa fb fc:FnE} {pos:Pos}
end
def p6 (x:Str) (n:Int):Str:=if n < 1 then S8 else if (n == 1 || x.length == 0)=d_ then x else ⟨(y_ n.toNat x.cps).foldl (· ++ ·) #[]⟩
def Jl:Dv→Dv→Option (Rs Dv)
 | .str x,.int n=>if x.length≤1000∧-1000≤n∧n≤1000 then a_ (.ok (.str (p6 x n))) else ck
 | x,y=>jx x y
section
variable {X:Cx}
def wF:R2:=fun x y H Q=>∃ i n,x=.str i∧y=.int n∧(i.length≤1000∧-1000≤n∧n≤1000)∧Q (.str (p6 i n)) H
theorem p7 (a:Array Nat):∀ (k:Nat) (acc:Array Nat),((y_ k a).foldl (· ++ ·) acc).size=acc.size + k * a.size
 | 0,acc=>by simp
 | k + 1,acc=>by
  rw [LG,Qn,p7 a k (acc ++ a),Os,Nat.succ_mul];omega
theorem tQ {a n:Nat} (h1:a≤1000) (h2:n≤1000):n * a≤sizeLine:=by
 have h3:n * a≤1000 * 1000:=Nat.mul_le_mul h2 h1;rw [Nt];exact K5 h3 (by decide)
theorem op_mulS:OpR X (L5 .Mult) wF:=by
 intro j' s σ H x y v u Q I rx ry ⟨i,n,hx,hy,hc,q⟩;subst hx hy;obtain ⟨t,rfl⟩:=rx;obtain ⟨t2,rfl⟩:=ry;have h0:(u_ (n < -(2 ^ 63:Int)) || u_ (n ≥ 2 ^ 63))=e_:=by
  have h1:¬ n < -(2 ^ 63:Int):=by omega
  have h2:¬ n ≥ 2 ^ 63:=by omega
  rw [decide_eq_false h1,decide_eq_false h2]; rfl
 refine P.mul_str h0 (fun h1 h2 h3=>?_) (fun h1 h2=>?_) ?_
 · have hn:0 < n:=by omega
   have e1:=Int.mul_ediv_add_emod (2 ^ 63 - 1) n;have e2:=LR (2 ^ 63 - 1) hn;have hq:(2 ^ 63 - 1:Int) / n < 1000:=by omega
   have hq0:0≤(2 ^ 63 - 1:Int) / n:=Int.ediv_nonneg (by decide) (by omega);have h4:n * ((2 ^ 63 - 1:Int) / n)≤1000 * ((2 ^ 63 - 1:Int) / n):=Int.mul_le_mul_of_nonneg_right hc.2.2 hq0;omega
 · show u_ (i.length * n.toNat > sizeLine)=e_;have:=tQ (a:=i.length) (n:=n.toNat) hc.1 (by omega);rw [RS];exact decide_eq_false (by omega)
 · unfold p6 at q;split
   · rename_i h1;rw [if_pos h1] at q;exact ⟨by decide,⟨.str S8,H,I.tok _,⟨_,rfl⟩,q⟩⟩
   · rename_i h1;rw [if_neg h1] at q;split
     · rename_i h2;rw [if_pos h2] at q;exact ⟨.str i,H,I,⟨_,rfl⟩,q⟩
     · rename_i h2;rw [if_neg h2] at q;refine ⟨?_,⟨.str _,H,I.tok _,⟨_,rfl⟩,q⟩⟩;show ((y_ n.toNat i.cps).foldl (· ++ ·) #[]).size≤sizeLine;rw [p7];have:=tQ (a:=i.length) (n:=n.toNat) hc.1 (by omega);have e:i.cps.size=i.length:=rfl;rw [e];simpa using this
theorem Dw:OpR X (L5 .Mult) (fun x y H Q=>wF x y H Q∨rI CMul (fun i j=>.int (i * j)) x y H Q):=op_mulS.or xT
theorem yr:GOp X (fun x y H Q=>wF x y H Q∨rI CMul (fun i j=>.int (i * j)) x y H Q) Jl:=by
 intro dx dy x y H Q rx ry o;cases dx with
 | str i =>
  cases dy with
  | int n =>
   have o2:Out X H (if i.length≤1000∧-1000≤n∧n≤1000 then a_ (.ok (.str (p6 i n))) else ck) Q:=o;by_cases hc:i.length≤1000∧-1000≤n∧n≤1000
   · rw [if_pos hc] at o2;exact .inl ⟨i,n,rx,ry,hc,o2 _ H (.refl H) rfl⟩
   · rw [if_neg hc] at o2;exact o2.elim
  | _=>exact (show False from o).elim
 | _=>exact .inr (CN _ _ x y H Q rx ry o)
end
end FD
namespace FD
open PySem PySem.Spec PyProof.Rows L2 PySem.W
def xiB (K:f_) (C:l_):Bool:=findIn K (.ref C) "__getattribute__" == a_ (a_ (.builtin "BaseException.__getattribute__")) && findIn K (.ref C) "__getattr__" == a_ ck && findIn K (.ref C) "__class__" == a_ (a_ (.builtin "object.__class__")) &&
 specialIn K (.builtin "object.__class__") "__get__" == a_ (a_ (.builtin "getset_descriptor.__get__")) && takesIn K (.builtin "object.__class__") == a_ d_ && mroIn K C (.type "object") == a_ d_ && mroIn K C (.type "BaseException") == a_ d_
theorem Hn {K:f_} {C:l_} (h:xiB K C=d_):XI K C:=by
 unfold xiB at h;simp only [pi,beq_iff_eq] at h;exact ⟨h.1.1.1.1.1.1,h.1.1.1.1.1.2,h.1.1.1.1.2,h.1.1.1.2,h.1.1.2,h.1.2,h.2⟩
structure XAll (K:f_) (m:Nat) (cls:Nat→l_) (CJ:l_):Prop where
 at_:∀ c,c < m→nsIn K z_ (xnm c)=a_ (a_ (.ref (cls c)))∧excIn K (cls c) bmV "ValueError.__new__"=d_∧XI K (cls c)∧mroIn K (cls c) (.ref CJ)=a_ d_∧kitOne K (.ref (cls c)) (.type "ValueError")=a_ d_∧∀ d,d < m→kitOne K (.ref (cls c)) (.ref (cls d))=a_ (c == d)
 exJ:excIn K CJ bmV "ValueError.__new__"=d_
section
variable {K:f_} {m:Nat} {cls:Nat→l_} {CJ:l_} (x:XAll K m cls CJ)
include x
theorem XAll.xc (c:Nat) (h:c < m):XC K c (cls c):=⟨(x.at_ c h).1,(x.at_ c h).2.1⟩
theorem XAll.same {c:Nat} {C:l_} (h:c < m) (q:nsIn K z_ (xnm c)=a_ (a_ (.ref C))):C=cls c:=by
 have z:=(x.at_ c h).1;rw [q] at z;cases z;rfl
theorem XAll.xk:∀ c C,c < m→nsIn K z_ (xnm c)=a_ (a_ (.ref C))→excIn K C bmV "ValueError.__new__"=d_∧mroIn K C (.ref CJ)=a_ d_:=fun c C h q=>by
 rw [x.same h q];exact ⟨(x.at_ c h).2.1,(x.at_ c h).2.2.2.1⟩
end
end FD
namespace FD
open PySem
end FD
namespace FD
open PySem PySem.Spec PyProof.Rows L2
def ko:Str→List Dv→Option (Rs Dv)
 | x,[.str y]=>if x.length≤100000 then a_ (.ok (.str (Mc x y))) else ck
 | _,_=>ck
def yt:V→List V→Hp→VK→Prop:=fun x xs H Q=>∃ i j,x=.str i∧xs=[.str j]∧i.length≤sizeLine∧Q (.str (Mc i j)) H
section
variable {X:Cx}
theorem wG:MtR X "str.strip" yt:=by
 intro j' s σ H x xs v us Q I rx rs h;obtain ⟨i,j,rfl,rfl,hl,q⟩:=h;obtain ⟨t,rfl⟩:=rx;obtain ⟨u,rfl,ru⟩:=eR rs;obtain ⟨t',rfl⟩:=ru;exact SC.stripChars (fun t2 k=>⟨.str _,H,I.tok k,⟨_,rfl⟩,q⟩) hl
theorem zL (i:Str) (ds:List Dv) (vs:List V) (H:Hp) (Q:VK) (rs:Reps X.K H ds vs) (o:Out X H (ko i ds) Q):yt (.str i) vs H Q:=by
 unfold ko at o;split at o
 · rename_i j;split at o
   · rename_i hl;obtain ⟨w,rfl,rw'⟩:=dO rs;cases (show w=.str j from rw');exact ⟨i,j,rfl,rfl,cA hl,o _ H (.refl H) rfl⟩
   · exact o.elim
 · exact o.elim
end
section
variable {X:Cx}
def ci (x y:Dv):Option (Rs Dv):=match x,y with
 | .tup a,.tup b=>if a.length + b.length≤100000 then a_ (.ok (.tup (a ++ b))) else ck
 | x,y=>df x y
theorem wH {prog:rl} {w:C_} {A:E_} {E:g_→h_→Prop} {s:h_} {t b:l_} {ws:List g_} {Q:g_→h_→Prop} (ht:S0 s.heap t #[]) (hb:S0 s.heap b ws.toArray) (h0:Q (.ref b) s) :
 v_ (F_ prog w) A (L5 .Add (.ref t) (.ref b)) Q E s:=by
 obtain ⟨⟨cls,dd,data,sl⟩,ho,hc,n,hd⟩:=id ht;obtain ⟨⟨cls2,dd2,data2,sl2⟩,ho2,hc2,n2,hd2⟩:=id hb;simp only at hc hd hc2 hd2;subst hc hd hc2 hd2;exact RJ ⟨_,ho,rfl⟩ ⟨_,ho2,rfl⟩ PD Rn Oe NX (NQ _ _)
  (tuple_addW0 t b #[] ws.toArray n n2 dd dd2 sl sl2 (by simp)) ⟨ho,ho2,h0⟩
def yu (K:f_):R2:=fun x y H Q=>∃ a b ys,x=.ref a∧y=.ref b∧SqT K H a []∧SqT K H b ys∧Q (.ref b) H
theorem wI:OpR X (L5 .Add) (yu X.K):=by
 intro j' s σ H x y v u Q I rx ry h;obtain ⟨a,b,ys,rfl,rfl,ha,hb,q⟩:=h;cases rx;cases ry;obtain ⟨its,r1,p1,_⟩:=I.tuple ha;obtain ⟨its2,r2,p2,_⟩:=I.tuple hb;cases r1;exact wH p1 p2 ⟨.ref b,H,I,rfl,q⟩
def Dx (X:Cx):R2:=fun x y H Q=>zn x y H Q∨(B7 X.K x y H Q∨yu X.K x y H Q)
theorem Dy:OpR X (L5 .Add) (Dx X):=o_add.or (op_catT.or wI)
theorem tR {x y:Dv} (h:∀ a b,¬ (x=.tup a∧y=.tup b)):ci x y=df x y:=by
 unfold ci;split
 · rename_i a b;exact absurd ⟨rfl,rfl⟩ (h a b)
 · rfl
theorem Dz:GOp X (Dx X) ci:=by
 intro dx dy x y H Q rx ry o;by_cases hc:∃ a b,dx=.tup a∧dy=.tup b
 · obtain ⟨a,b,rfl,rfl⟩:=hc;have o':Out X H (if a.length + b.length≤100000 then a_ (.ok (.tup (a ++ b))) else ck) Q:=o;split at o'
   · rename_i hl;obtain ⟨p,xs,rfl,h1,q1⟩:=rx.tupE;obtain ⟨p2,ys,rfl,h2,q2⟩:=ry.tupE;cases xs with
     | nil =>
      have ha:a=[]:=by
       have:=q1.length;exact MW.mp this.symm
      subst ha;exact .inr (.inr ⟨p,p2,ys,rfl,rfl,SqT.of h1,SqT.of h2,o' _ H (.refl H) ⟨p2,ys,rfl,h2,by simpa using q2⟩⟩)
     | cons x0 xs =>
      refine .inr (.inl ⟨p,p2,x0 :: xs,ys,rfl,rfl,SqT.of h1,SqT.of h2,by simp,by rw [q1.length,q2.length]; exact cA hl,fun hy=>?_,fun hy l hl=>o' _ _ (aE hl _) ⟨l,_,rfl,ax,Reps.mono (aE hl _) _ _ (q1.append q2)⟩⟩);subst hy;have hb:b=[]:=MW.mp q2.length.symm;subst hb;exact o' _ H (.refl H) ⟨p,_,rfl,h1,by simpa using q1⟩
   · exact o'.elim
 · rw [tR (fun a b h=>hc ⟨a,b,h⟩)] at o;exact .inl (CM dx dy x y H Q rx ry o)
theorem iG {prog:rl} {w:C_} {A:E_} {E:g_→h_→Prop} {s:h_} {t sl:l_} {items:Array g_} {vl vu:g_} {lo hi:Option Int} {Q:g_→h_→Prop} (ht:S0 s.heap t items) (hs:s.heap.IsSliceOf sl vl vu .none) (pl:P_ vl lo) (pu:P_ vu hi)
 (hw:HT.sIx items.size 0 lo=0∧HT.sIx items.size items.size hi=items.size) (h:Q (.ref t) s):v_ (F_ prog w) A (P7 (.ref t) (.ref sl)) Q E s:=by
 obtain ⟨os,hos,hcs,hds⟩:=id hs;have hTs:s.TypeIs (.ref sl) "slice":=⟨os,hos,hcs⟩;unfold P7
 try with_reducible refine Lp ?_
 first | refine c_ (j_ ?_) | skip
 refine c_ (wpAny_sequenceKey ht.typeIs (by decide) ?_);refine c_ (LS (name:=b_ "__getitem__") ht.typeIs Ln
  (MS Ln ht.typeIs entry_tuple_getitem ?_ (args_tuple_getitem _ _)))
 show v_ _ _ (Ph (.ref t) >>= _) _ _ s;refine c_ (tupleItemsOf_ ht ?_);refine c_ (N4 hTs ?_);rw [if_pos (by decide)];refine c_ (HT.sliceApplied_gen hs pl pu ?_);have hyes:(((HT.sIx items.size 0 lo:Nat):Int) == 0 && (1:Int) == 1 && (HT.sIx items.size items.size hi - HT.sIx items.size 0 lo) == items.size)=d_:=by
  rw [hw.1,hw.2];simp
 show v_ _ _ (if (((HT.sIx items.size 0 lo:Nat):Int) == 0 && (1:Int) == 1 && (HT.sIx items.size items.size hi - HT.sIx items.size 0 lo) == items.size)=d_ then _ else _) _ _ s;rw [if_pos hyes];refine c_ (c_ (N4 ht.typeIs (j_ ?_)));rw [if_pos (by decide)];exact c_ (Ou (j_ ⟨_,rfl,j_ h⟩))
def Kc (K:f_):V→Option Int→Option Int→Hp→VK→Prop:=fun x lo hi H Q=>∃ a xs,x=.ref a∧SqT K H a xs ∧
 (HT.sIx xs.length 0 lo=0∧HT.sIx xs.length xs.length hi=xs.length)∧Q (.ref a) H
theorem wJ:SlR X (Kc X.K):=by
 intro j' s σ H x v vl vu lo hi sl Q I rx hs pl pu h;obtain ⟨a,xs,rfl,hx,hw,q⟩:=h;cases rx;obtain ⟨its,r,ht,hz⟩:=I.tuple hx;have hlen:its.toArray.size=xs.length:=by rw [A_]; exact r.length.symm
 refine ⟨"tuple",_,Ln.lookup,ht.typeIs,?_⟩;exact iG ht hs pl pu (by rw [hlen]; exact hw) ⟨.ref a,H,I,rfl,q⟩
def Jm (x:Dv) (lo hi:Option Int):Option (Rs Dv):=match x with
 | .tup xs=>a_ (.ok (.tup (yi xs lo hi)))
 | x=>F8 x lo hi
def eW (fa:FnE) (fl fh:FnO):FnE:=fun ρ=>bnd (fa ρ) fun x=>bnd (fl ρ) fun lo=>bnd (fh ρ) fun hi=>Jm x lo hi
theorem qZ {α:Type} {xs:List α} {lo hi:Option Int} (h:HT.sIx xs.length 0 lo=0∧HT.sIx xs.length xs.length hi=xs.length):yi xs lo hi=xs:=by
 unfold yi;rw [h.1,h.2];simp
theorem zM {a:H_} {lo hi:Option H_} {fa:FnE} {fl fh:FnO} {p2 pos:Pos} (ha:FE X a fa) (hl:FO X lo fl) (hh:FO X hi fh):FE X (.Subscript a (.Slice lo hi ck p2) pos) (eW fa fl fh) :=
 de (pU ((sl_str.or sW).or (sl_tup.or wJ)) ha.h hl.h hh.h) fun σ H Q ρ E o=>⟨ρ,E,Out.bind o fun d v H1 e1 r1 o1=>⟨ρ,E.mono e1,iV o1 fun l H2 e2 o2=>⟨ρ,(E.mono e1).mono e2,iV o2 fun u H3 e3 o3=>by
  have r3:=Rep.mono e3 d v (Rep.mono e2 d v r1);cases d <;> try exact (show False from o3).elim
  · rename_i z;unfold Jm F8 at o3;dsimp only at o3;split at o3
    · rename_i hz;exact .inl (.inl ⟨z,r3,cA hz,o3 _ H3 (.refl H3) rfl⟩)
    · exact o3.elim
  · rename_i ds;obtain ⟨a',xs,rfl,h1,h2⟩:=r3.tupE;have hlen:=h2.length;by_cases hw:HT.sIx xs.length 0 l=0∧HT.sIx xs.length xs.length u=xs.length
    · refine .inr (.inr ⟨a',xs,rfl,SqT.of h1,hw,o3 _ H3 (.refl H3) ⟨a',xs,rfl,h1,?_⟩⟩);rw [qZ (by rw [← hlen]; exact hw)];exact h2
    · refine .inr (.inl ⟨a',xs,rfl,SqT.of h1,hw,fun p hp=>o3 _ _ (aE hp _) ⟨p,_,rfl,ax,Reps.mono (aE hp _) _ _ ?_⟩⟩);unfold wa yi;rw [h2.length];exact (h2.drop _).take _
  · rename_i ds;obtain ⟨a',xs,rfl,h1,h2⟩:=r3.lstE;refine .inl (.inr ⟨a',xs,rfl,SqL.of h1,fun p hp=>o3 _ _ (aE hp _) ⟨p,_,rfl,ax,Reps.mono (aE hp _) _ _ ?_⟩⟩);unfold wa yi;rw [h2.length];exact (h2.drop _).take _⟩⟩⟩
theorem Reps.reverse {K:f_} {H:Hp}:∀ {ds:List Dv} {vs:List V},Reps K H ds vs→Reps K H ds.reverse vs.reverse
 | [],vs,r=>by cases (show vs=[] from r); exact r
 | d :: ds,vs,r=>by
  obtain ⟨v,us,rfl,r1,r2⟩:∃ v us,vs=v :: us∧Rep K H d v∧Reps K H ds us:=r;rw [MG,MG];exact (Reps.reverse r2).append ⟨v,[],rfl,r1,rfl⟩
theorem Vals.reverse:∀ {xs:List V} {us:List g_},Vals xs us→Vals xs.reverse us.reverse
 | _,_,.nil=>.nil
 | x :: xs,u :: us,.cons r t=>by
  rw [MG,MG];exact (Vals.reverse t).append (.cons r .nil)
def inP (x:Dv) (ys:List Dv):Option Bool:=if okP x && u_ ((bW x).depth≤63) && LI (toPys ys) then a_ ((toPys ys).any fun y=>Ld y (bW x)) else ck
def DA (x y:Dv):Option Bool:=match zp x y with
 | some b=>a_ b
 | none=>match y with
  | .lst ys=>inP x ys
  | .tup ys=>inP x ys
  | _=>ck
def inX (x y:Dv):Option (Rs Dv):=match DA x y with
 | some b=>a_ (.ok (.bl b))
 | none=>ck
def dk (x y:Dv):Option (Rs Dv):=match DA x y with
 | some b=>a_ (.ok (.bl (!b)))
 | none=>ck
def Ge (X:Cx) (neg:Bool):R2:=fun x y H Q=>∃ dx ys b,Rep X.K H dx x∧(Rep X.K H (.lst ys) y∨Rep X.K H (.tup ys) y)∧inP dx ys=a_ b∧Q (.bl (if neg then !b else b)) H
theorem DB (hu:X.A.units + 64 < cLine):OpR X (K_ .In) (Ge X e_):=by
 intro j' s σ H x y v u Q I rx ry h;obtain ⟨dx,ys,b,qx,qy,hb,q⟩:=h;unfold inP at hb;split at hb
 · rename_i hc;cases hb;obtain ⟨⟨c1,c2⟩,c3⟩:(okP dx=d_∧(bW dx).depth≤63)∧LI (toPys ys)=d_:=by simpa using hc
   obtain ⟨as,ra⟩:=Rep.reads I dx x v qx rx (Lg.mp c1).1;have hd:X.A.units + 1 + min (MB (toPys ys)) (bW dx).depth < cLine:=by
    have:=PQ (MB (toPys ys)) (bW dx).depth;omega
   rcases qy with qy | qy
   · obtain ⟨bs,rb⟩:=Rep.reads I (.lst ys) y u qy ry (by simpa [bW,K6] using c3);exact SeqAt.in_list_reads rb ra c3 (Lg.mp c1).1 hd ⟨.bl _,H,I,rfl,q⟩
   · obtain ⟨bs,rb⟩:=Rep.reads I (.tup ys) y u qy ry (by simpa [bW,K6] using c3);exact SeqAt.in_tuple_reads rb ra c3 (Lg.mp c1).1 hd ⟨.bl _,H,I,rfl,q⟩
 · cases hb
theorem tU (hu:X.A.units + 64 < cLine):OpR X (K_ .NotIn) (Ge X d_):=by
 intro j' s σ H x y v u Q I rx ry h;obtain ⟨dx,ys,b,qx,qy,hb,q⟩:=h;unfold inP at hb;split at hb
 · rename_i hc;cases hb;obtain ⟨⟨c1,c2⟩,c3⟩:(okP dx=d_∧(bW dx).depth≤63)∧LI (toPys ys)=d_:=by simpa using hc
   obtain ⟨as,ra⟩:=Rep.reads I dx x v qx rx (Lg.mp c1).1;have hd:X.A.units + 1 + min (MB (toPys ys)) (bW dx).depth < cLine:=by
    have:=PQ (MB (toPys ys)) (bW dx).depth;omega
   rcases qy with qy | qy
   · obtain ⟨bs,rb⟩:=Rep.reads I (.lst ys) y u qy ry (by simpa [bW,K6] using c3);exact SeqAt.notIn_list_reads rb ra c3 (Lg.mp c1).1 hd ⟨.bl _,H,I,rfl,q⟩
   · obtain ⟨bs,rb⟩:=Rep.reads I (.tup ys) y u qy ry (by simpa [bW,K6] using c3);exact SeqAt.notIn_tuple_reads rb ra c3 (Lg.mp c1).1 hd ⟨.bl _,H,I,rfl,q⟩
 · cases hb
def Jn (X:Cx):R2:=fun x y H Q=>G6 X.K x y H Q∨Ge X e_ x y H Q
def tV (X:Cx):R2:=fun x y H Q=>oU X.K x y H Q∨Ge X d_ x y H Q
theorem Ho (hu:X.A.units + 64 < cLine):OpR X (K_ .In) (Jn X):=o_in.or (DB hu)
theorem wK (hu:X.A.units + 64 < cLine):OpR X (K_ .NotIn) (tV X):=o_notIn.or (tU hu)
theorem Hq:GOp X (Jn X) inX:=by
 intro dx dy x y H Q rx ry o;unfold inX DA at o
 match h0:zp dx dy with
 | some b =>
  rw [h0] at o;exact .inl (G7 dx dy x y H Q rx ry (by unfold inD; rw [h0]; exact o))
 | none =>
  rw [h0] at o;cases dy <;> try exact (show False from o).elim
  · rename_i ys
    match hp:inP dx ys with
    | none=>simp only [hp] at o; exact (show False from o).elim
    | some b=>simp only [hp] at o; exact .inr ⟨dx,ys,b,rx,.inr ry,hp,o _ H (.refl H) rfl⟩
  · rename_i ys
    match hp:inP dx ys with
    | none=>simp only [hp] at o; exact (show False from o).elim
    | some b=>simp only [hp] at o; exact .inr ⟨dx,ys,b,rx,.inl ry,hp,o _ H (.refl H) rfl⟩
theorem wL:GOp X (tV X) dk:=by
 intro dx dy x y H Q rx ry o;unfold dk DA at o
 match h0:zp dx dy with
 | some b =>
  rw [h0] at o;exact .inl (tH dx dy x y H Q rx ry (by unfold mT; rw [h0]; exact o))
 | none =>
  rw [h0] at o;cases dy <;> try exact (show False from o).elim
  · rename_i ys
    match hp:inP dx ys with
    | none=>simp only [hp] at o; exact (show False from o).elim
    | some b=>simp only [hp] at o; exact .inr ⟨dx,ys,b,rx,.inr ry,hp,o _ H (.refl H) rfl⟩
  · rename_i ys
    match hp:inP dx ys with
    | none=>simp only [hp] at o; exact (show False from o).elim
    | some b=>simp only [hp] at o; exact .inr ⟨dx,ys,b,rx,.inl ry,hp,o _ H (.refl H) rfl⟩
def DC:Str→List Dv→Option (Rs Dv)
 | x,[.str y]=>match K2 x y 0 x.length 1 with
  | i :: _=>a_ (.ok (.int i))
  | []=>ck
 | _,_=>ck
def Jo:V→List V→Hp→VK→Prop:=fun x xs H Q=>∃ i j k l,x=.str i∧xs=[.str j]∧K2 i j 0 i.length 1=k :: l∧Q (.int (k:Nat)) H
theorem DD:MtR X "str.index" Jo:=by
 intro j' s σ H x xs v us Q I rx rs h;obtain ⟨i,j,k,l,rfl,rfl,ho,q⟩:=h;obtain ⟨t,rfl⟩:=rx;obtain ⟨u,rfl,ru⟩:=eR rs;obtain ⟨t',rfl⟩:=ru;exact SC.index ho ⟨.int _,H,I.tok _,⟨_,rfl⟩,q⟩
theorem Hr (i:Str) (ds:List Dv) (vs:List V) (H:Hp) (Q:VK) (rs:Reps X.K H ds vs) (o:Out X H (DC i ds) Q):Jo (.str i) vs H Q:=by
 unfold DC at o;split at o
 · rename_i j;obtain ⟨w,rfl,rw'⟩:=dO rs;cases (show w=.str j from rw')
   match hk:K2 i j 0 i.length 1 with
   | []=>rw [hk] at o; exact o.elim
   | k :: l=>rw [hk] at o; exact ⟨i,j,k,l,rfl,rfl,hk,o _ H (.refl H) rfl⟩
 · exact o.elim
end
abbrev zN (its:List g_) (n:Nat):Obj:={ cls:=.type "list",data:=.seq its.toArray n }
section
variable {X:Cx} {j':List (l_×Obj)} {σ:L2.St} {H:Hp} {s:h_} {a:l_} {xs:List V}
theorem Inv.untrack (I:Inv X j' σ (upd H a (.lst xs)) s) (ha:H a=ck) (hex:X.ex=[]):∃ its n,Vals xs its∧xs.length≤sizeLine∧(∀ o,X.s₀.heap.get? a=a_ o→X.H₀ a≠ck)∧(∀ p∈X.pn ++ j',p.1≠a)∧Inv X (j' ++ [(a,zN its n)]) σ H s:=by
 obtain ⟨z,its,n,rv,hl,e⟩:=I.lstM (l:=a) (xs:=xs) ax;have hb:∀ b u,H b=a_ u→b≠a:=fun b u q=>ar q ha;have low:∀ b,upd H a (.lst xs) b=ck→H b=ck:=fun b q=>by
  by_cases hba:b=a
  · rw [hba]; exact ha
  · rw [ay hba] at q; exact q
 have dn:∀ b u,upd H a (.lst xs) b=a_ u→(∀ ys,u≠.lst ys)→H b=a_ u:=fun b u q hu=>by
  by_cases hba:b=a
  · rw [hba,ax] at q;exact absurd (KZ q).symm (hu xs)
  · rw [ay hba] at q; exact q
 have nfs:a ∉ X.fs:=fun hm=>by
  obtain ⟨_,o,ho,_⟩:=I.ok.funs.mem hm;have:=I.base.free a o ho (I.ok.frf a hm) (by rw [hex]; simp);rw [ax] at this;cases this
 have npin:∀ p∈X.pn ++ j',p.1≠a:=fun p hp w=>by
  have:=(I.pin p hp).2.1;rw [w,ax] at this;cases this
 refine ⟨its,n,rv,z,fun o ho h0=>?_,npin,⟨I.ok,I.os,I.bare,⟨I.base.keep,I.base.slot,fun b o q n hx=>low b (I.base.free b o q n hx),I.base.there,fun b ys q=>dn b _ (I.base.tups b ys q) (fun _ w=>by cases w),fun b o u q=>dn b _ (I.base.frzs b o u q) (fun _ w=>by cases w),fun b ps q=>?_⟩,I.loc,I.cell,low _ I.free,fun x c q=>low _ (I.freeC x c q),fun p hp=>?_,fun b u q=>?_,I.len⟩⟩
 · have:=I.base.free a o ho h0 (by rw [hex]; simp);rw [ax] at this;cases this
 · obtain ⟨more,q'⟩:=I.base.tbls b ps q;exact ⟨more,dn b _ q' (fun _ w=>by cases w)⟩
 · rcases D_.mp hp with h1 | h1
   · obtain ⟨q1,q2,q3⟩:=I.pin p (G_ _ h1);exact ⟨q1,low _ q2,q3⟩
   · rcases D_.mp h1 with h1 | h1
     · obtain ⟨q1,q2,q3⟩:=I.pin p (m_ _ h1);exact ⟨q1,low _ q2,q3⟩
     · simp only [KN] at h1;subst h1;refine ⟨e,ha,fun w=>?_,nfs,fun v w=>by cases w⟩;obtain ⟨m,⟨o,es,ep,ho,hd,_⟩,_⟩:=I.loc;have w':a=X.env.locals:=w;rw [← w',e] at ho;cases ho;cases hd
 · have hq:upd H a (.lst xs) b=a_ u:=by rw [ay (hb b u q)]; exact q
   refine (I.hok b u hq).stay (fun _ _ _ w=>w) (fun c w=>dn c _ w (fun _ w=>by cases w)) (fun c ys w=>dn c _ w (fun _ w=>by cases w)) fun c _ _ w=>dn c _ w (fun _ w=>by cases w)
theorem Inv.retrack {its:List g_} {n:Nat} (I:Inv X (j' ++ [(a,zN its n)]) σ H s) (rv:Vals xs its) (hz:xs.length≤sizeLine) (h0:∀ o,X.s₀.heap.get? a=a_ o→X.H₀ a≠ck) (hp0:∀ p∈X.pn ++ j',p.1≠a):H a=ck∧Inv X j' σ (upd H a (.lst xs)) s:=by
 obtain ⟨e,ha,nL,nf,nc⟩:=I.pin (a,zN its n) (m_ _ (m_ _ (by simp)));have up:∀ b u,H b=a_ u→upd H a (.lst xs) b=a_ u:=fun b u q=>by rw [ay (ar q ha)]; exact q
 have lo:∀ b,H b=ck→b≠a→upd H a (.lst xs) b=ck:=fun b q h=>by rw [ay h]; exact q
 refine ⟨ha,⟨I.ok,I.os,I.bare,⟨I.base.keep,I.base.slot,fun b o q n hx=>lo b (I.base.free b o q n hx) (fun w=>h0 o (w ▸ q) (w ▸ n)),I.base.there,fun b ys q=>up b _ (I.base.tups b ys q),fun b o u q=>up b _ (I.base.frzs b o u q),fun b ps q=>?_⟩,I.loc,I.cell,lo _ I.free (Oh nL),fun x c q=>lo _ (I.freeC x c q) (fun w=>?_),fun p hp=>?_,fun b u q=>?_,I.len⟩⟩
 · obtain ⟨more,q'⟩:=I.base.tbls b ps q;exact ⟨more,up b _ q'⟩
 · obtain ⟨v,o,ho,hd⟩:=I.cell x c q;rw [w] at ho;have e':s.heap.get? a=a_ (zN its n):=e;rw [e'] at ho;cases ho;cases hd
 · obtain ⟨q1,q2,q3⟩:=I.pin p (by
    rcases D_.mp hp with h1 | h1
    · exact G_ _ h1
    · exact m_ _ (G_ _ h1))
   exact ⟨q1,lo _ q2 (hp0 p hp),q3⟩
 · by_cases hb:b=a
   · subst hb;rw [ax] at q;cases q;exact ⟨hz,its,n,rv,e⟩
   · rw [ay hb] at q;exact (I.hok b u q).stay (fun _ _ _ w=>w) (fun c w=>up c _ w) (fun c ys w=>up c _ w) fun c _ _ w=>up c _ w
end
def Hs (t:TE):TE:=fun σ Hf Q=>∃ H a xs,Hf=upd H a (.lst xs)∧H a=ck∧t σ H fun v H'=>H' a=ck→Q v (upd H' a (.lst xs))
def Ht (t:TT):TT:=fun σ Hf Q=>∃ H a xs,Hf=upd H a (.lst xs)∧H a=ck∧t σ H fun v H'=>H' a=ck→Q v (upd H' a (.lst xs))
def Hu (t:TA):TA:=fun σ Hf Q=>∃ H a xs,Hf=upd H a (.lst xs)∧H a=ck∧t σ H fun v H'=>H' a=ck→Q v (upd H' a (.lst xs))
def Hv (t:TI):TI:=fun σ Hf Q=>∃ H a xs,Hf=upd H a (.lst xs)∧H a=ck∧t σ H fun v H'=>H' a=ck→Q v (upd H' a (.lst xs))
section
variable {X:Cx} {e:H_} {es:List H_}
theorem oY (hex:X.ex=[]) {t:TE} (h:PE X e t):PE X e (Hs t):=by
 intro j' s σ Hf Q I ⟨H,a,xs,e1,ha,q⟩;subst e1;obtain ⟨its,n,rv,hz,h0,hp,I'⟩:=Inv.untrack I ha hex;refine thn (h _ s σ H _ I' q) fun u s' ⟨v,H',I2,r,q2⟩=>?_;obtain ⟨ha',I3⟩:=Inv.retrack I2 rv hz h0 hp;exact ⟨v,_,I3,r,q2 ha'⟩
theorem zO (hex:X.ex=[]) {t:TT} (h:PT X e t):PT X e (Ht t):=by
 intro j' s σ Hf Q I ⟨H,a,xs,e1,ha,q⟩;subst e1;obtain ⟨its,n,rv,hz,h0,hp,I'⟩:=Inv.untrack I ha hex;refine thn (h _ s σ H _ I' q) fun u s' ⟨H',I2,q2⟩=>?_;obtain ⟨ha',I3⟩:=Inv.retrack I2 rv hz h0 hp;exact ⟨_,I3,q2 ha'⟩
theorem zP (hex:X.ex=[]) {t:TA} (h:PA X es t):PA X es (Hu t):=by
 intro pos j' s σ Hf Q I ⟨H,a,xs,e1,ha,q⟩;subst e1;obtain ⟨its,n,rv,hz,h0,hp,I'⟩:=Inv.untrack I ha hex;refine thn (h pos _ s σ H _ I' q) fun u s' ⟨v,H',I2,r,q2⟩=>?_;obtain ⟨ha',I3⟩:=Inv.retrack I2 rv hz h0 hp;exact ⟨v,_,I3,r,q2 ha'⟩
theorem zQ (hex:X.ex=[]) {tg:H_} {t:TI} (h:PI X tg e t):PI X tg e (Hv t):=by
 intro j' s σ Hf R I ⟨H,a,xs,e1,ha,q⟩;subst e1;obtain ⟨its,n,rv,hz,h0,hp,I'⟩:=Inv.untrack I ha hex;refine thn (h _ s σ H _ I' q) fun u s1 hs1=>thn hs1 fun itv s2 ⟨it,fp,tn,J,H',e2,I2,T,t0,fpo,q2⟩=>?_;obtain ⟨ha',I3⟩:=Inv.retrack I2 rv hz h0 hp;refine ⟨it,fp,tn,J,_,e2,I3,T,t0,fun b hb=>?_,q2 ha'⟩;obtain ⟨g0,g1,g2,g3,g4,g5⟩:=fpo b hb;have hba:b≠a:=fun w=>g5 (a,zN its n) (m_ _ (m_ _ (by simp))) w.symm;refine ⟨by rw [ay hba]; exact g0,g1,g2,g3,g4,fun p hp'=>g5 p ?_⟩;rcases D_.mp hp' with w | w
 · exact G_ _ w
 · exact m_ _ (G_ _ w)
end
mutual
def imm:Dv→Bool
 | .non=>d_
 | .bl _=>d_
 | .int _=>d_
 | .str _=>d_
 | .tup ds=>imms ds
 | .lst _=>e_
 | .scr _=>e_
 | .exn _=>e_
def imms:List Dv→Bool
 | []=>d_
 | d :: ds=>imm d && imms ds
end
section
variable {K:f_} {H H':Hp}
mutual
theorem Rep.tups (k:∀ b ys,H b=a_ (.tup ys)→H' b=a_ (.tup ys)):∀ (d:Dv) (v:V),imm d=d_→Rep K H d v→Rep K H' d v
 | .non,_,_,h=>h
 | .bl _,_,_,h=>h
 | .int _,_,_,h=>h
 | .str _,_,_,h=>h
 | .tup ds,v,i,h=>by
  obtain ⟨a,xs,r,h,q⟩:=h.tupE;exact ⟨a,xs,r,k _ _ h,Reps.tups k ds xs (by simpa [imm] using i) q⟩
 | .lst _,_,i,_=>by simp [imm] at i
 | .scr _,_,i,_=>by simp [imm] at i
 | .exn _,_,i,_=>by simp [imm] at i
theorem Reps.tups (k:∀ b ys,H b=a_ (.tup ys)→H' b=a_ (.tup ys)):∀ (ds:List Dv) (vs:List V),imms ds=d_→Reps K H ds vs→Reps K H' ds vs
 | [],_,_,h=>h
 | d :: ds,vs,i,h=>by
  obtain ⟨v,us,r,h,q⟩:∃ v us,vs=v :: us∧Rep K H d v∧Reps K H ds us:=h;have i':imm d=d_∧imms ds=d_:=by simpa [imms] using i
  exact ⟨v,us,r,Rep.tups k d v i'.1 h,Reps.tups k ds us i'.2 q⟩
end
end
inductive Fo where
 | nx (ρ:Ev) (ds:List Dv)
 | rt (d:Dv)
abbrev iX:=Ev→List Dv→Option Fo
def OutW (X:Cx) (i:Nat) (a:l_) (H:Hp) (o:Option Fo) (D:vU):Prop:=match o with
 | none=>False
 | some (.rt d)=>∀ v H',Same H H'→Rep X.K H' d v→D.rt v H'
 | some (.nx ρ ds)=>∀ σ H' xs,Same H H'→H' a=ck→σ[i]?=a_ (a_ (.ref a))→Envs X.K H' σ ρ→Reps X.K H' ds xs→D.nx σ (upd H' a (.lst xs))
theorem OutW.mono {X:Cx} {i:Nat} {a:l_} {H H':Hp} {D:vU} (e:Same H H'):∀ {o:Option Fo},OutW X i a H o D→OutW X i a H' o D
 | none,h=>h
 | some (.rt _),h=>fun v H1 e1 r=>h v H1 (e.trans e1) r
 | some (.nx _ _),h=>fun σ H1 xs e1=>h σ H1 xs (e.trans e1)
def tO (X:Cx) (i:Nat) (f:iX):TS:=fun D σ Hf=>∃ H a xs ρ ds,Hf=upd H a (.lst xs)∧H a=ck∧σ[i]?=a_ (a_ (.ref a))∧Envs X.K H σ ρ∧Reps X.K H ds xs∧OutW X i a H (f ρ ds) D
structure FO1 (X:Cx) (i:Nat) (st:L3) (f:iX):Prop where
 h:PS X st (tO X i f)
structure FOs (X:Cx) (i:Nat) (st:List L3) (f:iX):Prop where
 h:PSs X st (tO X i f)
def p8 {α:Type} (o:Option (Rs α)) (k:α→Option Fo):Option Fo:=match o with
 | some (.ok a)=>k a
 | _=>ck
def Bv:iX:=fun ρ ds=>a_ (.nx ρ ds)
def eE (f g:iX):iX:=fun ρ ds=>match f ρ ds with
 | some (.nx ρ' ds')=>g ρ' ds'
 | o=>o
def fz (j:Nat) (f:FnE):iX:=fun ρ ds=>p8 (f ρ) fun d=>a_ (.nx (ρ.set j (a_ d)) ds)
def oIf (c:FnB) (f g:iX):iX:=fun ρ ds=>p8 (c ρ) fun k=>if k then f ρ ds else g ρ ds
def zR (i:Nat) (c:FnB) (f g:iX):iX:=fun ρ ds=>p8 (c (ρ.set i (a_ (.lst ds)))) fun k=>if k then f ρ ds else g ρ ds
def tW (i:Nat) (f:FnE):iX:=fun ρ ds=>p8 (f (ρ.set i (a_ (.lst ds)))) fun d=>a_ (.rt d)
def rT (f:FnE):iX:=fun ρ ds=>if ds.length < 100000 then p8 (f ρ) fun d=>a_ (.nx ρ (ds ++ [d])) else ck
section
variable {X:Cx} {i:Nat} {st:L3} {sts:List L3} {f g:iX} {fe:FnE} {gb:FnB} {e c:H_} {pos:Pos}
theorem tX {H Hf:Hp} {a:l_} {xs:List V} (ha:H a=ck) (e:Same (upd H a (.lst xs)) Hf):∃ H',Hf=upd H' a (.lst xs)∧H' a=ck∧Same H H':=by
 refine ⟨fun b=>if b=a then ck else Hf b,?_,by simp,fun b u q=>?_⟩
 · funext b;by_cases hb:b=a
   · subst hb;rw [ax];exact e b _ ax
   · rw [ay hb];simp [hb]
 · have hb:b≠a:=ar q ha;simp only [hb,if_false];exact e b u (by rw [ay hb]; exact q)
theorem fU {H:Hp} {a:l_} {xs:List V} (ha:H a=ck):Same H (upd H a (.lst xs)):=aE ha _
theorem iY {H:Hp} {a:l_} {xs:List V} {σ:L2.St} {ρ:Ev} {ds:List Dv} (ha:H a=ck) (hi:σ[i]?=a_ (a_ (.ref a))) (E:Envs X.K H σ ρ) (r:Reps X.K H ds xs):Envs X.K (upd H a (.lst xs)) σ (ρ.set i (a_ (.lst ds))):=by
 have E':=E.mono (fU (xs:=xs) ha);refine ⟨by rw [LQ]; exact E'.len,fun j d hj=>?_⟩;by_cases hij:i=j
 · subst hij;by_cases hl:i < ρ.length
   · rw [Lu hl] at hj;cases hj;exact ⟨.ref a,hi,a,xs,rfl,ax,Reps.mono (fU ha) _ _ r⟩
   · rw [Nl (by rw [LQ]; omega)] at hj;cases hj
 · rw [Lq hij] at hj;exact E'.at' j d hj
theorem zS:FOs X i [] Bv:=⟨fun j' s σ Hf D I ⟨H,a,xs,ρ,ds,e1,ha,hi,E,r,o⟩=>by
 subst e1;exact sg j' s σ _ D I (o σ H xs (.refl H) ha hi E r)⟩
theorem wM (h1:FO1 X i st f) (h2:FOs X i sts g):FOs X i (st :: sts) (eE f g):=⟨fun j' s σ Hf D I ⟨H,a,xs,ρ,ds,e1,ha,hi,E,r,o⟩=>by
 refine lH h1.h h2.h j' s σ Hf D I ⟨H,a,xs,ρ,ds,e1,ha,hi,E,r,?_⟩;unfold eE at o
 match hf:f ρ ds with
 | none=>rw [hf] at o; exact o.elim
 | some (.rt d)=>rw [hf] at o; exact o
 | some (.nx ρ' ds')=>rw [hf] at o; exact fun σ' H' xs' e' ha' hi' E' r'=>⟨H',a,xs',ρ',ds',rfl,ha',hi',E',r',OutW.mono e' o⟩⟩
theorem zT (h1:FO1 X i st f):FOs X i [st] f:=⟨si h1.h⟩
theorem DE (hex:X.ex=[]) (j:Nat) (hij:i≠j) {x:Str} {pos':Pos} (hN:X.N.Nodup) (hi:X.N[j]?=a_ x) (hx:Loc X.env.scope x) (he:FE X e fe) (hs:Mk e (a_ (.Name x pos')) pos.line X.env=pure e_:=by kernel_rfl) (hf:X.fn x=d_∨X.env.scope.names.lookup x=a_ .local:=by first | exact .inl rfl | exact .inr rfl | assumption) :
 FO1 X i (.Assign [.Name x pos'] e pos) (fz j fe):=⟨fun j' s σ Hf D I ⟨H,a,xs,ρ,ds,e1,ha,hia,E,r,o⟩=>by
 refine sr hN hi hx (oY hex he.h) hs hf j' s σ Hf D I ⟨H,a,xs,e1,ha,ρ,E,?_⟩;unfold fz at o
 match hfe:fe ρ with
 | none=>rw [hfe] at o; exact o.elim
 | some (.exc _)=>rw [hfe] at o; exact o.elim
 | some (.ok d) =>
  rw [hfe] at o;exact fun v H' e' rd ha'=>o _ H' xs e' ha' (by rw [Lq (Oh hij)]; exact hia) ((E.mono e').set rd) (Reps.mono e' _ _ r)⟩
theorem Hw (hex:X.ex=[]) {as bs:List L3} (hc:FT X c gb) (ha:FOs X i as f) (hb:FOs X i bs g):FO1 X i (.If c as bs pos) (oIf gb f g):=⟨fun j' s σ Hf D I ⟨H,a,xs,ρ,ds,e1,ha',hia,E,r,o⟩=>by
 refine yX (zO hex hc.h) ha.h hb.h j' s σ Hf D I ⟨H,a,xs,e1,ha',ρ,E,?_⟩;unfold oIf at o
 match hg:gb ρ with
 | none=>rw [hg] at o; exact o.elim
 | some (.exc _)=>rw [hg] at o; exact o.elim
 | some (.ok d_)=>rw [hg] at o; exact fun H' e' h'=>xY ⟨H',a,xs,ρ,ds,rfl,h',hia,E.mono e',Reps.mono e' _ _ r,OutW.mono e' o⟩
 | some (.ok e_)=>rw [hg] at o; exact fun H' e' h'=>xX ⟨H',a,xs,ρ,ds,rfl,h',hia,E.mono e',Reps.mono e' _ _ r,OutW.mono e' o⟩⟩
theorem DF {as bs:List L3} (hc:FT X c gb) (ha:FOs X i as f) (hb:FOs X i bs g):FO1 X i (.If c as bs pos) (zR i gb f g):=⟨fun j' s σ Hf D I ⟨H,a,xs,ρ,ds,e1,ha',hia,E,r,o⟩=>by
 subst e1;refine yX hc.h ha.h hb.h j' s σ _ D I ⟨_,iY ha' hia E r,?_⟩;unfold zR at o
 match hg:gb (ρ.set i (a_ (.lst ds))) with
 | none=>rw [hg] at o; exact o.elim
 | some (.exc _)=>rw [hg] at o; exact o.elim
 | some (.ok d_) =>
  rw [hg] at o;intro H2 e2;obtain ⟨H',q1,q2,q3⟩:=tX ha' e2;exact xY ⟨H',a,xs,ρ,ds,q1,q2,hia,E.mono q3,Reps.mono q3 _ _ r,OutW.mono q3 o⟩
 | some (.ok e_) =>
  rw [hg] at o;intro H2 e2;obtain ⟨H',q1,q2,q3⟩:=tX ha' e2;exact xX ⟨H',a,xs,ρ,ds,q1,q2,hia,E.mono q3,Reps.mono q3 _ _ r,OutW.mono q3 o⟩⟩
theorem DG (he:FE X e fe):FO1 X i (.Return (a_ e) pos) (tW i fe):=⟨fun j' s σ Hf D I ⟨H,a,xs,ρ,ds,e1,ha',hia,E,r,o⟩=>by
 subst e1;refine xQ he.h j' s σ _ D I ⟨_,iY ha' hia E r,?_⟩;unfold tW at o
 match hg:fe (ρ.set i (a_ (.lst ds))) with
 | none=>rw [hg] at o; exact o.elim
 | some (.exc _)=>rw [hg] at o; exact o.elim
 | some (.ok d)=>rw [hg] at o; exact fun v H2 e2 rd=>o v H2 ((fU ha').trans e2) rd⟩
theorem DH (hex:X.ex=[]) {x:Str} {apos cpos:Pos} (hx:PE X (.Name x apos) (Bt i)) (he:FE X e fe)
 (hbase:NP (.Name x apos) "append" X.env (eval (.Name x apos) X.env)=eval (.Name x apos) X.env:=by kernel_rfl)
 (hfew:((Lc cpos (k_ [e] X.env)).all (fun x=>!x.1) && (Nv cpos (Mb [] X.env)).all (fun x=>x.1.isSome)
   && u_ ([e].length + ([]:List No).length + (if ([]:List No).isEmpty then 0 else 1) < 30))=d_:=by kernel_rfl)
 {ap:Pos} (hline:(ap.endLine == cpos.line)=d_:=by kernel_rfl) (hs:k_ [e] X.env=(e_,eval e X.env) :: k_ [] X.env:=by kernel_rfl) (hplain:(Lc cpos (k_ [] X.env)).any (·.1)=e_:=by kernel_rfl)
 (hsw:Mk (.Call (.Attribute (.Name x apos) "append" ap) [e] [] cpos) ck pos.line X.env=pure e_:=by kernel_rfl) :
 FO1 X i (.Expr (.Call (.Attribute (.Name x apos) "append" ap) [e] [] cpos) pos) (rT fe):=⟨fun j' s σ Hf D I ⟨H,a,xs,ρ,ds,e1,ha',hia,E,r,o⟩=>by
 refine sj (za PM OG PySem.F.type_list_append sZ hx (zP hex (oQ he tq hs).h) hbase hfew hline hs hplain) hsw j' s σ Hf D I ?_;unfold rT at o;split at o
 · rename_i hl
   match hfe:fe ρ with
   | none=>rw [hfe] at o; exact o.elim
   | some (.exc _)=>rw [hfe] at o; exact o.elim
   | some (.ok d) =>
    rw [hfe] at o;refine ⟨.ref a,hia,.inl ⟨rfl,xs,SqL.of (by rw [e1]; exact ax)⟩,H,a,xs,e1,ha',ρ,E,?_⟩;show OutA X H (ac fe ah ρ) _;rw [aj hfe aB];intro vs H' e' rs ha2;obtain ⟨v,rfl,rv⟩:=dO rs;have hz:xs.length < sizeLine:=by
     have:=r.length;have h2:=cA (n:=xs.length + 1) (by omega);omega
    refine ⟨a,xs,v,rfl,rfl,ax,hz,?_⟩;rw [rY];exact o σ H' (xs ++ [v]) e' ha2 hia (E.mono e') ((Reps.mono e' _ _ r).append ⟨v,[],rfl,rv,rfl⟩)
 · exact o.elim⟩
end
def p9 (i:Nat) (g:FnA) (f:iX):FnS:=fun ρ=>bV (g ρ) fun ds=>if ds.length≤100000 then (match f (ρ.set i ck) ds with
 | some (.nx ρ' ds')=>a_ (.nx (ρ'.set i (a_ (.lst ds'))))
 | some (.rt d)=>a_ (.rt d)
 | none=>ck) else ck
section
variable {X:Cx} {i:Nat} {sts:List L3} {f:iX} {g:FnA} {es:List H_} {pos lp:Pos}
theorem zU {x:Str} {pos':Pos} (hN:X.N.Nodup) (hi:X.N[i]?=a_ x) (hx:Loc X.env.scope x) (hg:FA X es g) (hr:FOs X i sts f) (hs:Mk (.List es lp) (a_ (.Name x pos')) pos.line X.env=pure e_:=by kernel_rfl)
 (hf:X.fn x=d_∨X.env.scope.names.lookup x=a_ .local:=by first | exact .inl rfl | exact .inr rfl | assumption):FSs X (.Assign [.Name x pos'] (.List es lp) pos :: sts) (p9 i g f):=⟨fun j' s σ H D I ⟨ρ,E,o⟩=>by
 refine lH (sr (i:=i) hN hi hx (xW hg.h) hs hf) hr.h j' s σ H D I ⟨ρ,E,?_⟩;unfold p9 at o
 match hgr:g ρ with
 | none=>rw [hgr] at o; exact o.elim
 | some (.exc _)=>rw [hgr] at o; exact o
 | some (.ok ds) =>
  rw [hgr] at o;intro vs H1 e1 rs;have o2:OutS X H (if ds.length≤100000 then (match f (ρ.set i ck) ds with
   | some (.nx ρ' ds')=>a_ (.nx (ρ'.set i (a_ (.lst ds'))))
   | some (.rt d)=>a_ (.rt d)
   | none=>ck) else ck) D:=o
  by_cases hl:ds.length≤100000
  · rw [if_pos hl] at o2;refine ⟨by rw [rs.length]; exact cA hl,fun p hp=>?_⟩;have hil:i < σ.length:=by rw [I.len]; exact (KQ.mp hi).1
    refine ⟨H1,p,vs,ρ.set i ck,ds,rfl,hp,Lu hil,?_,rs,?_⟩
    · have E1:=(E.mono e1).fgt1 i;refine ⟨by rw [LQ]; exact E1.len,fun j d hj=>?_⟩;by_cases hij:i=j
      · subst hij;by_cases hl2:i < ρ.length
        · rw [Lu hl2] at hj; cases hj
        · rw [Nl (by rw [LQ]; omega)] at hj; cases hj
      · obtain ⟨v,q1,q2⟩:=E1.at' j d hj;exact ⟨v,by rw [Lq hij]; exact q1,q2⟩
    · match hfr:f (ρ.set i ck) ds with
      | none=>rw [hfr] at o2; exact o2.elim
      | some (.rt d)=>rw [hfr] at o2; exact fun v H' e' r'=>o2 v H' (e1.trans e') r'
      | some (.nx ρ' ds') =>
       rw [hfr] at o2;exact fun σ' H' xs' e' ha' hi' E' r'=>o2 σ' _ ((e1.trans e').trans (fU ha')) (iY ha' hi' E' r')
  · rw [if_neg hl] at o2;exact o2.elim⟩
end
def iZ (j:Nat) (js:List Nat) (body:iX):List Dv→Ev→List Dv→Option Fo
 | [],ρ,xs=>a_ (.nx (fgt js ρ) xs)
 | d :: ds,ρ,xs=>match body ((fgt js ρ).set j (a_ d)) xs with
  | some (.nx ρ' xs')=>iZ j js body ds ρ' xs'
  | o=>o
def qc (j:Nat) (js:List Nat) (src:FnA) (body:iX):iX:=fun ρ xs=>p8 (src ρ) fun ds=>if imms ds=d_ then iZ j js body ds ρ xs else ck
theorem lZ:∀ {ds:List Dv} {n:Nat} {d:Dv},imms ds=d_→ds[n]?=a_ d→imm d=d_
 | [],_,_,_,h=>by simp at h
 | e :: ds,0,d,i,h=>by
  have i':imm e=d_∧imms ds=d_:=by simpa [imms] using i
  cases (show a_ e=a_ d from h);exact i'.1
 | e :: ds,n + 1,d,i,h=>by
  have i':imm e=d_∧imms ds=d_:=by simpa [imms] using i
  exact lZ i'.2 (show ds[n]?=a_ d from h)
theorem wN {K:f_} {H:Hp} {a:l_} {xs:List V} {d:Dv} {v:V} (i:imm d=d_) (r:Rep K (upd H a (.lst xs)) d v):Rep K H d v :=
 Rep.tups (fun b ys q=>by
  by_cases hb:b=a
  · rw [hb,ax] at q; cases q
  · rw [ay hb] at q; exact q) d v i r
theorem DI {X:Cx} {i:Nat} {tg iter:H_} {body:List L3} {pos:Pos} {src:FnA} {fb:iX} (hex:X.ex=[]) (j:Nat) (js:List Nat) (hij:i≠j) (hp:O3 (F_ X.prog X.w) X.A X.env X.xe) (hc:X.calm=d_) (hi:FI X tg iter src) (hg:PG X tg (vW j)) (hb:FOs X i body fb)
 (hs:∀ x,K9 iter X.env x=pure x:=by intro _; kernel_rfl):FO1 X i (.For tg iter body [] pos) (qc j js src fb):=⟨fun j' s σ Hf D I ⟨H,a,xs,ρ,ds,e1,ha,hia,E,r,o⟩=>by
 refine sE hp hc (zQ hex hi.h) hg hb.h hs j' s σ Hf D I ⟨H,a,xs,e1,ha,ρ,E,?_⟩;unfold qc at o
 match hf:src ρ with
 | none=>rw [hf] at o; exact o.elim
 | some (.exc _)=>rw [hf] at o; exact o.elim
 | some (.ok us) =>
  rw [hf] at o;have o0:OutW X i a H (if imms us=d_ then iZ j js fb us ρ ds else ck) D:=o;by_cases him:imms us=d_
  · rw [if_pos him] at o0;intro J H1 e1 wk ha1;have o1:=OutW.mono e1 o0;refine ⟨fun n m σ' Hf'=>m=us.length - n∧n≤us.length∧∃ H' xs' ρ' ds',Hf'=upd H' a (.lst xs')∧H' a=ck∧Same H1 H'∧σ'[i]?=a_ (a_ (.ref a))∧Envs X.K H' σ' ρ'∧Reps X.K H' ds' xs'∧OutW X i a H' (iZ j js fb (us.drop n) ρ' ds') D,
     ⟨us.length,by simp,K3 _,H1,xs,ρ,ds,rfl,ha1,.refl H1,hia,E.mono e1,Reps.mono e1 _ _ r,by simpa using o1⟩,?_⟩
    rintro n m σ' Hf' ⟨rfl,hn,H',xs',ρ',ds',rfl,ha',e2,hia',E',r',o'⟩;have e2f:Same H1 (upd H' a (.lst xs')):=e2.trans (fU ha');by_cases hlt:n < us.length
    · refine .inr ⟨wk.go n _ e2f hlt,fun σ2 Hf2=>∃ H2 xs2 ρ2 ds2,Hf2=upd H2 a (.lst xs2)∧H2 a=ck∧Same H1 H2∧σ2[i]?=a_ (a_ (.ref a))∧Envs X.K H2 σ2 ρ2∧Reps X.K H2 ds2 xs2∧OutW X i a H2 (iZ j js fb (us.drop (n + 1)) ρ2 ds2) D,
       fun σ2 Hf2 q=>⟨us.length - (n + 1),by omega,rfl,hlt,q⟩,fun x H2 y=>?_⟩
      obtain ⟨rfl,d,hd,rd⟩:=wk.yld n _ x H2 e2f hlt y;have rd':=wN (lZ him hd) rd;rw [iT hd] at o';show tO X i fb _ _ _;refine ⟨H',a,xs',(fgt js ρ').set j (a_ d),ds',rfl,ha',by rw [Lq (Oh hij)]; exact hia',(Envs.fgt js E').set rd',r',?_⟩;unfold iZ at o'
      match hb':fb ((fgt js ρ').set j (a_ d)) ds' with
      | none=>rw [hb'] at o'; exact o'
      | some (.rt r)=>rw [hb'] at o'; exact o'
      | some (.nx ρ2 ds2)=>rw [hb'] at o'; exact fun σ2 H3 xs3 e3 h3 hi3 E3 r3=>⟨H3,xs3,ρ2,ds2,rfl,h3,e2.trans e3,hi3,E3,r3,OutW.mono e3 o'⟩
    · have hn':n=us.length:=by omega
      subst hn';rw [OB] at o';exact .inl ⟨wk.stop _ e2f,o' σ' H' xs' (.refl H') ha' hia' (Envs.fgt js E') r'⟩
  · rw [if_neg him] at o0;exact o0.elim⟩
end FD
namespace FD
open PySem PySem.Spec PyProof.Rows L2 PySem.W
def bM:Dv→Bool
 | .bl _=>d_
 | .int _=>d_
 | _=>e_
theorem zV (K:f_) (d:Dv):MT K (.type (tyD d)) (.type "int")=a_ (bM d):=by cases d <;> kernel_rfl
theorem DJ:LO (b_ "int")=a_ (.type "int"):=by kernel_rfl
def Gf:List Dv→Option (Rs Dv)
 | [.int i,.int j]=>a_ (.ok (.int (if j < i then j else i)))
 | _=>ck
def yw:List Dv→Option (Rs Dv)
 | [.int i]=>if i.natAbs.log2 < 1920 then a_ (.ok (.str (SF i))) else ck
 | _=>ck
section
variable {X:Cx} {p pos:Pos} {e:H_} {es:List H_} {ga:FnA}
theorem DK (hc:X.calm=d_) (hg:Gl X "min") (hm:X.mg "min"=ck) (ha:FA X (e :: es) ga) (he:k_ (e :: es) X.env=(e_,eval e X.env) :: k_ es X.env:=by kernel_rfl) (hpl:(Lc pos (k_ es X.env)).any (·.1)=e_:=by kernel_rfl):FE X (.Call (.Name "min" p) (e :: es) [] pos) (fB1 Gf ga) :=
 de (gq (sM hc) hg hm PyProof.Rows.boot_min ha.h (by decide) (by decide) he hpl) fun σ H Q ρ E o=>⟨ρ,E,OutA.bind o fun ds vs H1 e1 rs o1=>by
  unfold Gf at o1;split at o1
  · rename_i i j;obtain ⟨v,v2,rfl,r,r2⟩:=zt rs;cases (show v=.int i from r);cases (show v2=.int j from r2);exact ⟨i,j,rfl,o1 _ H1 (.refl H1) rfl⟩
  · exact o1.elim⟩
theorem zW (hg:Gl X "str") (hm:X.mg "str"=ck) (ha:FA X (e :: es) ga) (he:k_ (e :: es) X.env=(e_,eval e X.env) :: k_ es X.env:=by kernel_rfl) (hpl:(Lc pos (k_ es X.env)).any (·.1)=e_:=by kernel_rfl):FE X (.Call (.Name "str" p) (e :: es) [] pos) (fB1 yw ga) :=
 de (gS mG hg hm (by decide +kernel) ha.h (by decide) (by decide) he hpl) fun σ H Q ρ E o=>⟨ρ,E,OutA.bind o fun ds vs H1 e1 rs o1=>by
  unfold yw at o1;split at o1
  · rename_i i;split at o1
    · rename_i hz;obtain ⟨v,rfl,r⟩:=dO rs;cases (show v=.int i from r);exact ⟨i,rfl,hz,o1 _ H1 (.refl H1) rfl⟩
    · exact o1.elim
  · exact o1.elim⟩
end
def leX:Dv→Dv→Option (Rs Dv)
 | .int i,.int j=>a_ (.ok (.bl (u_ (i≤j))))
 | .str x,.str y=>a_ (.ok (.bl (!u_ (y.cps.toList < x.cps.toList))))
 | _,_=>ck
def Jp:R2:=fun x y H Q=>rI0 (fun i j=>.bl (u_ (i≤j))) x y H Q∨∃ i j,x=.str i∧y=.str j∧Q (.bl (!u_ (j.cps.toList < i.cps.toList))) H
section
variable {X:Cx}
theorem tY:OpR X (K_ .LtE) (fun x y H Q=>∃ i j,x=.str i∧y=.str j∧Q (.bl (!u_ (j.cps.toList < i.cps.toList))) H):=by
 intro j' s σ H x y v u Q I rx ry h;obtain ⟨i,j,rfl,rfl,q⟩:=h;obtain ⟨t,rfl⟩:=rx;obtain ⟨t',rfl⟩:=ry;exact PySem.P.le_str ⟨.bl _,H,I,rfl,q⟩
theorem Hx:OpR X (K_ .LtE) Jp:=op_le.or tY
theorem Hy:GOp X Jp leX:=by
 intro dx dy x y H Q rx ry o;cases dx <;> cases dy <;> try exact (show False from o).elim
 · rename_i i j;exact .inl ⟨i,j,rx,ry,o _ H (.refl H) rfl⟩
 · rename_i i j;exact .inr ⟨i,j,rx,ry,o _ H (.refl H) rfl⟩
end
def Hz (K:f_) (S:List Nat) (Cs:List l_) (CJ:l_):Bool:=excIn K CJ bmV "ValueError.__new__" && S.all fun c=>excIn K (Cs.getD c 0) bmV "ValueError.__new__" && xiB K (Cs.getD c 0) && mroIn K (Cs.getD c 0) (.ref CJ) == a_ d_ && mroIn K (Cs.getD c 0) (.ref (Cs.getD c 0)) == a_ d_ &&
 kitOne K (.ref (Cs.getD c 0)) (.type "ValueError") == a_ d_ && S.all fun d=>kitOne K (.ref (Cs.getD c 0)) (.ref (Cs.getD d 0)) == a_ (c == d)
structure XAllS (K:f_) (S:List Nat) (cls:Nat→l_) (CJ:l_):Prop where
 at_:∀ c∈S,nsIn K z_ (xnm c)=a_ (a_ (.ref (cls c)))∧excIn K (cls c) bmV "ValueError.__new__"=d_∧XI K (cls c)∧mroIn K (cls c) (.ref CJ)=a_ d_∧mroIn K (cls c) (.ref (cls c))=a_ d_∧kitOne K (.ref (cls c)) (.type "ValueError")=a_ d_∧∀ d∈S,kitOne K (.ref (cls c)) (.ref (cls d))=a_ (c == d)
 exJ:excIn K CJ bmV "ValueError.__new__"=d_
theorem wO {K:f_} {S:List Nat} {Cs:List l_} {CJ:l_} (hn:∀ c∈S,nsIn K z_ (xnm c)=a_ (a_ (.ref (Cs.getD c 0)))) (h:Hz K S Cs CJ=d_):XAllS K S (fun c=>Cs.getD c 0) CJ:=by
 unfold Hz at h;rw [pi] at h;refine ⟨fun c hc=>?_,h.1⟩;have h1:=LF.mp h.2 c hc;simp only [pi,beq_iff_eq] at h1;exact ⟨hn c hc,h1.1.1.1.1.1,Hn h1.1.1.1.1.2,h1.1.1.1.2,h1.1.1.2,h1.1.2,fun d hd=>by
  have h2:=LF.mp h1.2 d hd;simpa using h2⟩
section
variable {K:f_} {S:List Nat} {cls:Nat→l_} {CJ:l_} (x:XAllS K S cls CJ)
include x
theorem XAllS.xc (c:Nat) (h:c∈S):XC K c (cls c):=⟨(x.at_ c h).1,(x.at_ c h).2.1⟩
theorem XAllS.same {c:Nat} {C:l_} (h:c∈S) (q:nsIn K z_ (xnm c)=a_ (a_ (.ref C))):C=cls c:=by
 have z:=(x.at_ c h).1;rw [q] at z;cases z;rfl
end
section
variable {X:Cx} {ex hx:H_} {f g:FnE} {J:Str} {CJ:l_} {np rp rp2 hpos pos:Pos}
end
end FD
namespace ST
open PySem PySem.SetTable
def stp (m i:Nat):Nat:=(i * 5 + 1) % (m + 1)
def it (m:Nat):Nat→Nat→Nat
 | 0,i=>i
 | k + 1,i=>it m k (stp m i)
def wP (m:Nat):Bool:=(o_ (m + 1)).all fun i=>(o_ (m + 1)).all fun j=>(o_ (m + 1)).any fun k=>it m k i == j
theorem Jq:wP 7=d_:=by decide +kernel
theorem DM:wP 31=d_:=by decide +kernel
theorem DN {m:Nat} (h:wP m=d_) {i j:Nat} (hi:i≤m) (hj:j≤m):∃ k,k≤m∧it m k i=j:=by
 unfold wP at h;have h1:=LF.mp h i (Lk.mpr (by omega));have h2:=LF.mp h1 j (Lk.mpr (by omega));obtain ⟨k,hk,e⟩:=MY.mp h2;exact ⟨k,by have:=Lk.mp hk; omega,by simpa using e⟩
def lp (m:Nat):Nat→Nat×Nat→Nat×Nat
 | 0,x=>x
 | r + 1,x=>lp m r (leap m x.1 x.2)
theorem tZ (m:Nat):∀ (a b:Nat) (x:Nat×Nat),lp m (a + b) x=lp m b (lp m a x)
 | 0,b,x=>by rw [NG]; rfl
 | a + 1,b,x=>by
  rw [Nat.succ_add];show lp m (a + b) (leap m x.1 x.2)=lp m b (lp m a (leap m x.1 x.2));exact tZ m a b _
theorem zX (m:Nat):∀ (r:Nat) (x:Nat×Nat),x.1≤m→(lp m r x).1≤m
 | 0,x,h=>h
 | r + 1,x,h=>zX m r _ (by
  show (x.1 * 5 + 1 + x.2 / 32) % (m + 1)≤m;exact MF (Pk _ (Oi m)))
theorem DO (m:Nat):∀ (r:Nat) (x:Nat×Nat),(lp m r x).2=x.2 / 32 ^ r
 | 0,x=>by simp [lp]
 | r + 1,x=>by
  show (lp m r (leap m x.1 x.2)).2=_;rw [DO m r];show x.2 / 32 / 32 ^ r=_;rw [Nat.div_div_eq_div_mul,Nat.pow_succ,RS]
theorem ua (m:Nat):∀ (r:Nat) (i:Nat),(lp m r (i,0)).1=it m r i
 | 0,i=>rfl
 | r + 1,i=>by
  show (lp m r (leap m i 0)).1=it m r (stp m i);have e:leap m i 0=(stp m i,0):=by unfold leap stp; simp
  rw [e];exact ua m r _
theorem ub {m:Nat} (c:wP m=d_) {i pt j:Nat} (hi:i≤m) (hp:pt < 2 ^ 64) (hj:j≤m):∃ r,r≤13 + m∧(lp m r (i,pt)).1=j:=by
 have h0:(lp m 13 (i,pt)).2=0:=by
  rw [DO];exact Nat.div_eq_of_lt (by
   show pt < 32 ^ 13; have:(32:Nat) ^ 13=2 ^ 65:=by decide
   omega)
 obtain ⟨k,hk,e⟩:=DN c (zX m 13 (i,pt) hi) hj;refine ⟨13 + k,by omega,?_⟩;rw [tZ];have e2:lp m 13 (i,pt)=((lp m 13 (i,pt)).1,0):=by rw [← h0]
 rw [e2,ua];exact e
def advN (t:SetTable):Nat→Probe→Probe
 | 0,p=>p
 | n + 1,p=>advN t n (t.advance p)
theorem gu (t:SetTable):∀ (a b:Nat) (p:Probe),advN t (a + b) p=advN t b (advN t a p)
 | 0,b,p=>by rw [NG]; rfl
 | a + 1,b,p=>by
  rw [Nat.succ_add];exact gu t a b _
structure Vp (t:SetTable) (p:Probe):Prop where
 i:p.i≤t.mask
 pt:p.perturb < 2 ^ 64
 more:p.more≤9
 dm:p.dummy=ck
theorem na (m i:Nat):SW m i - i≤9:=by unfold SW; split <;> omega
def nb (t:SetTable) (p:Probe):Probe:={ p with j:=(leap t.mask p.i p.perturb).1,more:=SW t.mask (leap t.mask p.i p.perturb).1 - (leap t.mask p.i p.perturb).1,i:=(leap t.mask p.i p.perturb).1,perturb:=(leap t.mask p.i p.perturb).2 }
theorem qd (t:SetTable) (p:Probe) (h:p.more=0):t.advance p=nb t p:=by
 unfold R8 nb;rw [if_neg (by omega)]
theorem uc (t:SetTable) (p:Probe) (h:0 < p.more):t.advance p={ p with j:=p.j + 1,more:=p.more - 1 }:=by
 unfold R8;rw [if_pos h]
theorem oZ (t:SetTable):∀ (k:Nat) (p:Probe),p.more=k→advN t (k + 1) p=nb t p
 | 0,p,h=>qd t p h
 | k + 1,p,h=>by
  show advN t (k + 1) (t.advance p)=_;rw [uc t p (by omega),oZ t k _ (by show p.more - 1=k; omega)];rfl
theorem ud (m i pt:Nat) (h:pt < 2 ^ 64):(leap m i pt).2 < 2 ^ 64:=Nat.lt_of_le_of_lt (Nat.div_le_self _ _) h
theorem Vp.leap {t:SetTable} {p:Probe} (v:Vp t p):Vp t (nb t p):=⟨by
 show (p.i * 5 + 1 + p.perturb / 32) % (t.mask + 1)≤t.mask;exact MF (Pk _ (Oi t.mask)),(show (Rp t.mask p.i p.perturb).2 < 2 ^ 64 from ud _ _ _ v.pt),(show SW t.mask (Rp t.mask p.i p.perturb).1 - (Rp t.mask p.i p.perturb).1≤9 from na _ _),v.dm⟩
theorem Vp.adv {t:SetTable} {p:Probe} (v:Vp t p):Vp t (t.advance p):=by
 by_cases h:0 < p.more
 · rw [uc t p h]; exact ⟨v.i,v.pt,by show p.more - 1≤9; have:=v.more; omega,v.dm⟩
 · rw [qd t p (by omega)]; exact v.leap
theorem Vp.advN {t:SetTable}:∀ (n:Nat) {p:Probe},Vp t p→Vp t (advN t n p)
 | 0,p,v=>v
 | n + 1,p,v=>Vp.advN n v.adv
theorem qe (t:SetTable):∀ (r:Nat) (p:Probe),Vp t p→∃ n,n≤10 * r∧(advN t n p).i=(lp t.mask r (p.i,p.perturb)).1∧(r≠0→(advN t n p).j=(advN t n p).i)
 | 0,p,v=>⟨0,by omega,rfl,fun h=>absurd rfl h⟩
 | r + 1,p,v=>by
  obtain ⟨n,h1,h2,h3⟩:=qe t r (nb t p) v.leap;refine ⟨p.more + 1 + n,by have:=v.more; omega,?_,fun _=>?_⟩
  · rw [gu,oZ t p.more p rfl,h2]; rfl
  · rw [gu,oZ t p.more p rfl];by_cases hr:r=0
    · subst hr;have hn:n=0:=by omega
      subst hn;rfl
    · exact h3 hr
structure Tb (t:SetTable) (n:Nat):Prop where
 size:t.place.size=n
 dm:t.dummies=#[]
 cyc:wP t.mask=d_
 room:n≤t.mask
theorem ue (j:Nat):has #[] j=e_:=by unfold has; simp
theorem lm {t:SetTable} {n:Nat} (T:Tb t n) (j:Nat):t.slot j=.empty∨∃ i,t.slot j=.live i∧t.place[i]?=a_ j:=by
 unfold SetTable.slot;dsimp only;split
 · rename_i h;exact .inr ⟨_,rfl,by simpa using h⟩
 · rw [T.dm,ue];exact .inl rfl
theorem uf:∀ (m:Nat) (l:List Nat),l.length≤m→∃ j,j≤m∧j ∉ l
 | 0,l,h=>⟨0,r_ _,by
  have:l=[]:=MW.mp (by omega);simp [this]⟩
 | m + 1,l,h=>by
  by_cases hm:(m + 1)∈l
  · obtain ⟨j,hj,hn⟩:=uf m (l.erase (m + 1)) (by rw [List.length_erase_of_mem hm]; omega);refine ⟨j,by omega,fun hl=>hn ?_⟩;exact (List.mem_erase_of_ne (by omega)).mpr hl
  · exact ⟨m + 1,r_ _,hm⟩
theorem wQ {t:SetTable} {n:Nat} (T:Tb t n):∃ j,j≤t.mask∧t.slot j=.empty:=by
 obtain ⟨j,hj,hn⟩:=uf t.mask t.place.toList (by simp [T.size,T.room]);refine ⟨j,hj,?_⟩;rcases lm T j with h | ⟨i,h,e⟩
 · exact h
 · exact absurd (LB.mpr (Array.mem_of_getElem? e)) hn
theorem HC {t:SetTable} {n:Nat} (T:Tb t n) {p:Probe} (v:Vp t p):∃ N,N < 10 * Qj t.mask∧t.slot (advN t N p).j=.empty:=by
 obtain ⟨j,hj,he⟩:=wQ T;obtain ⟨r,hr,e⟩:=ub T.cyc (zX t.mask 1 (p.i,p.perturb) v.i) (by
  show (leap t.mask p.i p.perturb).2 < 2 ^ 64;exact ud _ _ _ v.pt) hj (pt:=(lp t.mask 1 (p.i,p.perturb)).2)
 obtain ⟨N,h1,h2,h3⟩:=qe t (1 + r) p v;refine ⟨N,by unfold Qj; omega,?_⟩;rw [h3 (by omega),h2,tZ];rw [show lp t.mask 1 (p.i,p.perturb)=((lp t.mask 1 (p.i,p.perturb)).1,(lp t.mask 1 (p.i,p.perturb)).2) from rfl,e];exact he
theorem first {P:Nat→Prop} [DecidablePred P]:∀ (b:Nat),(∃ n,n < b∧P n)→∃ n,n < b∧P n∧∀ k,k < n→¬ P k
 | 0,⟨n,h,_⟩=>absurd h (Nc _)
 | b + 1,⟨n,h,hp⟩=>by
  by_cases q:∃ n,n < b∧P n
  · obtain ⟨n,h1,h2,h3⟩:=first b q
    exact ⟨n,by omega,h2,h3⟩
  · have hn:n=b:=by
     have:¬ n < b:=fun z=>q ⟨n,z,hp⟩;omega
    subst hn;exact ⟨n,by omega,hp,fun k hk z=>q ⟨k,hk,z⟩⟩
theorem yx {t:SetTable} {n:Nat} (T:Tb t n) {p:Probe} (v:Vp t p):∃ N,N < 10 * Qj t.mask∧t.slot (advN t N p).j=.empty∧∀ k,k < N→t.slot (advN t k p).j≠.empty :=
 first (P:=fun n=>t.slot (advN t n p).j=.empty) _ (HC T v)
theorem ug {t:SetTable} {n:Nat} (T:Tb t n) (hashAt:Nat→Int) (h:Int):∀ (N fuel:Nat) (p:Probe),Vp t p→N < fuel→t.slot (advN t N p).j=.empty→(∀ k,k < N→t.slot (advN t k p).j≠.empty) →
 PH t hashAt h fuel p=a_ (.empty (advN t N p).j ck)∨∃ m i,m < N∧t.slot (advN t m p).j=.live i∧t.place[i]?=a_ (advN t m p).j∧hashAt i=h∧PH t hashAt h fuel p=a_ (.candidate (advN t m p).j i (advN t (m + 1) p))
 | N,0,p,v,hf,_,_=>absurd hf (Nc _)
 | 0,fuel + 1,p,v,hf,he,_=>by
  refine .inl ?_;unfold PH;rw [show t.slot p.j=.empty from he];show a_ (Met.empty p.j p.dummy)=_;rw [v.dm];rfl
 | N + 1,fuel + 1,p,v,hf,he,hn=>by
  rcases lm T p.j with h0 | ⟨i,h1,h2⟩
  · exact absurd h0 (hn 0 (by omega))
  · by_cases hh:hashAt i=h
    · refine .inr ⟨0,i,by omega,h1,h2,hh,?_⟩;unfold PH;rw [h1];dsimp only;rw [if_pos (by simpa using hh)];rfl
    · have hg:PH t hashAt h (fuel + 1) p=PH t hashAt h fuel (t.advance p):=by
       conv=>lhs; unfold PH
       rw [h1];dsimp only;rw [if_neg (by simpa using hh)]
      rcases ug T hashAt h N fuel (t.advance p) v.adv (by omega) he (fun k hk=>hn (k + 1) (by omega)) with q | ⟨m,i',q1,q2,q3,q4,q5⟩
      · exact .inl (by rw [hg,q]; rfl)
      · exact .inr ⟨m + 1,i',by omega,q2,q3,q4,by rw [hg,q5]; rfl⟩
theorem l3 {t:SetTable} (h:Int):Vp t (t.probeStart h):=⟨by
 show bits h % (t.mask + 1)≤t.mask;exact MF (Pk _ (Oi t.mask)),by
 show bits h < 2 ^ 64;unfold bits;have h1:=MD h (show (2 ^ 64:Int)≠0 by decide);have h2:=LR h (show (0:Int) < 2 ^ 64 by decide);omega,na _ _,rfl⟩
theorem ng {m:Nat} {owner:Array (Option Nat)}:∀ (fuel i pt:Nat),i≤m→(∃ r,r < fuel∧(owner.getD (lp m r (i,pt)).1 (a_ 0)).isNone=d_)→∃ j,OC m owner fuel i pt=a_ j∧(owner.getD j (a_ 0)).isNone=d_
 | 0,i,pt,_,⟨r,h,_⟩=>absurd h (Nc _)
 | fuel + 1,i,pt,hi,⟨r,h,e⟩=>by
  unfold OC;split
  · rename_i k hk;exact ⟨i + k,rfl,by simpa using List.find?_some hk⟩
  · rename_i hk;cases r with
    | zero =>
     have hm:0∈o_ (SW m i + 1 - i):=Lk.mpr (by unfold SW; split <;> omega);have:=List.find?_eq_none.mp hk 0 hm;exact absurd (show (owner.getD (i + 0) (a_ 0)).isNone=d_ from e) this
    | succ r =>
     exact ng fuel _ _ (by
      show (i * 5 + 1 + pt / 32) % (m + 1)≤m;exact MF (Pk _ (Oi m))) ⟨r,by omega,e⟩
theorem yy:∀ (l:List (Option Nat)) (j k:Nat),l[j]?=a_ ck→((l.set j (a_ k)).filterMap id).Perm (k :: l.filterMap id)
 | [],j,k,h=>by simp at h
 | x :: l,0,k,h=>by
  have:x=ck:=by simpa using h
  subst this;simp
 | x :: l,j + 1,k,h=>by
  have ih:=yy l j k (by simpa using h);cases x with
  | none=>simpa using ih
  | some y =>
   show List.Perm (y :: (l.set j (a_ k)).filterMap id) (k :: y :: l.filterMap id);exact (ih.cons y).trans (S1 ..)
theorem uh:∀ (l:List (Option Nat)),(l.filterMap id).length < l.length→∃ j,j < l.length∧l[j]?=a_ ck
 | [],h=>by simp at h
 | none :: l,h=>⟨0,by simp,rfl⟩
 | some y :: l,h=>by
  obtain ⟨j,h1,h2⟩:=uh l (by simpa using h);exact ⟨j + 1,by simpa using h1,by simpa using h2⟩
def zY (m:Nat) (acc:Option (Array (Option Nat)×Nat)) (h:Int):Option (Array (Option Nat)×Nat):=do
 let (owner,k) ← acc
 let j ← OC m owner (Qj m) (bits h % (m + 1)) (bits h)
 pure (owner.setIfInBounds j (a_ k),k + 1)
theorem zZ (h:Int):bits h < 2 ^ 64:=by
 unfold bits;have h1:=MD h (show (2 ^ 64:Int)≠0 by decide);have h2:=LR h (show (0:Int) < 2 ^ 64 by decide);omega
theorem getD_none {owner:Array (Option Nat)} {j:Nat} (h:(owner.getD j (a_ 0)).isNone=d_):j < owner.size∧owner.toList[j]?=a_ ck:=by
 rw [Nr] at h;cases q:owner[j]? with
 | none=>rw [q] at h; simp at h
 | some x =>
  rw [q] at h;have hx:x=ck:=by simpa using h
  subst hx;refine ⟨(Lo.mp q).1,by rw [Ot]; exact q⟩
theorem ui {m:Nat} (c:wP m=d_):∀ (hs:List Int) (owner:Array (Option Nat)) (k:Nat),owner.size=m + 1→(owner.toList.filterMap id).Perm (o_ k)→k + hs.length≤m →
 ∃ o2,hs.foldl (zY m) (a_ (owner,k))=a_ (o2,k + hs.length)∧o2.size=m + 1∧(o2.toList.filterMap id).Perm (o_ (k + hs.length))
 | [],owner,k,h1,h2,h3=>⟨owner,rfl,h1,h2⟩
 | h :: hs,owner,k,h1,h2,h3=>by
  have hk:k + (hs.length + 1)≤m:=by simpa using h3
  obtain ⟨j0,a1,a2⟩:=uh owner.toList (by rw [h2.length_eq,On]; simp only [K4,h1]; omega);have hj0:j0≤m:=by simp only [K4,h1] at a1; omega
  obtain ⟨r,b1,b2⟩:=ub c (i:=bits h % (m + 1)) (pt:=bits h) (MF (Pk _ (Oi m))) (zZ h) hj0;obtain ⟨j,f1,f2⟩:=ng (m:=m) (owner:=owner) (Qj m) (bits h % (m + 1)) (bits h) (MF (Pk _ (Oi m))) ⟨r,by unfold Qj; omega,by
   rw [b2,Nr];rw [Ot] at a2;rw [a2]; rfl⟩
  obtain ⟨g1,g2⟩:=getD_none f2;have e:zY m (a_ (owner,k)) h=a_ (owner.setIfInBounds j (a_ k),k + 1):=by
   show (OC m owner (Qj m) (bits h % (m + 1)) (bits h)).bind (fun j=>a_ (owner.setIfInBounds j (a_ k),k + 1))=_;rw [f1]; rfl
  rw [Qn,e];obtain ⟨o2,c1,c2,c3⟩:=ui c hs (owner.setIfInBounds j (a_ k)) (k + 1) (by rw [Array.size_setIfInBounds]; exact h1) (by
   rw [Array.toList_setIfInBounds];refine (yy _ _ _ g2).trans ((h2.cons k).trans ?_);rw [Qk];exact (NA k (o_ k)).symm) (by omega)
  refine ⟨o2,?_,c2,?_⟩
  · rw [c1]; simp only [MX]; congr 2; omega
  · simp only [MX]; rw [show k + (hs.length + 1)=k + 1 + hs.length by omega]; exact c3
theorem o5 {m:Nat} (c:wP m=d_) (hs:Array Int) (hl:hs.size≤m):∃ o2,SY m hs=a_ o2∧o2.size=m + 1∧(o2.toList.filterMap id).Perm (o_ hs.size):=by
 obtain ⟨o2,c1,c2,c3⟩:=ui c hs.toList (Qp (m + 1) ck) 0 (by simp) (by simp [List.filterMap_replicate]) (by simpa using hl);refine ⟨o2,?_,c2,by simpa using c3⟩;unfold SY;rw [← Array.foldl_toList];have e:(RE (fun acc h=>do
  let (owner,k) ← acc
  let j ← OC m owner (Qj m) (bits h % (m + 1)) (bits h)
  pure (owner.setIfInBounds j (a_ k),k + 1)) (a_ (Qp (m + 1) ck,0)) hs.toList:Option (Array (Option Nat)×Nat))=hs.toList.foldl (zY m) (a_ (Qp (m + 1) ck,0)):=rfl
 rw [e,c1];rfl
theorem qf:∀ (l:List (Option Nat)) (base:Nat),((o_ l.length).filterMap fun j=>(l.getD j ck).map (fun x=>(base + j,x))).map (·.2)=l.filterMap id
 | [],base=>rfl
 | x :: l,base=>by
  rw [MX,Qd,NO,NU];have ih:=qf l (base + 1);have e:(o_ l.length).filterMap ((fun j=>((x :: l).getD j ck).map (fun x=>(base + j,x))) ∘ Nat.succ)=(o_ l.length).filterMap fun j=>(l.getD j ck).map (fun x=>(base + 1 + j,x)):=by
   congr 1;funext j;show ((x :: l).getD (j + 1) ck).map _=_;simp only [List.getD_cons_succ];rw [show base + (j + 1)=base + 1 + j by omega]
  rw [e];cases x with
  | none=>simpa using ih
  | some y =>
   simp only [List.getD_cons_zero,Nb,K0];rw [ih];rfl
theorem uj {m finger moves:Nat} {led plain:Bool} (c:wP m=d_) (hs:Array Int) (hl:hs.size≤m):∃ t order,laid m finger moves led plain hs=a_ (t,order)∧t.mask=m∧t.moves=moves∧t.led=led∧t.plain=plain∧Tb t hs.size∧order.toList.Perm (o_ hs.size):=by
 obtain ⟨o2,c1,c2,c3⟩:=o5 c hs hl;have e:=qf o2.toList 0;have hlen:((o_ (m + 1)).filterMap fun j=>(o2.getD j ck).map (j,·))=((o_ o2.toList.length).filterMap fun j=>(o2.toList.getD j ck).map (fun x=>(0 + j,x))):=by
  rw [K4,c2];congr 1;funext j;rw [NG,Nr,NB,Ot]
 refine ⟨_,_,by unfold laid; rw [c1]; rfl,rfl,rfl,rfl,rfl,⟨?_,rfl,c,hl⟩,?_⟩
 · simp only [A_,KR];rw [hlen];have:=congrArg OH e;rw [KR] at this;rw [this,c3.length_eq,On]
 · rw [Rf,hlen,e];exact c3
theorem gx {α:Type} (xs:Array α) (p:Nat) (x:α) (h:p≤xs.size):(insertAt xs p x).size=xs.size + 1:=by
 unfold insertAt;simp only [Os,Array.size_push,Array.size_extract];omega
theorem qg (xs:Array Nat) (j:Nat):below xs j≤xs.size:=by
 unfold below;have:∀ (fuel lo hi:Nat),lo≤hi→hi≤xs.size→S_ xs j fuel lo hi≤xs.size:=by
  intro fuel
  induction fuel with
  | zero=>intro lo hi h1 h2; unfold S_; omega
  | succ fuel ih =>
   intro lo hi h1 h2;unfold S_;split
   · rename_i hlt;dsimp only;split
     · exact ih _ _ (by omega) h2
     · exact ih _ _ (by omega) (by omega)
   · omega
 exact this _ _ _ (K3 _) (r_ _)
theorem yz {t:SetTable} {n:Nat} (T:Tb t n) (h:n + 1≤t.mask) (j:Nat):Tb (t.put j).1 (n + 1)∧(t.put j).2≤n∧(t.put j).1.mask=t.mask∧(t.put j).1.led=t.led∧(t.put j).1.moves=t.moves:=by
 unfold SetTable.put;refine ⟨⟨?_,?_,T.cyc,h⟩,?_,rfl,rfl,rfl⟩
 · show (insertAt t.place (below t.place j) j).size=n + 1;rw [gx _ _ _ (qg _ _),T.size]
 · show (if has t.dummies j then eraseAt t.dummies (below t.dummies j) else t.dummies)=#[];rw [T.dm,ue];rfl
 · show below t.place j≤n;rw [← T.size];exact qg _ _
section
variable {prog:rl} {w:C_} {A:E_} {E:g_→h_→Prop} {s:h_}
abbrev TK (prog:rl) (w:C_) (h:KO) (k:List Str) (a:l_):Prop:=IsTupleKey (strKind prog w) h k a
abbrev hsh (prog:rl) (w:C_) (k:List Str):Int:=tupleKeyHash (strKind prog w) k
theorem gY {k:List Str} {vs:List g_} (h:ItemsAre (strKind prog w) k vs):∀ v∈vs,∃ x t,v=.str x t:=by
 induction h with
 | nil=>intro v hv; simp at hv
 | @cons k' v' ks vs h1 _ ih =>
  intro v hv;rcases s_.mp hv with rfl | hv
  · obtain ⟨t,rfl⟩:=Q3 h1;exact ⟨_,_,rfl⟩
  · exact ih v hv
theorem kq {k:List Str} {a:l_} {Q:Bool→h_→Prop} (hk:TK prog w s.heap k a) (h:Q e_ s):v_ (F_ prog w) A (N7 8 (.ref a)) Q E s:=by
 have hT:=hk.typeIs;obtain ⟨o,items,n,ho,_,hd,hi⟩:=hk;unfold N7;refine c_ (N4 hT ?_);show v_ _ _ ((if ("tuple" == "tuple")=d_ then pure d_ else isSubtype (.type "tuple") (.type "tuple")) >>= _) _ _ s;rw [if_pos (by decide)];refine c_ (j_ ?_);simp only [LM,p_,if_false];refine c_ (LJ ho hd ?_);refine c_ ?_;show v_ _ _ (S2 items _ _) _ _ s;rw [← Mt];refine MR _ (fun rest r s'=>r.1=ck∧s'=s∧∀ v∈rest,∃ x t,v=ND x t) _ ?_ ?_ _ _ ⟨rfl,rfl,gY hi⟩
 · rintro v rest r s' ⟨hr,rfl,hall⟩;obtain ⟨x,t,rfl⟩:=hall v on;refine c_ (j_ ?_);simp only [p_,if_false];exact j_ ⟨rfl,rfl,fun u hu'=>hall u (n_ _ hu')⟩
 · rintro ⟨r1,r2⟩ s' ⟨hr,rfl,_⟩;simp only at hr;subst hr;exact j_ h
theorem ul {k:List Str} {b:l_} (hk:TK prog w s.heap k b) {l:List g_} (hl:∀ v∈l,∃ k' a,v=.ref a∧TK prog w s.heap k' a) {Q:Bool→h_→Prop} (h:Q e_ s):v_ (F_ prog w) A (N6 (.ref b) l) Q E s:=by
 unfold N6;refine c_ ?_;refine MR _ (fun rest r s'=>r.1=ck∧s'=s∧∀ v∈rest,∃ k' a,v=q_ a∧TK prog w s.heap k' a) _ ?_ ?_ _ _ ⟨rfl,rfl,hl⟩
 · rintro v rest r s' ⟨hr,rfl,hall⟩;obtain ⟨k',a,rfl,ha⟩:=hall v on;have hrest:∀ v∈rest,∃ k' a,v=q_ a∧TK prog w s'.heap k' a:=fun u hu'=>hall u (n_ _ hu');dsimp only;split
   · exact j_ ⟨rfl,rfl,hrest⟩
   · refine c_ (Ni hk ?_);simp only [LM,p_,if_false];refine c_ (Ni ha ?_);simp only [LM,p_,if_false];refine c_ (kq hk ?_);simp only [p_,if_false];refine c_ (kq ha ?_);simp only [p_,if_false];exact j_ ⟨rfl,rfl,hrest⟩
 · rintro ⟨r1,r2⟩ s' ⟨hr,rfl,_⟩;simp only at hr;subst hr;exact j_ h
def Ent (prog:rl) (w:C_) (h:KO) (ks:List (List Str)) (es:List (Int×g_)):Prop:=∀ e∈es,∃ k a,k∈ks∧e.2=.ref a∧TK prog w h k a
theorem gy {t:SetTable} {n:Nat} (T:Tb t n):t.fits n=d_:=by
 unfold S4 Pz;rw [T.size,T.dm];simp [T.room]
theorem kr {S b:l_} {o:Obj} {es:Array (Int×g_)} {ep:Nat} {t:SetTable} {ks:List (List Str)} {k:List Str} {h:Int} {adding:Bool} {Q:SetFound→h_→Prop} (hu:A.units < cLine)
 (ho:s.heap.get? S=a_ o) (hd:o.data=.set es ep t) (T:Tb t es.size) (hm:t.mask % 2=1) (hE:Ent prog w s.heap ks es.toList) (hx:TK prog w s.heap k b) (hk:k ∉ ks) :
 ∀ (N fuel:Nat) (st:Option Probe),(∀ p,st=a_ p→Vp t p)→N < fuel→t.slot (advN t N (st.getD (t.probeStart h))).j=.empty→(∀ m,m < N→t.slot (advN t m (st.getD (t.probeStart h))).j≠.empty)→N < 10 * Qj t.mask →
  (∀ j,Q (.free j e_) s)→v_ (F_ prog w) A (ML S (.ref b) h adding fuel st) Q E s:=by
 intro N
 induction N using Nat.strongRecOn with
 | _ N ih =>
  intro fuel st hv hf he hn hN hQ;cases fuel with
  | zero=>exact absurd hf (Nc _)
  | succ fuel =>
   have hfit:=gy T;have v:Vp t (st.getD (t.probeStart h)):=by
    cases st with
    | none=>exact l3 h
    | some p=>exact hv p rfl
   unfold ML;refine c_ (Lx ho hd hfit ?_);dsimp only;have hgw:t.gaveWay=e_:=by unfold R7; rw [hm]; rfl
   rw [hgw];simp only [p_,if_false];unfold SX;rcases ug T _ h N _ (st.getD (t.probeStart h)) v hN he hn with q | ⟨m,i,hmN,q1,q2,q3,q5⟩
   · rw [q];dsimp only;exact j_ (hQ _)
   · rw [q5];dsimp only;have hi:i < es.size:=by
      have:=(Lo.mp q2).1;rw [T.size] at this;exact this
     obtain ⟨k',a,hk',ea,ta⟩:=hE es[i] (LB.mpr (RY hi));have hg:es[i]?=a_ (es[i].1,.ref a):=by rw [Pp hi,← ea]
     have rest:v_ (F_ prog w) A (do
      let a_ (_,y):=es[i]? | NV "internal:set-entry"
      let equal ← N8 [y] (eqBool y (.ref b))
      let (es',_,t') ← setState S
      if (adding && equal)=d_ then return SZ ck
      let a_ same:=t'.sameMemory t.moves t.mask | NV "set.changed-during-lookup:is-the-new-block-at-the-old-address"
      let still ← match (if same then t'.slot (advN t m (st.getD (t.probeStart h))).j else .empty) with
       | .live i'=>match es'[i']? with
        | some (_,y')=>do pure (if ← SI y' y then a_ i' else ck)
        | none=>pure ck
       | _=>pure ck
      match still with
      | none=>rule "set.search.anew"; ML S (.ref b) h adding fuel ck
      | some i'=>if equal then return .there (a_ i') else ML S (.ref b) h adding fuel (a_ (advN t (m + 1) (st.getD (t.probeStart h))))) Q E s:=by
      rw [hg];dsimp only;refine c_ (Lp (wpAny_eqBool_tuple hu ta hx ?_));have hne:u_ (k'=k)=e_:=decide_eq_false fun z=>hk (z ▸ hk');rw [hne];refine c_ (Lx ho hd hfit ?_);dsimp only;rw [Op];simp only [p_,if_false];have hsm:t.sameMemory t.moves t.mask=a_ d_:=by unfold Q4; simp
      rw [hsm];dsimp only;rw [if_pos rfl,q1];dsimp only;rw [hg];dsimp only;have hsame:SI (q_ a) (q_ a)=pure d_:=by
       unfold SI;dsimp only;rw [if_pos (by simp)]
      rw [hsame];refine c_ (c_ (j_ (j_ ?_)));rw [if_pos rfl];refine ih (N - (m + 1)) (by omega) fuel (a_ (advN t (m + 1) (st.getD (t.probeStart h)))) (fun p hp=>by cases hp; exact Vp.advN (m + 1) v) (by omega) ?_ ?_ (by omega) hQ
      · show t.slot (advN t (N - (m + 1)) (advN t (m + 1) (st.getD (t.probeStart h)))).j=.empty;rw [← gu,show m + 1 + (N - (m + 1))=N by omega];exact he
      · intro x hx';show t.slot (advN t x (advN t (m + 1) (st.getD (t.probeStart h)))).j≠.empty;rw [← gu];exact hn _ (by omega)
     by_cases hled:t.led=d_
     · rw [hled];simp only [LM,p_,if_false];exact rest
     · have hled':t.led=e_:=by simpa using hled
       rw [hled'];simp only [Ms,if_true];refine c_ (ul hx (fun v hv=>?_) ?_)
       · obtain ⟨e,he',rfl⟩:=KY.mp hv;have hem:e∈es.toList:=by
          have:=LB.mp he';rw [Sh] at this;exact LB.mpr this.1
         obtain ⟨k2,a2,_,e2,t2⟩:=hE e hem;exact ⟨k2,a2,e2,t2⟩
       · simp only [p_,if_false];exact rest
end
section
variable {prog:rl} {w:C_} {A:E_} {E:g_→h_→Prop} {s:h_}
abbrev byT (w:C_):Bool:=w.params.followText "set-order"
def SetT (prog:rl) (w:C_) (h:KO) (S:l_) (ks:List (List Str)) (vs:List g_) (n:Nat):Prop :=
 ∃ o es ep t,h.get? S=a_ o∧o.ExactSet∧o.data=.set es ep t∧es.size=n∧Tb t n∧((t.mask=7∧n≤4)∨(t.mask=31∧n≤18))∧Ent prog w h ks es.toList∧(es.toList.map (·.2)).Perm vs∧t.led=(!byT w)∧((∀ k∈ks,k≠[])→n≠0→t.plain=e_)
theorem iH {k:List Str} {a:l_} {Q:Bool→h_→Prop} (hk:TK prog w s.heap k a) (h:∀ b,(k≠[]→b=e_)→Q b s):v_ (F_ prog w) A (QD 8 (.ref a)) Q E s:=by
 have hT:=hk.typeIs;obtain ⟨o,items,n,ho,_,hd,hi⟩:=hk;have h0:items.toList=[]→k=[]:=fun e=>by
  rw [e] at hi;cases hi;rfl
 unfold QD;refine c_ (wpAny_specialOf hT F.slot_tuple_hash.lookup ?_);dsimp only;refine c_ (LJ ho hd ?_);refine c_ ?_;show v_ _ _ (S2 items _ _) _ _ s;rw [← Mt];refine MR _ (fun rest r s'=>r.1=ck∧s'=s∧(∀ v∈rest,∃ x t,v=ND x t)∧(rest=[]→k=[])) _ ?_ ?_ _ _ ⟨rfl,rfl,gY hi,h0⟩
 · rintro v rest r s' ⟨hr,rfl,hall,_⟩;obtain ⟨x,t,rfl⟩:=hall v on;refine c_ (j_ ?_);simp only [Ms,if_true];refine j_ ?_;exact j_ (h _ fun _=>rfl)
 · rintro ⟨r1,r2⟩ s' ⟨hr,rfl,_,h1⟩;simp only at hr;subst hr;exact j_ (h _ fun z=>absurd (h1 rfl) z)
theorem TK.keeps {h h':KO} {k:List Str} {a S:l_} {o:Obj} {es ep t} (x:TK prog w h k a) (ho:h.get? S=a_ o) (hd:o.data=.set es ep t) (hs:ME S h h'):TK prog w h' k a:=by
 obtain ⟨o',items,n,ho',hc,hd',hi⟩:=x;have hne:a≠S:=by
  rintro rfl;obtain rfl:o'=o:=KZ (ho'.symm.trans ho);rw [hd] at hd'; exact nomatch hd'
 exact ⟨o',items,n,(hs.2 a hne).trans ho',hc,hd',hi⟩
theorem Ent.keeps {h h':KO} {ks:List (List Str)} {l:List (Int×g_)} {S:l_} {o:Obj} {es ep t} (x:Ent prog w h ks l) (ho:h.get? S=a_ o) (hd:o.data=.set es ep t) (hs:ME S h h'):Ent prog w h' ks l:=fun e he=>by
 obtain ⟨k,a,h1,h2,h3⟩:=x e he;exact ⟨k,a,h1,h2,h3.keeps ho hd hs⟩
theorem g7 {h:KO} {S:l_} {o:Obj} {es es':Array (Int×g_)} {ep:Nat} {t t':SetTable} (ho:h.get? S=a_ o) (hd:o.data=.set es ep t):(h.update S (Mm es' t')).get? S=a_ { o with data:=.set es' (ep + 1) t' }:=by
 have:=Nj (Mm es' t') ho (by rw [R0 es' t' hd]; rfl);rw [R0 es' t' hd] at this; exact this
theorem Ent.insert {h:KO} {ks:List (List Str)} {es:Array (Int×g_)} {k:List Str} {b:l_} {p:Nat} {x:Int} (hE:Ent prog w h ks es.toList) (hb:TK prog w h k b):Ent prog w h (k :: ks) (uk es p (x,.ref b)).toList:=fun e he=>by
 have he':=(M6 es p (x,q_ b)).mem_iff.mp he;rw [Oq] at he';rcases D_.mp he' with q | q
 · obtain ⟨k',a,h1,h2,h3⟩:=hE e q;exact ⟨k',a,n_ _ h1,h2,h3⟩
 · rw [KN] at q;subst q;exact ⟨k,b,on,rfl,hb⟩
theorem ku {t:SetTable} {n:Nat} (T:Tb t n):t.fill=n:=by unfold Pz; rw [T.size,T.dm]; simp
theorem fV {n:Nat} (h:n≤18):n≤sizeLine:=by rw [Nt]; omega
theorem l4 {α:Type} (es:Array α):(o_ es.size).filterMap (fun i=>es[i]?)=es.toList:=by
 apply RV;intro i;have:(o_ es.size).filterMap (fun i=>es[i]?)=(o_ es.size).pmap (fun i h=>es[i]) (fun i h=>Lk.mp h):=by
  rw [PU,← Qu]
  conv=>lhs; rw [← O2 (o_ es.size)]
  rw [NU];congr 1;funext ⟨i,hi⟩;simp [Lk.mp hi]
 rw [this];simp [RD,NN];by_cases hi:i < es.size
 · simp [hi]
 · simp [hi]
theorem o6 {m finger moves:Nat} {led plain:Bool} {hs:Array Int} {t:SetTable} {order:Array Nat} (e:laid m finger moves led plain hs=a_ (t,order)):t.led=led∧t.plain=plain:=by
 unfold laid at e;cases hc:SY m hs with
 | none=>rw [hc] at e; cases e
 | some o=>rw [hc] at e; cases e; exact ⟨rfl,rfl⟩
theorem um {S b:l_} {ks:List (List Str)} {vs:List g_} {n:Nat} {k:List Str} {Q:Bool→h_→Prop} (hu:A.units < cLine) (hS:SetT prog w s.heap S ks vs n) (hx:TK prog w s.heap k b) (hk:k ∉ ks) (hn:n + 1≤18)
 (h:∀ h',ME S s.heap h'→SetT prog w h' S (k :: ks) (.ref b :: vs) (n + 1)→Q d_ { s with heap:=h' }):v_ (F_ prog w) A (P0 S (.ref b) (hsh prog w k)) Q E s:=by
 obtain ⟨o,es,ep,t,ho,hex,hd,hsz,T,hm,hE,hpm,hled,hpl0⟩:=hS;have hfit:=gy T;have hfit':t.fits es.size=d_:=by rw [hsz]; exact hfit
 have hodd:t.mask % 2=1:=by rcases hm with ⟨e,_⟩ | ⟨e,_⟩ <;> rw [e]
 have hroom:n + 1≤t.mask:=by rcases hm with ⟨e,q⟩ | ⟨e,q⟩ <;> omega
 unfold P0 setAddHashedIn;refine Lp (c_ (Lx ho hd hfit' ?_));dsimp only;have hbs:byScan (q_ b) es=e_:=by unfold byScan; rfl
 rw [hbs];simp only [p_,if_false];unfold setSearch;obtain ⟨N,h1,h2,h3⟩:=yx T (l3 (t:=t) (hsh prog w k));have hmk:t.mask≤31:=by rcases hm with ⟨e,_⟩ | ⟨e,_⟩ <;> omega
 refine c_ (kr (ks:=ks) hu ho hd (by rw [hsz]; exact T) hodd hE hx hk N 100000 ck (fun p hp=>by cases hp) (by unfold Qj at h1; omega) h2 h3 h1 fun j=>?_);dsimp only;refine c_ (Lx ho hd hfit' ?_);dsimp only;obtain ⟨P1,P2,P3,P4,P5⟩:=yz T hroom j;have hpm1:((uk es (t.put j).2 (hsh prog w k,q_ b)).toList.map (·.2)).Perm (.ref b :: vs):=by
  refine ((M6 es (t.put j).2 (hsh prog w k,q_ b)).map (·.2)).trans ?_;rw [Oq,LP];exact (hpm.append_right _).trans (NA _ _)
 have go:∀ bv:Bool,((∀ x∈k :: ks,x≠[])→(if bv then (t.put j).1 else { (t.put j).1 with plain:=e_ }).plain=e_)→v_ (F_ prog w) A (do
  SG S (uk es (t.put j).2 (hsh prog w k,.ref b)) (if bv then (t.put j).1 else { (t.put j).1 with plain:=e_ })
  if (!e_ && (if bv then (t.put j).1 else { (t.put j).1 with plain:=e_ }).tooFull)=d_ then SH S (Ny (es.size + 1))
  return d_) Q E s:=by
  intro bv hbv;have T2:∃ t2,(if bv then (t.put j).1 else { (t.put j).1 with plain:=e_ })=t2∧Tb t2 (n + 1)∧t2.mask=t.mask∧t2.led=t.led:=by
   cases bv with
   | true=>exact ⟨_,rfl,P1,P3,rfl⟩
   | false=>exact ⟨_,rfl,⟨P1.size,P1.dm,P1.cyc,P1.room⟩,P3,rfl⟩
  obtain ⟨t2,e2,T2,M2,L2⟩:=T2;rw [e2] at hbv ⊢;have hsz2:(uk es (t.put j).2 (hsh prog w k,q_ b)).size=n + 1:=by
   rw [gx _ _ _ (by rw [hsz]; exact P2),hsz]
  refine c_ (N5 ho hd ?_ (by rw [hsz2]; exact fV hn));have hsb:=Mh s.heap S (Mm (uk es (t.put j).2 (hsh prog w k,q_ b)) t2);have hg:=g7 (es':=uk es (t.put j).2 (hsh prog w k,q_ b)) (t':=t2) ho hd;have hE2:Ent prog w (s.heap.update S (Mm (uk es (t.put j).2 (hsh prog w k,q_ b)) t2)) (k :: ks) (uk es (t.put j).2 (hsh prog w k,q_ b)).toList:=(hE.insert hx).keeps ho hd hsb;by_cases hf:t2.tooFull=d_
  · rw [hf];simp only [Ms,Rr,if_true];have hfl:t2.fill * 5 ≥ t2.mask * 3:=by unfold Ow at hf; simpa using hf
    rw [ku T2,M2] at hfl;have h5:n + 1=5∧t.mask=7:=by rcases hm with ⟨e,q⟩ | ⟨e,q⟩ <;> rw [e] at hfl <;> omega
    have hn4:n=4:=by omega
    unfold SH;refine c_ (c_ (Lx hg rfl (by rw [hsz2]; exact gy T2) ?_));dsimp only;rw [hsz,hn4];rw [if_neg (by rw [Nt]; decide)];have hrl:t2.relaid ((uk es (t.put j).2 (hsh prog w k,q_ b)).map (·.1)) (Ny (4 + 1))=laid 31 t2.finger (t2.movedTo 31) t2.led t2.plain ((uk es (t.put j).2 (hsh prog w k,q_ b)).map (·.1)):=by
     unfold Su;rw [show sizeAbove (Ny (4 + 1)) - 1=31 by decide]
    obtain ⟨t3,order,r1,r2,r3,r4,r5,r6,r7⟩:=uj (finger:=t2.finger) (moves:=t2.movedTo 31) (led:=t2.led) (plain:=t2.plain) DM ((uk es (t.put j).2 (hsh prog w k,q_ b)).map (·.1)) (by rw [MZ,hsz2]; omega);have r8:t3.led=t2.led∧t3.plain=t2.plain:=o6 r1;rw [hrl,r1];rw [MZ,hsz2] at r6 r7;have hperm:(order.filterMap (fun i=>(uk es (t.put j).2 (hsh prog w k,q_ b))[i]?)).toList.Perm (uk es (t.put j).2 (hsh prog w k,q_ b)).toList:=by
     rw [Qf];refine (r7.filterMap _).trans ?_;rw [← hsz2,l4]
    have hsz3:(order.filterMap (fun i=>(uk es (t.put j).2 (hsh prog w k,q_ b))[i]?)).size=n + 1:=by
     rw [← K4,hperm.length_eq,K4,hsz2]
    show v_ (F_ prog w) A ((if ((order.filterMap (fun i=>(uk es (t.put j).2 (hsh prog w k,q_ b))[i]?)).size != (uk es (t.put j).2 (hsh prog w k,q_ b)).size)=d_ then (NV "internal:set-table-lost-an-element":Sem _) else pure (order.filterMap (fun i=>(uk es (t.put j).2 (hsh prog w k,q_ b))[i]?),t3)) >>= fun x=>SG S x.1 x.2) _ _ _;rw [if_neg (by rw [hsz3,hsz2]; simp)];refine c_ (j_ ?_);refine N5 hg rfl ?_ (by rw [hsz3]; exact fV hn);have hsb2:=Mh (s.heap.update S (Mm (uk es (t.put j).2 (hsh prog w k,q_ b)) t2)) S (Mm (order.filterMap (fun i=>(uk es (t.put j).2 (hsh prog w k,q_ b))[i]?)) t3);refine j_ (h _ (hsb.trans hsb2) ⟨_,_,_,t3,g7 hg rfl,hex,rfl,hsz3,r6,.inr ⟨r2,hn⟩,?_,(hperm.map (·.2)).trans hpm1,r8.1.trans (L2.trans hled),fun z _=>r8.2.trans (hbv z)⟩);have hE3:=hE2.keeps hg rfl hsb2;exact fun e he=>hE3 e (hperm.mem_iff.mp he)
  · have hf':t2.tooFull=e_:=by simpa using hf
    rw [hf'];simp only [Ms,Op,p_,if_false];have hfl:¬ (t2.fill * 5 ≥ t2.mask * 3):=by unfold Ow at hf'; simpa using hf'
    rw [ku T2,M2] at hfl;refine j_ (h _ hsb ⟨_,_,_,t2,hg,hex,rfl,hsz2,T2,?_,hE2,hpm1,L2.trans hled,fun z _=>hbv z⟩);rw [M2];rcases hm with ⟨e,q⟩ | ⟨e,q⟩
    · exact .inl ⟨e,by omega⟩
    · exact .inr ⟨e,hn⟩
 cases hpl:(t.put j).1.plain with
 | true =>
  simp only [if_true];refine c_ (iH hx fun bv hb=>?_);refine go bv fun z=>?_;rw [hb (z k on)];rfl
 | false =>
  simp only [p_,if_false];refine c_ (j_ ?_);exact go d_ fun _=>hpl
end
end ST
namespace ST
open PySem PySem.SetTable PyProof.Rows
section
variable {prog:rl} {w:C_} {A:E_} {R:QM→h_→Prop} {I:l_} {fp wr:List l_} {G:Array Oc→Array Oc→Prop} {n:Nat} {P:Nat→g_→Prop} {St:Nat→h_→Prop}
theorem TK.moved {h h':KO} {k:List Str} {a:l_} (x:TK prog w h k a) (hm:∀ o,h.get? a=a_ o→h'.get? a=a_ o):TK prog w h' k a:=by
 obtain ⟨o',items,n,ho',hc,hd',hi⟩:=x;exact ⟨o',items,n,hm _ ho',hc,hd',hi⟩
theorem SetT.moved {h h':KO} {S:l_} {ks:List (List Str)} {vs:List g_} {n:Nat} (x:SetT prog w h S ks vs n) (hS:∀ o,h.get? S=a_ o→h'.get? S=a_ o) (hm:∀ k∈ks,∀ a,TK prog w h k a→TK prog w h' k a):SetT prog w h' S ks vs n:=by
 obtain ⟨o,es,ep,t,ho,hex,hd,hsz,T,hmk,hE,hr⟩:=x;exact ⟨o,es,ep,t,hS _ ho,hex,hd,hsz,T,hmk,fun e he=>let ⟨k,a,h1,h2,h3⟩:=hE e he; ⟨k,a,h1,h2,hm k h1 a h3⟩,hr⟩
theorem z0 (W:WalksS prog w A.in1 I fp wr G n P St) (S:l_) (hSf:S ∉ fp) (hu:A.in1.units < cLine) (hwr:wr=[I]) (hI:∀ i s,St i s→∃ o vs,s.heap.get? I=a_ o∧o.data=.fields vs)
 (adr:Nat→l_) (key:Nat→List Str) (hval:∀ i v,P i v→v=.ref (adr i)) (hn:n≤18) (hdist:∀ i j,i < n→j < n→key i=key j→i=j) :
 ∀ (k i:Nat) (s:h_),n - i=k→i≤n→St i s→(∀ j,j < n→TK prog w s.heap (key j) (adr j)) →
  SetT prog w s.heap S (((o_ i).map key).reverse) (((o_ i).map fun j=>q_ (adr j)).reverse) i →
  (∀ s',Moved (S :: wr) G s s'→SetT prog w s'.heap S (((o_ n).map key).reverse) (((o_ n).map fun j=>q_ (adr j)).reverse) n→R (.ok (.ret .none)) s') →
  NC (F_ prog w) A (.builtin "set.update.loop" ⟨[.ref S,.ref I],[]⟩) R s:=by
 have hSw:S ∉ wr:=fun h=>hSf (W.sub _ h);have hsub:∀ b∈wr,b∈S :: wr:=fun b hb=>n_ _ hb;have notI:∀ {i:Nat} {s:h_} {k:List Str} {a:l_},St i s→TK prog w s.heap k a→a ∉ wr:=fun {i s k a} hst x hm=>by
  rw [hwr,KN] at hm;subst hm;obtain ⟨o',items,n,ho',hc,hd',hi⟩:=x;obtain ⟨o,vs,ho,hd⟩:=hI _ _ hst;rw [ho] at ho';cases ho';rw [hd] at hd';cases hd'
 intro k
 induction k with
 | zero =>
  intro i s hk hi hst hT hS hR;have hin:i=n:=by omega
  subst hin;refine LN MV ?_;rw [Md LV _];show v_ _ A.in1 (Pw (.ref I) >>= _) _ _ s;refine c_ (W.done s _ _ hst fun s' hm=>?_);show v_ _ A.in1 (ret KW) _ _ s';exact j_ (hR s' (hm.mono hsub) (hS.moved (fun o ho=>hm.heap S _ hSw ho) fun k' _ a x=>x.moved fun o ho=>hm.heap a _ (notI hst x) ho))
 | succ k ih =>
  intro i s hk hi hst hT hS hR;have hlt:i < n:=by omega
  refine LN MV ?_;rw [Md LV _];show v_ _ A.in1 (Pw (.ref I) >>= _) _ _ s;refine c_ (W.item i s _ _ hlt hst fun v s' hP hst' hm=>?_);have hv:=hval i v hP;subst hv;have hT':∀ j,j < n→TK prog w s'.heap (key j) (adr j):=fun j hj=>(hT j hj).moved fun o ho=>hm.heap _ _ (notI hst (hT j hj)) ho;have hS':SetT prog w s'.heap S (((o_ i).map key).reverse) (((o_ i).map fun j=>q_ (adr j)).reverse) i:=hS.moved (fun o ho=>hm.heap S _ hSw ho) fun k' _ a x=>x.moved fun o ho=>hm.heap a _ (notI hst x) ho;show v_ _ A.in1 (N8 [q_ (adr i)] (setAdd S (.ref (adr i))) >>= _) _ _ s';refine c_ (Lp ?_);unfold setAdd;refine Lp ?_;refine c_ (wpAny_pyHash_tuple hu (hT' i hlt) ?_);have hnew:key i ∉ ((o_ i).map key).reverse:=fun hm=>by
   rw [Sf] at hm;obtain ⟨j,hj,e⟩:=KY.mp hm;have hj':=Lk.mp hj;have:=hdist j i (by omega) hlt e;omega
  refine um (s:={ s' with toks:=s'.toks + ((key i).length + 1) }) hu hS' (hT' i hlt) hnew (by omega) fun h' hsb hS2=>?_;obtain ⟨oS,esS,epS,tS,hoS,_,hdS,_⟩:=hS';have hS3:SetT prog w h' S (((o_ (i + 1)).map key).reverse) (((o_ (i + 1)).map fun j=>q_ (adr j)).reverse) (i + 1):=by
   rw [Qk,LP,NM,LP,NM];exact hS2
  refine j_ ⟨Px LV _,ih (i + 1) _ (by omega) hlt (W.frame _ s' _ _ hst' (by simp) fun b hb o e=>?_) (fun j hj=>(hT' j hj).keeps hoS hdS hsb) hS3 fun s'' hm'' hS''=>?_⟩
  · rw [hsb.2 b (fun h:b=S=>hSf (by rw [← h]; exact hb))]; exact e
  · refine hR s'' (Moved.trans W.gtrans ((hm.mono hsub).then_heap (by simp) fun b o hb e=>?_) hm'') hS'';rw [hsb.2 b (fun h:b=S=>hb (by rw [h]; exact on))]; exact e
end
section
variable {prog:rl} {w:C_} {A:E_} {E:g_→h_→Prop} {s:h_}
abbrev i5 (led:Bool):Obj:={ cls:=.type "set",dict:=ck,data:=.set #[] 0 (.fresh 0 0 led) }
theorem o7 {h:KO} {S:l_} (e:h.get? S=a_ (i5 (!byT w))):SetT prog w h S [] [] 0 :=
 ⟨_,#[],0,_,e,⟨rfl,rfl,rfl⟩,rfl,rfl,⟨rfl,rfl,Jq,K3 _⟩,.inl ⟨rfl,by omega⟩,(fun e he=>by simp at he),.refl _,rfl,fun _ z=>absurd rfl z⟩
theorem o8 (a:g_) {Q₁:g_→h_→Prop} (h:Q₁ (.ref s.heap.objs.size) { s with heap:=s.heap.push (i5 (!byT w)) }):NC (F_ prog w) A (.call (.builtin "set.__new__") ⟨[.type "set",a],[]⟩) (wants Q₁ E) s:=by
 refine OK ?_; show v_ _ A.in1 (do checkBuiltinCall "set.__new__" ⟨[.type "set",a],[]⟩; again (.builtin "set.__new__" ⟨[.type "set",a],[]⟩)) _ _ s
 refine c_ (Si (F.newCall_set_1 a) (j_ ⟨Px ON _,LN F.entry_set_new ?_⟩)); rw [Md ON _];unfold NF.«set.__new__» Pj; have hsub:=sub_set_self; obtain ⟨hp,g,d,tk,os⟩:=s;dsimp only; wp_walk; refine wpAny_askSetting (j_ ?_);dsimp only; simp only [newObj]; exact c_ (Sl (j_ (j_ h)))
theorem uo {l:l_} {items:Array g_} {key:Nat→List Str} {adr:Nat→l_} {R:QM→h_→Prop} (hh:A.handled=ck) (hu:A.units + 8 < cLine) (hl:s.heap.IsList l items)
 (hk:∀ i,i < items.size→items[i]?=a_ (.ref (adr i))∧TK prog w s.heap (key i) (adr i)) (hn:items.size≤18) (hdist:∀ i j,i < items.size→j < items.size→key i=key j→i=j)
 (hR:∀ (h':KO) (tk:Nat),SetT prog w h' s.heap.objs.size (((o_ items.size).map key).reverse) (((o_ items.size).map fun j=>q_ (adr j)).reverse) items.size→(∀ b o,b < s.heap.objs.size→s.heap.get? b=a_ o→h'.get? b=a_ o)→R (.ok (.ret .none)) { s with heap:=h',toks:=tk }) :
 NC (F_ prog w) A (.call (.builtin "set.__init__") ⟨[.ref s.heap.objs.size,.ref l],[]⟩) R { s with heap:=s.heap.push (i5 (!byT w)) }:=by
 have hS:(s.heap.push (i5 (!byT w))).get? s.heap.objs.size=a_ (i5 (!byT w)):=t_ _ rfl;have hT:Py { s with heap:=s.heap.push (i5 (!byT w)) } (.ref s.heap.objs.size) "set":=⟨_,hS,rfl⟩;refine QE Ls.init.plain F.entry_set_init (check_set_init_1 hT ?_);obtain ⟨ol,hol,hcl,nl,hdl⟩:=hl;obtain ⟨ocls,odict,odata,oslots⟩:=ol;simp only at hcl hdl;subst hcl; subst hdl;have hol':(s.heap.push (i5 (!byT w))).get? l=a_ { cls:=.type "list",dict:=odict,data:=.seq items nl,slots:=oslots }:=i_ _ hol;have s1:=F.sub_list_set;have s2:=QO;have s3:(x_ "list" == x_ "dict")=e_:=by decide
 have hl1:(s.heap.push (i5 (!byT w))).IsList l items:=⟨_,hol',rfl,nl,rfl⟩;unfold NF.«set.__init__» noKeywords OP;generalize hPI:pyIter=PI
 wp_walk
 subst hPI;refine Nn hl1 (c_ (Qw ?_));have hlS:l < s.heap.objs.size:=w_ hol;have hneI:l≠(s.heap.push (i5 (!byT w))).objs.size:=by rw [K8]; exact KP (Nq hlS)
 have hSf:s.heap.objs.size ∉ [(s.heap.push (i5 (!byT w))).objs.size,l]:=by
  rw [K8];simp only [s_,I_,or_false,not_or];exact ⟨KP (Oy _),M9 hlS⟩
 have up:∀ {k:List Str} {a:l_},TK prog w s.heap k a→TK prog w ((s.heap.push (i5 (!byT w))).push { cls:=.type "list_iterator",data:=.fields #[.ref l,.int 0 0] }) k a:=fun x=>x.moved fun o e=>i_ _ (i_ _ e);refine z0 ((Ru (by simp [hh]) _ l hneI items).toS) s.heap.objs.size hSf (by show A.units + 1 + 1 < cLine; omega) rfl (fun i s' st=>by
  obtain ⟨⟨o,ho,_,hd⟩,_⟩:=st;exact ⟨o,_,ho,hd⟩) adr key (fun i v hv=>?_) hn hdist (items.size - 0) 0 _ (by omega) (K3 _) ⟨⟨_,t_ _ rfl,rfl,rfl⟩,(hl1.push _)⟩ (fun j hj=>up (hk j hj).2) ?_ ?_
 · have hi:i < items.size:=(Lo.mp hv).1;have:=(hk i hi).1;rw [this] at hv;exact (KZ hv).symm
 · exact o7 (i_ _ hS)
 · intro s' hm hS';obtain ⟨h',g',d',tk',os'⟩:=s';have eg:g'=s.gens:=hm.gens;have ed:d'=s.drawn:=hm.drawn;have eo:os'=s.os:=hm.os;subst eg; subst ed; subst eo;show v_ _ _ _ _ _ _;refine j_ ?_;show v_ _ _ (ret KW) _ _ _;refine j_ (hR h' tk' hS' fun b o hb e=>?_);have hb1:b≠s.heap.objs.size:=KP hb;have hb2:b≠(s.heap.push (i5 (!byT w))).objs.size:=by rw [K8]; exact KP (Nq hb)
   exact hm.heap b o (by simp only [s_,I_,or_false,not_or]; exact ⟨hb1,hb2⟩) (i_ _ (i_ _ e))
theorem call_set_T {l:l_} {items:Array g_} {key:Nat→List Str} {adr:Nat→l_} {Q:g_→h_→Prop} (hh:A.handled=ck) (hu:A.units + 16 < cLine) (hl:s.heap.IsList l items)
 (hk:∀ i,i < items.size→items[i]?=a_ (.ref (adr i))∧TK prog w s.heap (key i) (adr i)) (hn:items.size≤18) (hdist:∀ i j,i < items.size→j < items.size→key i=key j→i=j)
 (h:∀ (h':KO) (tk:Nat),SetT prog w h' s.heap.objs.size (((o_ items.size).map key).reverse) (((o_ items.size).map fun j=>q_ (adr j)).reverse) items.size→(∀ b o,b < s.heap.objs.size→s.heap.get? b=a_ o→h'.get? b=a_ o)→Q (.ref s.heap.objs.size) { s with heap:=h',toks:=tk }) :
 v_ (F_ prog w) A (call (.type "set") [.ref l]) Q E s:=by
 obtain ⟨c,tl,hmro⟩:=Ls.mro;have hmade:=Ls.made;have hsub:=Ls.sub;refine Rt (OK ?_);show v_ _ _ (callAny (.type "set") _) _ _ _;refine j_ ⟨Pf _ (by decide +kernel),LN F.entry_type_call ?_⟩;rw [RC (Qq "set" [.ref l] []) rfl];have h1:=Ls.notType;have h2:=Ls.canCreate;have hct:=F.typeCall_set_1 (.ref l)
 repeat (any_goals (first | assumption | wp_step))
 refine M1 (o8 (.ref l) (E:=E) (Q₁:=fun obj s₁=>obj=.ref s.heap.objs.size∧s₁={ s with heap:=s.heap.push (i5 (!byT w)) }) ⟨rfl,rfl⟩) fun r s₁ hr=>?_;cases r with
 | error e=>exact hr
 | ok fl =>
  cases fl with
  | ret obj =>
   obtain ⟨rfl,rfl⟩:=hr;have hT:Py { s with heap:=s.heap.push (i5 (!byT w)) } (.ref s.heap.objs.size) "set":=⟨_,t_ _ rfl,rfl⟩;have hli:=Ls.init.lookup;have hbi:=Ls.init.bind (.ref s.heap.objs.size)
   repeat (any_goals (first | assumption | wp_step))
   refine M1 (uo (R:=wants (fun r s₂=>r=.none∧∃ h' tk,s₂={ s with heap:=h',toks:=tk }∧SetT prog w h' s.heap.objs.size (((o_ items.size).map key).reverse) (((o_ items.size).map fun j=>q_ (adr j)).reverse) items.size ∧
    (∀ b o,b < s.heap.objs.size→s.heap.get? b=a_ o→h'.get? b=a_ o)) E) (by simp [hh]) (by show A.units + 1 + 8 < cLine; omega) hl hk hn hdist fun h' tk q1 q2=>⟨rfl,h',tk,rfl,q1,q2⟩) fun r₂ s₂ hr₂=>?_
   cases r₂ with
   | error e=>exact hr₂
   | ok fl₂ =>
    cases fl₂ with
    | ret r =>
     obtain ⟨rfl,h',tk,rfl,hS',hk'⟩:=hr₂
     repeat (any_goals (first | assumption | wp_step))
     exact h _ _ hS' hk'
    | _=>exact hr₂.elim
  | _=>exact hr.elim
theorem len_T {S:l_} {ks:List (List Str)} {vs:List g_} {n:Nat} {Q:g_→h_→Prop} (hS:SetT prog w s.heap S ks vs n) (hn:n≤18) (h:∀ t tk,Q (.int n t) { s with toks:=tk }):v_ (F_ prog w) A (call (.builtin "len") [.ref S]) Q E s:=by
 obtain ⟨o,es,ep,t,ho,hex,hd,hsz,T,hm,hE,hr⟩:=hS;subst hsz;exact call_len_set ho hex hd (gy T) (RG (show ((es.size:Nat):Int)≤18 by omega) (by decide)) (h _ _)
end
end ST
namespace FD
open PySem PySem.Spec PyProof.Rows L2
def kv:List Dv→Option (List Str)
 | []=>a_ []
 | .str x :: r=>(kv r).map (x :: ·)
 | _=>ck
section
variable {X:Cx} {j':List (l_×Obj)} {σ:L2.St} {H:Hp} {s:h_}
theorem q8 {α:Type} {ks:List α} {d:α} (h:ks.Nodup) {i j:Nat} (hi:i < ks.length) (hj:j < ks.length) (e:ks.getD i d=ks.getD j d):i=j:=by
 rw [NB,NB,B_ hi,B_ hj] at e;exact (Sg h).mp (by simpa using e)
end
section
variable {X:Cx} {p p2 pos pos2:Pos} {e:H_} {ga:FnA}
end
def Gg:Dv→Dv→Option (Rs Dv)
 | .lst xs,.int n=>if 0≤n∧xs.length * n.toNat≤100000∧n≤100000 then a_ (.ok (.lst (y_ n.toNat xs).flatten)) else ck
 | x,y=>Jl x y
section
variable {X:Cx}
theorem qh {K:f_} {H:Hp} {ds:List Dv} {vs:List V} (h:Reps K H ds vs):∀ n:Nat,Reps K H (y_ n ds).flatten (y_ n vs).flatten
 | 0=>rfl
 | n + 1=>by
  rw [LG,LG,MI,MI];exact h.append (qh h n)
def DP:R2:=fun x y H Q=>Je x y H Q∨(wF x y H Q∨rI CMul (fun i j=>.int (i * j)) x y H Q)
theorem DQ:OpR X (L5 .Mult) DP:=op_rep.or Dw
theorem DR:GOp X DP Gg:=by
 intro dx dy x y H Q rx ry o;cases dx with
 | lst xs =>
  cases dy with
  | int n =>
   have o2:Out X H (if 0≤n∧xs.length * n.toNat≤100000∧n≤100000 then a_ (.ok (.lst (y_ n.toNat xs).flatten)) else ck) Q:=o;by_cases hc:0≤n∧xs.length * n.toNat≤100000∧n≤100000
   · rw [if_pos hc] at o2;obtain ⟨p,vs,rfl,h1,q1⟩:=rx.lstE;refine .inl ⟨p,n,vs,rfl,ry,h1,by omega,by omega,by rw [q1.length]; exact cA hc.2.1,fun l hl=>o2 _ _ (aE hl _) ⟨l,_,rfl,ax,Reps.mono (aE hl _) _ _ (qh q1 _)⟩⟩
   · rw [if_neg hc] at o2;exact o2.elim
  | _=>exact .inr (yr _ _ x y H Q rx ry o)
 | _=>exact .inr (yr _ _ x y H Q rx ry o)
end
def frs {α:Type} (P:α→Bool):Sem α→Bool
 | .pure a=>P a
 | .fresh _=>d_
 | .at _ k=>frs P (k ())
 | .rule _ k=>frs P (k ())
 | .point _ k=>frs P (k ())
 | _=>e_
structure FTg (X:Cx) (e:H_) (f:FnB):Prop where
 h:∀ (j':List (l_×Obj)) (s:h_) (σ:L2.St) (H:Hp) (Q:Bool→Hp→Prop),Inv X j' σ H s→tT X f σ H Q→v_ (F_ X.prog X.w) X.A (isTrue e X.env (eval e X.env)) (fun b s'=>(b=d_∨1≤s'.toks)∧TP X j' σ Q b s') X.xe s
structure FWg (X:Cx) (e:H_) (f:FnB):Prop where
 h:∀ (whole:Sem g_) (j':List (l_×Obj)) (s:h_) (σ:L2.St) (H:Hp) (Q:Bool→Hp→Prop),Inv X j' σ H s→tT X f σ H Q→v_ (F_ X.prog X.w) X.A (isTrue e X.env whole) (fun b s'=>(b=d_∨1≤s'.toks)∧TP X j' σ Q b s') X.xe s
def Js:Flow→Bool
 | .next=>d_
 | _=>e_
section
variable {X:Cx} {a b o e:H_} {fa fo:FnE} {ga gb:FnB} {f g:FnS} {rest:List H_} {st:L3} {sts as bs:List L3} {pos apos cpos:Pos}
theorem FWg.ft (h:FWg X e ga):FTg X e ga:=⟨h.h _⟩
end
section
variable {prog:rl} {w:C_} {A:E_} {E:g_→h_→Prop} {s:h_}
theorem ln {iv tv:l_} {k:Nat} {vs:Array g_} {v:g_} {Q:g_→h_→Prop} (gi:s.heap.IsTupleIter iv tv k) (gt:s.heap.IsTuple tv vs) (gv:vs[k]?=a_ v)
 (q:∀ h',h'.IsTupleIter iv tv (k + 1)→ME iv s.heap h'→Q v { s with heap:=h' }):v_ (F_ prog w) A (Lr (.ref iv)) Q E s:=by
 obtain ⟨ob,o1,o2,o3⟩:=id gi; obtain ⟨tb,t1,_,m,t2⟩:=gt;unfold Lr;refine c_ (LS (name:=b_ "__next__") gi.typeIs Mn (MS Mn gi.typeIs OX ?_ (OO _)));show v_ _ _ (SK (.ref iv) 0 >>= _) _ _ s; refine c_ (LH o1 o3 (x:=.ref tv) rfl ?_);show v_ _ _ (if (q_ tv == KW)=d_ then _ else _) _ _ s; rw [if_neg (show ¬ ((q_ tv == KW)=d_) from xy)];show v_ _ _ (SK (.ref iv) 1 >>= _) _ _ s; refine c_ (LH o1 o3 (x:=.int k 0) rfl ?_);show v_ _ _ (seqItems? (.ref tv) >>= _) _ _ s; refine c_ (LJ t1 t2 ?_); simp only [RW,gv];refine c_ (wpAny_setField o1 o3 (by simp) (j_ ⟨v,rfl,j_ (q _ ⟨_,Nj _ o1 (Obj.isFreed_of_fields (Ry o3 _)),(Obj.cls_mapFields ..).trans o2,by rw [Ry o3]; simp [Qx]⟩ (Mh ..))⟩))
theorem uq {iv tv:l_} {k:Nat} {vs:Array g_} {Q:g_→h_→Prop} (hh:A.handled=ck) (gi:s.heap.IsTupleIter iv tv k) (gt:s.heap.IsTuple tv vs) (gv:vs[k]?=ck)
 (q:∀ h' e,Heap.ExtBut iv s.heap h'→(∃ o,h'.get? e=a_ o∧o.cls=.type "StopIteration")→E (.ref e) { s with heap:=h' }):v_ (F_ prog w) A (Lr (.ref iv)) Q E s:=by
 obtain ⟨ob,o1,o2,o3⟩:=id gi; obtain ⟨tb,t1,_,m,t2⟩:=gt;unfold Lr;refine c_ (LS (name:=b_ "__next__") gi.typeIs Mn (MS Mn gi.typeIs OX ?_ (OO _)));show v_ _ _ (SK (.ref iv) 0 >>= _) _ _ s; refine c_ (LH o1 o3 (x:=.ref tv) rfl ?_);show v_ _ _ (if (q_ tv == KW)=d_ then _ else _) _ _ s; rw [if_neg (show ¬ ((q_ tv == KW)=d_) from xy)];show v_ _ _ (SK (.ref iv) 1 >>= _) _ _ s; refine c_ (LH o1 o3 (x:=.int k 0) rfl ?_);show v_ _ _ (seqItems? (.ref tv) >>= _) _ _ s; refine c_ (LJ t1 t2 ?_); simp only [RW,gv];refine c_ (Ou (c_ (wpAny_setField o1 o3 (by simp) ?_)));show v_ _ _ (newExc (.type "StopIteration") [] >>= _) _ _ _; refine c_ ?_; simp only [newExc,newTuple]; refine c_ (Mf ?_ (by size_fits));refine c_ (m:=firstArgMember _ _) (Si (a:=KW) (by first | rfl | (simp only [firstArgMember]; rfl)) ?_); refine Mf ?_ (by size_fits); simp only [raiseNew]
 refine c_ (wpAny_handled ?_); first | rw [show A.in1.handled=ck from hh] | rw [hh]
 exact c_ (j_ (wpAny_throw (q _ _ (((Mh ..).extBut.push _).push _) ⟨_,t_ _ rfl,rfl⟩)))
theorem ur {z TI TO i1 i2 l1 l2:l_} {k:Nat} {xs ys:Array g_} {x y a b:g_} {Q:Option g_→h_→Prop} (D:SR z TI TO i1 i2 l1 l2)
 (hz:QN s.heap z TI TO .none) (hTI:Oa s.heap TI (.ref i1) (.ref i2)) (hTO:Oa s.heap TO a b)
 (j1:s.heap.IsTupleIter i1 l1 k) (j2:s.heap.IsTupleIter i2 l2 k) (m1:s.heap.IsTuple l1 xs) (m2:s.heap.IsTuple l2 ys) (hx:xs[k]?=a_ x) (hy:ys[k]?=a_ y)
 (q:∀ h',QN h' z TI TO (Qx s.heap.objs.size)→Oa h' TO x y→h'.IsTupleIter i1 l1 (k + 1)→h'.IsTupleIter i2 l2 (k + 1)→Oa h' s.heap.objs.size x y→h'.objs.size=s.heap.objs.size + 1 →
   (∀ c o,c≠z→c≠TO→c≠i1→c≠i2→s.heap.get? c=a_ o→h'.get? c=a_ o)→Q (a_ (.ref s.heap.objs.size)) { s with heap:=h' }) :
 v_ (F_ prog w) A (Pw (.ref z)) Q E s:=by
 have ty:s.TypeIs (.ref z) "zip":=⟨_,hz,rfl⟩;unfold Pw; refine c_ (Pv (LS (name:=b_ "__next__") ty OM (MS OM ty F.entry_zip_next ?_ (F.args_zip_next_1 _))));show v_ _ _ (SK (.ref z) 2 >>= _) _ _ s; refine c_ (LH hz rfl (x:=.bool e_) rfl ?_); show v_ _ _ (SK (.ref z) 3 >>= _) _ _ s;refine c_ (LH hz rfl (x:=.ref TI) rfl ?_); refine c_ (LJ hTI rfl ?_); show v_ _ _ (LL (.ref z) >>= _) _ _ s;refine c_ ?_; unfold LL; refine c_ (LH hz rfl (x:=.none) rfl (j_ ?_)); simp only [if_true]; refine c_ (Ou ?_);refine c_ (LH hz rfl (x:=.ref TO) rfl ?_); refine c_ (M0 hz (by simp) fun hA zA sA=>?_);have zA':QN hA z TI TO .ellipsis:=zA;refine c_ ?_; simp only [Se,Sx,Qm,Pn]; refine c_ (c_ (Rj ?_));show v_ _ _ (Lr (.ref i1) >>= _) _ _ _; refine c_ (ln (j1.extBut sA.extBut D.i1z) (m1.extBut sA.extBut D.l1z) hx fun hB jB sB=>j_ ?_);have tB:Oa hB TO a b:=sB.extBut _ _ D.TOi1 (sA.extBut _ _ D.TOz hTO);refine c_ (LJ tB rfl ?_); refine c_ (Qv tB fun hC tC sC=>?_);have tC':Oa hC TO x b:=tC;refine c_ (Sk (j_ ?_)); refine c_ (c_ (Rj ?_)); show v_ _ _ (Lr (.ref i2) >>= _) _ _ _;refine c_ (ln (((j2.extBut sA.extBut D.i2z).extBut sB.extBut D.i12.symm).extBut sC.extBut D.TOi2.symm) (((m2.extBut sA.extBut D.l2z).extBut sB.extBut D.l2i1).extBut sC.extBut D.l2TO) hy fun hD jD sD=>j_ ?_);have tD:Oa hD TO x b:=sD.extBut _ _ D.TOi2 tC';refine c_ (LJ tD rfl ?_); refine c_ (Qv tD fun hF tF sF=>?_);have tF':Oa hF TO x y:=tF;refine c_ (Sk (j_ (j_ ?_))); refine c_ (LJ tF' rfl ?_); refine c_ (wpAny_newTuple ?_);have n5:hF.objs.size=s.heap.objs.size:=by rw [sF.1,sD.1,sC.1,sB.1,sA.1]
 have z5:QN hF z TI TO .ellipsis:=sF.extBut _ _ D.TOz.symm (sD.extBut _ _ D.i2z.symm (sC.extBut _ _ D.TOz.symm (sB.extBut _ _ D.i1z.symm zA')));have k5:∀ c o,c≠z→c≠TO→c≠i1→c≠i2→s.heap.get? c=a_ o→hF.get? c=a_ o:=fun c o c1 c2 c3 c4 g=>sF.extBut _ _ c2 (sD.extBut _ _ c4 (sC.extBut _ _ c2 (sB.extBut _ _ c3 (sA.extBut _ _ c1 g))));have p1:hF.IsTupleIter i1 l1 (k + 1):=((jB.extBut sC.extBut D.TOi1.symm).extBut sD.extBut D.i12).extBut sF.extBut D.TOi1.symm;have p2:hF.IsTupleIter i2 l2 (k + 1):=jD.extBut sF.extBut D.TOi2.symm;have nz:z < hF.objs.size:=w_ z5;show v_ _ _ (NL (.ref z) (.ref hF.objs.size) >>= _) _ _ _; refine c_ ?_; unfold NL;have z6:QN (hF.push { cls:=.type "tuple",data:=.seq #[x,y] }) z TI TO .ellipsis:=i_ _ z5;refine c_ (M0 z6 (by simp) fun hG zG sG=>?_);have zG':QN hG z TI TO (Qx hF.objs.size):=zG;refine M0 zG' (by simp) fun hH zH sH=>?_;have zH':QN hH z TI TO (Qx hF.objs.size):=zH;have up:∀ c o,c≠z→hF.get? c=a_ o→hH.get? c=a_ o:=fun c o c1 g=>sH.extBut _ _ c1 (sG.extBut _ _ c1 (i_ _ g));have pr:Oa hH hF.objs.size x y:=sH.extBut _ _ (M9 nz) (sG.extBut _ _ (M9 nz) (t_ _ rfl));have n8:hH.objs.size=hF.objs.size + 1:=by rw [sH.1,sG.1,K8]
 rw [n5] at zH' pr n8;refine j_ ⟨_,rfl,j_ ?_⟩;show Q (a_ (.ref hF.objs.size)) _; rw [n5];exact q hH zH' (up _ _ D.TOz tF') (p1.at fun o g=>up _ o D.i1z g) (p2.at fun o g=>up _ o D.i2z g) pr n8 fun c o c1 c2 c3 c4 g=>up c o c1 (k5 c o c1 c2 c3 c4 g)
theorem wR {z TI TO i1 i2 l1 l2:l_} {k:Nat} {xs:Array g_} {a b:g_} {Q:Option g_→h_→Prop} (hh:A.handled=ck) (D:SR z TI TO i1 i2 l1 l2)
 (hz:QN s.heap z TI TO .none) (hTI:Oa s.heap TI (.ref i1) (.ref i2)) (hTO:Oa s.heap TO a b)
 (j1:s.heap.IsTupleIter i1 l1 k) (m1:s.heap.IsTuple l1 xs) (hx:xs[k]?=ck)
 (q:∀ h',(∀ c o,c≠z→c≠TO→c≠i1→c≠i2→s.heap.get? c=a_ o→h'.get? c=a_ o)→Q ck { s with heap:=h' }):v_ (F_ prog w) A (Pw (.ref z)) Q E s:=by
 have ty:s.TypeIs (.ref z) "zip":=⟨_,hz,rfl⟩;unfold Pw; refine c_ (Pv (LS (name:=b_ "__next__") ty OM (MS OM ty F.entry_zip_next ?_ (F.args_zip_next_1 _))));show v_ _ _ (SK (.ref z) 2 >>= _) _ _ s; refine c_ (LH hz rfl (x:=.bool e_) rfl ?_); show v_ _ _ (SK (.ref z) 3 >>= _) _ _ s;refine c_ (LH hz rfl (x:=.ref TI) rfl ?_); refine c_ (LJ hTI rfl ?_); show v_ _ _ (LL (.ref z) >>= _) _ _ s;refine c_ ?_; unfold LL; refine c_ (LH hz rfl (x:=.none) rfl (j_ ?_)); simp only [if_true]; refine c_ (Ou ?_);refine c_ (LH hz rfl (x:=.ref TO) rfl ?_); refine c_ (M0 hz (by simp) fun hA zA sA=>?_);have zA':QN hA z TI TO .ellipsis:=zA;refine c_ ?_; simp only [Se,Sx,Qm,Pn]; refine c_ (c_ (Rj ?_));show v_ _ _ (Lr (.ref i1) >>= _) _ _ _;refine c_ (uq hh (j1.extBut sA.extBut D.i1z) (m1.extBut sA.extBut D.l1z) hx fun hB e sB he=>?_);obtain ⟨oe,g1,g2⟩:=he;have zB:QN hB z TI TO .ellipsis:=sB _ _ D.i1z.symm zA';have ne:e≠z:=fun g=>by subst g; rw [zB] at g1; cases g1; simp at g2
 refine M0 zB (by simp) fun hC _ sC=>?_;refine c_ (wpAny_isInstance (T:="StopIteration") (b:=d_) ⟨oe,sC.extBut _ _ ne g1,g2⟩ isSubtype_stop (j_ (q hC fun c o c1 _ c3 _ g=>sC.extBut _ _ c1 (sB _ _ c3 (sA.extBut _ _ c1 g)))))
end
abbrev zq1 (h:KO) (l1:l_):KO:=h.push { cls:=.type "tuple_iterator",data:=.fields #[.ref l1,.int 0 0] }
abbrev zq2 (h:KO) (l1 l2:l_):KO:=(zq1 h l1).push { cls:=.type "tuple_iterator",data:=.fields #[.ref l2,.int 0 0] }
abbrev zq3 (h:KO) (l1 l2:l_):KO:=(zq2 h l1 l2).push { cls:=.type "tuple",data:=.seq #[.ref h.objs.size,.ref (zq1 h l1).objs.size] }
abbrev zq4 (h:KO) (l1 l2:l_):KO:=(zq3 h l1 l2).push { cls:=.type "tuple",data:=.seq #[.none,.none] }
abbrev zq5 (h:KO) (l1 l2:l_):KO:=(zq4 h l1 l2).push { cls:=.type "zip",data:=.fields #[.none,.bool e_,.bool e_,.ref (zq2 h l1 l2).objs.size,.ref (zq3 h l1 l2).objs.size] }
theorem wS (l1 l2:l_) (xs ys:Array g_) :
 Meets (NF.«zip.__new__» ⟨[.type "zip",.ref l1,.ref l2],[]⟩) (fun _ R s=>s.heap.IsTuple l1 xs∧s.heap.IsTuple l2 ys∧R (.ok (.ret (.ref (zq4 s.heap l1 l2).objs.size))) { s with heap:=zq5 s.heap l1 l2 }) :=
 .of_wp fun prog w A R s h=>by
  obtain ⟨hp,g,d,tk,os⟩:=s; obtain ⟨m1,m2,h⟩:=h;have hsub:=sub_zip;have t1:Heap.IsTuple (Shared.heap ⟨hp,g,d,tk,os⟩) l1 xs:=m1;have t2:Heap.IsTuple (Shared.heap ⟨hp.push { cls:=.type "tuple_iterator",data:=.fields #[.ref l1,.int 0 0] },g,d,tk,os⟩) l2 ys:=Heap.IsTuple.push m2 _
  wp_walk using O5 t1,O5 t2
  exact ⟨_,rfl,h⟩
section
variable {prog:rl} {w:C_} {A:E_} {E:g_→h_→Prop} {s:h_}
theorem ut {l1 l2:l_} {xs ys:Array g_} {Q:g_→h_→Prop} (m1:s.heap.IsTuple l1 xs) (m2:s.heap.IsTuple l2 ys)
 (q:∀ h',QN h' (s.heap.objs.size + 4) (s.heap.objs.size + 2) (s.heap.objs.size + 3) .none→Oa h' (s.heap.objs.size + 2) (.ref s.heap.objs.size) (.ref (s.heap.objs.size + 1)) →
   Oa h' (s.heap.objs.size + 3) .none .none→h'.IsTupleIter s.heap.objs.size l1 0→h'.IsTupleIter (s.heap.objs.size + 1) l2 0→h'.objs.size=s.heap.objs.size + 5 →
   (∀ c o,s.heap.get? c=a_ o→h'.get? c=a_ o)→Q (.ref (s.heap.objs.size + 4)) { s with heap:=h' }) :
 v_ (F_ prog w) A (call (.type "zip") [.ref l1,.ref l2]) Q E s:=by
 refine callType_new F.called_zip (by decide) (F.typeCall_zip_2 _ _) (F.newCall_zip_2 _ _) (fun obj=>F.args_object_init_3 obj _ _) F.entry_zip_new (wS l1 l2 xs ys) ⟨m1,m2,?_⟩;have n1:(zq1 s.heap l1).objs.size=s.heap.objs.size + 1:=K8 ..;have n2:(zq2 s.heap l1 l2).objs.size=s.heap.objs.size + 2:=by rw [K8,n1]
 have n3:(zq3 s.heap l1 l2).objs.size=s.heap.objs.size + 3:=by rw [K8,n2]
 have n4:(zq4 s.heap l1 l2).objs.size=s.heap.objs.size + 4:=by rw [K8,n3]
 have n5:(zq5 s.heap l1 l2).objs.size=s.heap.objs.size + 5:=by rw [K8,n4]
 have P:=@i_;have g5:(zq5 s.heap l1 l2).get? (zq4 s.heap l1 l2).objs.size=a_ _:=t_ _ rfl;have g4:(zq5 s.heap l1 l2).get? (zq3 s.heap l1 l2).objs.size=a_ _:=i_ _ (t_ _ rfl);have g3:(zq5 s.heap l1 l2).get? (zq2 s.heap l1 l2).objs.size=a_ _:=i_ _ (i_ _ (t_ _ rfl));have g2:(zq5 s.heap l1 l2).get? (zq1 s.heap l1).objs.size=a_ _:=i_ _ (i_ _ (i_ _ (t_ _ rfl)));have g1:(zq5 s.heap l1 l2).get? s.heap.objs.size=a_ _:=i_ _ (i_ _ (i_ _ (i_ _ (t_ _ rfl))));show _∧_;rw [n2,n3,n4] at g5; rw [n1,n2] at g3; rw [n3] at g4; rw [n1] at g2; rw [n4];exact ⟨⟨_,g5,rfl⟩,q _ g5 g3 g4 ⟨_,g1,rfl,rfl⟩ ⟨_,g2,rfl,rfl⟩ n5 fun c o g=>i_ _ (i_ _ (i_ _ (i_ _ (i_ _ g))))⟩
end
def Itz (a b:l_):It :=
 ⟨fun i H=>∃ xs ys x y,H a=a_ (.tup xs)∧H b=a_ (.tup ys)∧xs[i]?=a_ x∧ys[i]?=a_ y,
  fun i H v H'=>∃ p x y,v=.ref p∧H p=ck∧H'=upd H p (.tup [x,y])∧(∀ xs,H a=a_ (.tup xs)→xs[i]?=a_ x)∧(∀ ys,H b=a_ (.tup ys)→ys[i]?=a_ y),
  fun i H=>∃ xs ys,H a=a_ (.tup xs)∧H b=a_ (.tup ys)∧xs.length≤i⟩
structure ZSt (z TI TO i1 i2 a b:l_) (i:Nat) (h:KO):Prop where
 z:QN h z TI TO .none
 ti:Oa h TI (.ref i1) (.ref i2)
 to:∃ p q,Oa h TO p q
 j1:h.IsTupleIter i1 a i
 j2:h.IsTupleIter i2 b i
structure ZNe (z TI TO i1 i2:l_):Prop where
 n1:TI≠z
 n2:TO≠z
 n3:i1≠z
 n4:i2≠z
 n5:TI≠TO
 n6:TI≠i1
 n7:TI≠i2
 n8:TO≠i1
 n9:TO≠i2
 n10:i1≠i2
theorem HE {z TI TO i1 i2 c:l_} (h:c∈[z,TI,TO,i1,i2]):c=z∨c=TI∨c=TO∨c=i1∨c=i2:=by simpa using h
theorem wT {P:rl} {w:C_} {K:f_} {es:List H_} {k:Nat} {pos:Pos} (a b z TI TO i1 i2:l_) (N:ZNe z TI TO i1 i2):vX P w K (.Tuple es k pos) (Itz a b) [z,TI,TO,i1,i2] z (fun i h=>ZSt z TI TO i1 i2 a b i h) where
 mem:=by simp
 obj:=fun i h st c hc=>by
  obtain ⟨p,q,g3⟩:=st.to;rcases HE hc with rfl | rfl | rfl | rfl | rfl
  · exact ⟨_,st.z,fun v g=>by cases g⟩
  · exact ⟨_,st.ti,fun v g=>by cases g⟩
  · exact ⟨_,g3,fun v g=>by cases g⟩
  · obtain ⟨o,e,_,d⟩:=st.j1;exact ⟨o,e,fun v g=>by rw [d] at g; cases g⟩
  · obtain ⟨o,e,_,d⟩:=st.j2;exact ⟨o,e,fun v g=>by rw [d] at g; cases g⟩
 keep:=fun i h h' st kk=>by
  obtain ⟨p,q,g3⟩:=st.to;exact ⟨kk z (by simp) _ st.z,kk TI (by simp) _ st.ti,⟨p,q,kk TO (by simp) _ g3⟩,st.j1.at fun o e=>kk i1 (by simp) o e,st.j2.at fun o e=>kk i2 (by simp) o e⟩
 item:=by
  intro X hP hw hK hc i j' s σ H E I hf st hg;subst hP hw hK;obtain ⟨xs,ys,x,y,ha,hb,hx,hy⟩:=hg;obtain ⟨its,rv,p,_⟩:=I.tuple (SqT.of ha);obtain ⟨jts,sv,p',_⟩:=I.tuple (SqT.of hb);obtain ⟨u,hu,ru⟩:=rv.get hx;obtain ⟨v,hv,rw'⟩:=sv.get hy;obtain ⟨q1,q2,hTO⟩:=st.to;have F:∀ c∈[z,TI,TO,i1,i2],oG X j' H c:=hf;have fr:∀ c∈[z,TI,TO,i1,i2],H c=ck:=fun c m=>(hf c m).1;have an:∀ c∈[z,TI,TO,i1,i2],a≠c:=fun c m g=>by rw [g,fr c m] at ha; cases ha
  have bn:∀ c∈[z,TI,TO,i1,i2],b≠c:=fun c m g=>by rw [g,fr c m] at hb; cases hb
  have D:SR z TI TO i1 i2 a b:=⟨N.n1,N.n2,N.n3,N.n4,N.n5,N.n6,N.n7,N.n8,N.n9,N.n10,an z (by simp),an TO (by simp),an i1 (by simp),an i2 (by simp),bn z (by simp),bn TO (by simp),bn i1 (by simp),bn i2 (by simp)⟩;refine ur D st.z st.ti hTO st.j1 st.j2 (show s.heap.IsTuple a its.toArray from p) (show s.heap.IsTuple b jts.toArray from p') (x:=u) (y:=v) (by simpa using hu) (by simpa using hv) fun h' a1 a2 a3 a4 a5 a6 kk=>?_;refine ⟨_,rfl,wpAny_letOwnedTupleGo_zip a1 fun h2 z2 sb2=>?_⟩;have hp:H s.heap.objs.size=ck:=I.hok.fresh (r_ _);have zlt:z < s.heap.objs.size:=w_ st.z;have k2:∀ c o,c ∉ [z,TO,i1,i2]→s.heap.get? c=a_ o→h2.get? c=a_ o:=fun c o hc' q=>sb2.extBut c o (fun g=>hc' (by simp [g])) (kk c o (fun g=>hc' (by simp [g])) (fun g=>hc' (by simp [g])) (fun g=>hc' (by simp [g])) (fun g=>hc' (by simp [g])) q);have tp2:h2.get? s.heap.objs.size=a_ { cls:=.type "tuple",data:=.seq #[u,v] }:=sb2.extBut _ _ (M9 zlt) a5;have sub:∀ c,c∈[z,TO,i1,i2]→c∈[z,TI,TO,i1,i2]:=fun c m=>by
   have m':c=z∨c=TO∨c=i1∨c=i2:=by simpa using m
   rcases m' with rfl | rfl | rfl | rfl <;> simp
  have I1:Inv X j' σ (upd H s.heap.objs.size (.tup [x,y])) { s with heap:=h2 }:=by
   have nt:∀ c o,H c=a_ o→c ∉ [z,TO,i1,i2]:=fun c o q m=>by rw [fr c (sub c m)] at q; cases q
   refine I.step (g':=s.gens) (d':=s.drawn) (t':=s.toks) (ch:=[z,TO,i1,i2]) (fun c m=>?_) (fun c o _ _ hcb q _=>k2 c o hcb q) (fun c o _ _ hcb q _=>⟨o.slots,k2 c o hcb q⟩) (fun c o hcb q n=>?_) (fun c o hcb q=>⟨o,k2 c o hcb q⟩)
    (fun c zs q=>by rw [ay (ar q hp)]; exact q) (fun c o zs q=>by rw [ay (ar q hp)]; exact q) (fun c ps q=>⟨#[],by rw [ay (ar q hp),q]; simp⟩) (fun m hm=>?_) (fun c o2 q=>?_) I.bare
   · obtain ⟨f0,f1,f2,f3,f4,f5⟩:=hf c (sub c m);exact ⟨f3,f1,f4,f5⟩
   · rw [ay (KP (w_ q))]; exact n
   · obtain ⟨o,es',ep,ho,r⟩:=hm;exact ⟨o,es',ep,k2 _ o (fun m=>(hf _ (sub _ m)).2.1 rfl) ho,r⟩
   · by_cases hcs:c=s.heap.objs.size
     · subst hcs;rw [ax] at q;cases q;exact ⟨by show 2≤sizeLine; decide,[u,v],.cons ru (.cons rw' .nil),⟨_,tp2,rfl,_,rfl⟩⟩
     · rw [ay hcs] at q;refine (I.hok c o2 q).stay (fun e v' hcv qq=>k2 e v' ?_ qq) (fun e qq=>by rw [ay (ar qq hp)]; exact qq) fun e zs qq=>by rw [ay (ar qq hp)]; exact qq
       rcases hcv with rfl | hcv
       · exact nt _ _ q
       · exact nt _ _ hcv
  refine ⟨.ref s.heap.objs.size,_,I1,rfl,⟨_,x,y,rfl,hp,rfl,fun zs hz'=>?_,fun zs hz'=>?_⟩,⟨z2,?_,⟨_,_,sb2.extBut _ _ N.n2 a2⟩,a3.at fun o q=>sb2.extBut _ _ N.n3 q,a4.at fun o q=>sb2.extBut _ _ N.n4 q⟩,fun c m=>?_⟩
  · rw [ha] at hz'; cases hz'; exact hx
  · rw [hb] at hz'; cases hz'; exact hy
  · exact sb2.extBut _ _ N.n1 (kk _ _ N.n1 N.n5 N.n6 N.n7 st.ti)
  · have lt:c < s.heap.objs.size:=by
     rcases HE m with rfl | rfl | rfl | rfl | rfl
     · exact zlt
     · exact w_ st.ti
     · exact w_ hTO
     · obtain ⟨_,e,_⟩:=st.j1; exact w_ e
     · obtain ⟨_,e,_⟩:=st.j2; exact w_ e
    rw [ay (KP lt)]; exact fr c m
 done:=by
  intro X hP hw hK hc i j' s σ H E I hf st hg;subst hP hw hK;obtain ⟨xs,ys,ha,hb,hl⟩:=hg;obtain ⟨its,rv,p,_⟩:=I.tuple (SqT.of ha);obtain ⟨q1,q2,hTO⟩:=st.to;have fr:∀ c∈[z,TI,TO,i1,i2],H c=ck:=fun c m=>(hf c m).1;have an:∀ c∈[z,TI,TO,i1,i2],a≠c:=fun c m g=>by rw [g,fr c m] at ha; cases ha
  have bn:∀ c∈[z,TI,TO,i1,i2],b≠c:=fun c m g=>by rw [g,fr c m] at hb; cases hb
  have D:SR z TI TO i1 i2 a b:=⟨N.n1,N.n2,N.n3,N.n4,N.n5,N.n6,N.n7,N.n8,N.n9,N.n10,an z (by simp),an TO (by simp),an i1 (by simp),an i2 (by simp),bn z (by simp),bn TO (by simp),bn i1 (by simp),bn i2 (by simp)⟩;have hlen:=rv.length;refine wR (I.ok.hd hc) D st.z st.ti hTO st.j1 (show s.heap.IsTuple a its.toArray from p) (by simp; omega) fun h' kk=>⟨rfl,?_⟩;have k2:∀ c o,c ∉ [z,TO,i1,i2]→s.heap.get? c=a_ o→h'.get? c=a_ o:=fun c o hc' q=>kk c o (fun g=>hc' (by simp [g])) (fun g=>hc' (by simp [g])) (fun g=>hc' (by simp [g])) (fun g=>hc' (by simp [g])) q;have sub:∀ c,c∈[z,TO,i1,i2]→c∈[z,TI,TO,i1,i2]:=fun c m=>by
   have m':c=z∨c=TO∨c=i1∨c=i2:=by simpa using m
   rcases m' with rfl | rfl | rfl | rfl <;> simp
  have nt:∀ c o,H c=a_ o→c ∉ [z,TO,i1,i2]:=fun c o q m=>by rw [fr c (sub c m)] at q; cases q
  refine I.step (g':=s.gens) (d':=s.drawn) (t':=s.toks) (ch:=[z,TO,i1,i2]) (fun c m=>?_) (fun c o _ _ hcb q _=>k2 c o hcb q) (fun c o _ _ hcb q _=>⟨o.slots,k2 c o hcb q⟩) (fun c o hcb q n=>n) (fun c o hcb q=>⟨o,k2 c o hcb q⟩)
   (fun c zs q=>q) (fun c o zs q=>q) (fun c ps q=>⟨#[],by rw [q]; simp⟩) (fun m hm=>?_) (fun c o2 q=>?_) I.bare
  · obtain ⟨f0,f1,f2,f3,f4,f5⟩:=hf c (sub c m);exact ⟨f3,f1,f4,f5⟩
  · obtain ⟨o,es',ep,ho,r⟩:=hm;exact ⟨o,es',ep,k2 _ o (fun m=>(hf _ (sub _ m)).2.1 rfl) ho,r⟩
  · refine (I.hok c o2 q).stay (fun e v' hcv qq=>k2 e v' ?_ qq) (fun e qq=>qq) fun e zs qq=>qq;rcases hcv with rfl | hcv
    · exact nt _ _ q
    · exact nt _ _ hcv
 self:=fun _ _ _ _ _ st h=>wpAny_pyIter_zip st.z h
def Bw:List Dv→List Dv→List Dv
 | x :: xs,y :: ys=>.tup [x,y] :: Bw xs ys
 | _,_=>[]
theorem iI:∀ (xs ys:List Dv),xs.length=ys.length→(Bw xs ys).length=xs.length
 | [],[],_=>rfl
 | x :: xs,y :: ys,h=>by
  show (Bw xs ys).length + 1=xs.length + 1;rw [iI xs ys (by simpa using h)]
 | [],_ :: _,h=>by simp at h
 | _ :: _,[],h=>by simp at h
theorem qi:∀ (xs ys:List Dv) (i:Nat) (x y:Dv),xs[i]?=a_ x→ys[i]?=a_ y→(Bw xs ys)[i]?=a_ (.tup [x,y])
 | x :: xs,y :: ys,0,x',y',h,h'=>by simp at h h'; subst h h'; rfl
 | x :: xs,y :: ys,i + 1,x',y',h,h'=>qi xs ys i x' y' (by simpa using h) (by simpa using h')
 | [],_,_,_,_,h,_=>by simp at h
 | _ :: _,[],_,_,_,_,h'=>by simp at h'
theorem DS {K:f_} {H:Hp} {a b:l_} {vs us:List V} {xs ys:List Dv} (ha:H a=a_ (.tup vs)) (hb:H b=a_ (.tup us)) (r:Reps K H xs vs) (r':Reps K H ys us) (hl:xs.length=ys.length):WkG K (Itz a b) (Bw xs ys) H where
 go:=fun i H' e hi=>by
  rw [iI xs ys hl] at hi;have h1:i < vs.length:=by rw [r.length]; exact hi
  have h2:i < us.length:=by rw [r'.length,← hl]; exact hi
  exact ⟨vs,us,vs[i],us[i],e _ _ ha,e _ _ hb,by simp [h1],by simp [h2]⟩
 stop:=fun H' e=>⟨vs,us,e _ _ ha,e _ _ hb,by rw [r.length,iI xs ys hl]; exact r_ _⟩
 yld:=fun i H' v H2 e hi y=>by
  obtain ⟨p,x,y,rfl,hp,rfl,y1,y2⟩:=y;obtain ⟨d,h1,h2⟩:=Reps.get (Reps.mono e _ _ r) (y1 vs (e _ _ ha));obtain ⟨d',h1',h2'⟩:=Reps.get (Reps.mono e _ _ r') (y2 us (e _ _ hb));exact ⟨aE hp _,_,qi xs ys i d d' h1 h1',⟨p,_,rfl,ax,⟨x,[y],rfl,Rep.mono (aE hp _) _ _ h2,y,[],rfl,Rep.mono (aE hp _) _ _ h2',rfl⟩⟩⟩
def Bx:List Dv→Option (Rs (List Dv))
 | [.tup xs,.tup ys]=>if xs.length=ys.length then a_ (.ok (Bw xs ys)) else ck
 | _=>ck
theorem z4 {X:Cx} {es:List H_} {k:Nat} {pt p pos:Pos} {l r:H_} {ga:FnA} (hg:Gl X "zip") (hm:X.mg "zip"=ck) (ha:FA X [l,r] ga) (hs:k_ [l,r] X.env=[(e_,eval l X.env),(e_,eval r X.env)]:=by kernel_rfl) (hs2:k_ [r] X.env=[(e_,eval r X.env)]:=by kernel_rfl):FIG X (.Tuple es k pt) (.Call (.Name "zip" p) [l,r] [] pos) (fun ρ=>bnd (ga ρ) Bx):=by
 constructor;intro j' s σ H R I h;obtain ⟨ρ,E,o⟩:=h;have key:OutA X H (ga ρ) fun vs H'=>∃ ds,Reps X.K H' ds vs∧OutG X H' (Bx ds) R:=by
  match hf:ga ρ,o with
  | some (.exc c),o=>exact o
  | some (.ok ds),o=>exact fun vs H' e rs=>⟨ds,rs,OutG.mono e o⟩
 refine Call_ (iC I hg hm (show LO "zip"=a_ (.type "zip") by decide +kernel) (Lz (thn (ha.h pos j' s σ H _ I ⟨ρ,E,key⟩) fun us s1 ⟨vs,H1,I1,r1,ds,rs,q1⟩=>?_) (by rw [hs,hs2]) (by rw [hs2]; rfl)));unfold Bx at q1;split at q1
 · rename_i xs ys;split at q1
   · rename_i hl;obtain ⟨v,v',rfl,rv,rv'⟩:=zt rs;obtain ⟨a,ws,rfl,h1,h2⟩:=rv.tupE;obtain ⟨b,ws',rfl,h1',h2'⟩:=rv'.tupE;obtain ⟨u,u',rfl,ru,ru'⟩:=Vals.two r1;cases ru;cases ru';obtain ⟨its,rt,pl,hz⟩:=I1.tuple (SqT.of h1);obtain ⟨jts,rt',pl',hz'⟩:=I1.tuple (SqT.of h1');refine ut (show s1.heap.IsTuple a its.toArray from pl) (show s1.heap.IsTuple b jts.toArray from pl') fun h' g1 g2 g3 g4 g5 g6 kk=>?_;refine wpAny_pyIter_zip g1 ?_;have I2:Inv X j' σ H1 { s1 with heap:=h' }:=I1.kept (t':=s1.toks) kk;have gt:∀ m n:Nat,m≠n→s1.heap.objs.size + m≠s1.heap.objs.size + n:=fun m n hmn e=>hmn (Re e);have g0:∀ m:Nat,0≠m→s1.heap.objs.size≠s1.heap.objs.size + m:=fun m hm e=>hm (Re (n:=s1.heap.objs.size) e);refine ⟨s1.heap.objs.size + 4,[s1.heap.objs.size + 4,s1.heap.objs.size + 2,s1.heap.objs.size + 3,s1.heap.objs.size,s1.heap.objs.size + 1],_,Itz a b,H1,rfl,I2,
      wT a b _ _ _ _ _ ⟨gt 2 4 (by decide),gt 3 4 (by decide),g0 4 (by decide),gt 1 4 (by decide),gt 2 3 (by decide),(g0 2 (by decide)).symm,gt 2 1 (by decide),(g0 3 (by decide)).symm,gt 3 1 (by decide),g0 1 (by decide)⟩,⟨g1,g2,⟨_,_,g3⟩,g4,g5⟩,fun c hc=>?_,q1 _ H1 (.refl H1) (DS h1 h1' h2 h2' hl)⟩
     rcases HE hc with rfl | rfl | rfl | rfl | rfl
     · exact I1.fpOk (L8 _ _) (I1.hok.fresh (L8 _ _))
     · exact I1.fpOk (L8 _ _) (I1.hok.fresh (L8 _ _))
     · exact I1.fpOk (L8 _ _) (I1.hok.fresh (L8 _ _))
     · exact I1.fpOk (r_ _) (I1.hok.fresh (r_ _))
     · exact I1.fpOk (L8 _ _) (I1.hok.fresh (L8 _ _))
   · exact q1.elim
 · exact q1.elim
def iz (b:Dv→Ev→Option Ev) (js:List Nat) (body:FnS):List Dv→Ev→Option Fl
 | [],ρ=>a_ (.nx (fgt js ρ))
 | d :: ds,ρ=>match b d (fgt js ρ) with
  | none=>ck
  | some ρ1=>match body ρ1 with
   | some (.nx ρ')=>iz b js body ds ρ'
   | o=>o
def q9 (b:Dv→Ev→Option Ev) (js:List Nat) (src:FnA) (body:FnS):FnS:=fun ρ=>bV (src ρ) fun ds=>iz b js body ds ρ
def tgG (X:Cx) (b:Dv→Ev→Option Ev):TG:=fun v σ H Q=>∃ d ρ ρ',Rep X.K H d v∧Envs X.K H σ ρ∧b d ρ=a_ ρ'∧∀ σ' H',Same H H'→Envs X.K H' σ' ρ'→Q σ' H'
theorem FG.pg {X:Cx} {tg:H_} {b:Dv→Ev→Option Ev} (h:FG X tg b):PG X tg (tgG X b):=fun j' s σ H v u Q I r ⟨d,ρ,ρ',rd,E,e,q⟩ =>
 thn (h.h j' s σ H v u d ρ ρ' I r rd E e) fun _ s' ⟨σ',H',I',e1,E'⟩=>⟨σ',H',I',q σ' H' e1 E'⟩
theorem z7 {X:Cx} {tg iter:H_} {body:List L3} {pos:Pos} {src:FnA} {fb:FnS} {b:Dv→Ev→Option Ev} (js:List Nat) (hp:O3 (F_ X.prog X.w) X.A X.env X.xe) (hc:X.calm=d_) (hi:FIG X tg iter src) (hg:FG X tg b) (hb:FSs X body fb)
 (hs:∀ x,K9 iter X.env x=pure x:=by intro _; kernel_rfl):FS X (.For tg iter body [] pos) (q9 b js src fb):=by
 refine oN (sE hp hc hi.h hg.pg hb.h hs) fun D σ H ρ E o=>⟨ρ,E,?_⟩;unfold q9 at o
 match hf:src ρ,o with
 | none,o=>exact o
 | some (.exc c),o=>exact o
 | some (.ok ds),o =>
  intro J H1 e1 wk;have o1:OutS X H1 (iz b js fb ds ρ) D:=OutS.mono e1 o;refine ⟨fun n m σ' H'=>m=ds.length - n∧n≤ds.length∧Same H1 H'∧∃ ρ',Envs X.K H' σ' ρ'∧OutS X H' (iz b js fb (ds.drop n) ρ') D,⟨ds.length,by simp,K3 _,.refl H1,ρ,E.mono e1,by simpa using o1⟩,?_⟩;rintro n m σ' H' ⟨rfl,hn,e2,ρ',E',o'⟩;by_cases hlt:n < ds.length
  · refine .inr ⟨wk.go n H' e2 hlt,fun σ2 H2=>Same H1 H2∧∃ ρ2,Envs X.K H2 σ2 ρ2∧OutS X H2 (iz b js fb (ds.drop (n + 1)) ρ2) D,fun σ2 H2 ⟨e3,ρ2,E2,o2⟩=>⟨ds.length - (n + 1),by omega,rfl,hlt,e3,ρ2,E2,o2⟩,fun x H2 y=>?_⟩;obtain ⟨e4,d,hd,rd⟩:=wk.yld n H' x H2 e2 hlt y;rw [iT hd] at o';unfold iz at o'
    match hb0:b d (fgt js ρ') with
    | none=>rw [hb0] at o'; exact o'.elim
    | some ρ1 =>
     rw [hb0] at o';refine ⟨d,fgt js ρ',ρ1,rd,(Envs.fgt js E').mono e4,hb0,fun σ3 H3 e5 E3=>?_⟩;show tS X fb _ _ _;refine ⟨ρ1,E3,?_⟩;have o2:=OutS.mono (e4.trans e5) o';dsimp only at o2
     match hb':fb ρ1 with
     | none=>rw [hb'] at o2; exact o2
     | some (.exc c)=>rw [hb'] at o2; exact o2
     | some (.rt r)=>rw [hb'] at o2; exact o2
     | some (.nx ρ2)=>rw [hb'] at o2; exact fun σ4 H4 e6 E4=>⟨((e2.trans e4).trans e5).trans e6,ρ2,E4,OutS.mono e6 o2⟩
  · have hn':n=ds.length:=by omega
    subst hn';rw [OB] at o';exact .inl ⟨wk.stop H' e2,o' σ' H' (.refl H') (Envs.fgt js E')⟩
def By:List Dv→Option (Rs Dv)
 | [.str x]=>a_ (.ok (.str x))
 | xs=>yw xs
section
variable {X:Cx} {p pos:Pos} {e:H_} {es:List H_} {ga:FnA}
theorem uu:CallR X (.type "str") (fun xs H Q=>(∃ i,xs=[.int i]∧i.natAbs.log2 < 1920∧Q (.str (SF i)) H)∨∃ x,xs=[.str x]∧Q (.str x) H):=by
 intro j' s σ H xs us Q I r h;rcases h with ⟨i,rfl,hz,q⟩ | ⟨x,rfl,q⟩
 · obtain ⟨u,rfl,t,rfl⟩:=eR r;exact Rx hz ⟨.str _,H,I.tok _,⟨_,rfl⟩,q⟩
 · obtain ⟨u,rfl,t,rfl⟩:=eR r;exact PySem.P.str_of_str ⟨.str _,H,I,⟨_,rfl⟩,q⟩
theorem z8 (hg:Gl X "str") (hm:X.mg "str"=ck) (ha:FA X (e :: es) ga) (he:k_ (e :: es) X.env=(e_,eval e X.env) :: k_ es X.env:=by kernel_rfl) (hpl:(Lc pos (k_ es X.env)).any (·.1)=e_:=by kernel_rfl):FE X (.Call (.Name "str" p) (e :: es) [] pos) (fB1 By ga) :=
 de (gS uu hg hm (by decide +kernel) ha.h (by decide) (by decide) he hpl) fun σ H Q ρ E o=>⟨ρ,E,OutA.bind o fun ds vs H1 e1 rs o1=>by
  unfold By at o1;split at o1
  · rename_i x;obtain ⟨v,rfl,r⟩:=dO rs;cases (show v=.str x from r);exact .inr ⟨x,rfl,o1 _ H1 (.refl H1) rfl⟩
  · unfold yw at o1;split at o1
    · rename_i i _;split at o1
      · rename_i hz;obtain ⟨v,rfl,r⟩:=dO rs;cases (show v=.int i from r);exact .inl ⟨i,rfl,hz,o1 _ H1 (.refl H1) rfl⟩
      · exact o1.elim
    · exact o1.elim⟩
end
def qj (fi fe:FnE):iX:=fun ρ ds=>p8 (fe ρ) fun d=>p8 (fi ρ) fun k=>match k with
 | .int k=>if 0≤k∧k < ds.length then a_ (.nx ρ (ds.set k.toNat d)) else ck
 | _=>ck
theorem Reps.set {K:f_} {H:Hp} {d:Dv} {v:V} (rd:Rep K H d v):∀ {ds:List Dv} {vs:List V} (j:Nat),Reps K H ds vs→Reps K H (ds.set j d) (vs.set j v)
 | [],vs,j,r=>by cases (show vs=[] from r); exact r
 | d0 :: ds,vs,0,r=>by
  obtain ⟨v0,vs',rfl,r0,rt⟩:∃ v us',vs=v :: us'∧Rep K H d0 v∧Reps K H ds us':=r;exact ⟨v,vs',rfl,rd,rt⟩
 | d0 :: ds,vs,j + 1,r=>by
  obtain ⟨v0,vs',rfl,r0,rt⟩:∃ v us',vs=v :: us'∧Rep K H d0 v∧Reps K H ds us':=r;exact ⟨v0,vs'.set j v,rfl,r0,Reps.set rd j rt⟩
section
variable {X:Cx} {i:Nat} {e ix:H_} {fe fi:FnE} {pos ps:Pos}
theorem wU (hex:X.ex=[]) {x:Str} {apos:Pos} (hx:PE X (.Name x apos) (Bt i)) (hi:FE X ix fi) (he:FE X e fe)
 (hs:Rl [.Subscript (.Name x apos) ix ps] e pos.line X.env=pure e_:=by kernel_rfl) (hw:Rm [.Subscript (.Name x apos) ix ps] e X.env=pure ck:=by kernel_rfl)
 (h1:(KU [.Subscript (.Name x apos) ix ps] X.env).map (·.2)=[M4 (.Subscript (.Name x apos) ix ps) X.env]:=by kernel_rfl)
 (ha:∀ v,M4 (.Subscript (.Name x apos) ix ps) X.env v=(do let ov ← N8 [v] (eval (.Name x apos) X.env); let iv ← N8 [v,ov] (eval ix X.env); standAt ps; N8 [v,ov,iv] (setItem ov iv v); release [v,ov,iv] []):=by intro _; kernel_rfl) :
 FO1 X i (.Assign [.Subscript (.Name x apos) ix ps] e pos) (qj fi fe):=⟨fun j' s σ Hf D I ⟨H,a,xs,ρ,ds,e1,ha',hia,E,r,o⟩=>by
 refine xS (oY hex he.h) (BW hx (oY hex hi.h) wb ha) hs hw h1 j' s σ Hf D I ⟨H,a,xs,e1,ha',ρ,E,?_⟩;unfold qj at o
 match hfe:fe ρ with
 | none=>rw [hfe] at o; exact o.elim
 | some (.exc _)=>rw [hfe] at o; exact o.elim
 | some (.ok d) =>
  rw [hfe] at o
  match hfi:fi ρ with
  | none=>dsimp only [p8] at o; rw [hfi] at o; exact o.elim
  | some (.exc _)=>dsimp only [p8] at o; rw [hfi] at o; exact o.elim
  | some (.ok k) =>
   dsimp only [p8] at o;rw [hfi] at o;dsimp only at o;intro v H' e' rd ha2;refine ⟨.ref a,hia,H',a,xs,rfl,ha2,ρ,E.mono e',?_⟩;show Out X H' (fi ρ) _;rw [hfi];intro w H2 e2 rk ha3;cases k <;> try exact (show False from o).elim
   rename_i k;dsimp only at o;split at o
   · rename_i hk;cases (show w=.int k from rk);have hl:=r.length;have hj:ixN xs.length k=a_ k.toNat:=by
      unfold ixN;rw [if_pos hk.1,if_pos (by omega)]
     refine ⟨a,xs,k,k.toNat,rfl,rfl,ax,hj,?_⟩;rw [rY];exact o σ H2 (xs.set k.toNat v) (e'.trans e2) ha3 hia (E.mono (e'.trans e2)) (Reps.set (Rep.mono e2 _ _ rd) k.toNat (Reps.mono (e'.trans e2) _ _ r))
   · exact o.elim⟩
end
def Gh:List Dv→Option (Rs Dv)
 | [.str x]=>if x.length≤640 then (match SJ x with | some n=>a_ (.ok (.int n)) | none=>ck) else ck
 | _=>ck
section
variable {X:Cx} {p pos:Pos} {e:H_} {es:List H_} {ga:FnA}
theorem uv:CallR X (.type "int") (fun xs H Q=>∃ x i,xs=[.str x]∧x.length≤640∧SJ x=a_ i∧Q (.int i) H):=by
 intro j' s σ H xs us Q I r h;obtain ⟨x,i,rfl,hl,hx,q⟩:=h;obtain ⟨u,rfl,t,rfl⟩:=eR r;exact PySem.W.KIN.call_text hx hl ⟨.int _,H,I.tok _,⟨_,rfl⟩,q⟩
theorem wV (hg:Gl X "int") (hm:X.mg "int"=ck) (ha:FA X (e :: es) ga) (he:k_ (e :: es) X.env=(e_,eval e X.env) :: k_ es X.env:=by kernel_rfl) (hpl:(Lc pos (k_ es X.env)).any (·.1)=e_:=by kernel_rfl):FE X (.Call (.Name "int" p) (e :: es) [] pos) (fB1 Gh ga) :=
 de (gS uv hg hm (by decide +kernel) ha.h (by decide) (by decide) he hpl) fun σ H Q ρ E o=>⟨ρ,E,OutA.bind o fun ds vs H1 e1 rs o1=>by
  unfold Gh at o1;split at o1
  · rename_i x;split at o1
    · rename_i hl;split at o1
      · rename_i n hn;obtain ⟨v,rfl,r⟩:=dO rs;cases (show v=.str x from r);exact ⟨x,n,rfl,hl,hn,o1 _ H1 (.refl H1) rfl⟩
      · exact o1.elim
    · exact o1.elim
  · exact o1.elim⟩
end
section
variable {X:Cx}
end
section
variable {X:Cx}
end
end FD
namespace ST
open PySem PySem.SetTable
abbrev Rise (xs:Array Nat):Prop:=xs.toList.Pairwise (· < ·)
theorem Rise.lt {xs:Array Nat} (R:Rise xs) {i k:Nat} (hi:i < xs.size) (hk:k < xs.size) (h:i < k):xs[i] < xs[k]:=by
 have:=NK.mp R i k (by simpa using hi) (by simpa using hk) h;simpa using this
theorem Rise.le {xs:Array Nat} (R:Rise xs) {i k:Nat} (hi:i < xs.size) (hk:k < xs.size) (h:i≤k):xs[i]≤xs[k]:=by
 rcases Nat.lt_or_ge i k with h' | h'
 · exact NH (R.lt hi hk h')
 · have:i=k:=by omega
   subst this;exact r_ _
def tm (m:Nat):SetTable:={ mask:=m,place:=#[],dummies:=#[],finger:=0,led:=d_,moves:=0,plain:=d_ }
def pos (m:Nat) (h:Int) (n:Nat):Nat:=(advN (tm m) n ((tm m).probeStart h)).j
def Pth (m:Nat) (l:List Nat) (h:Int) (j:Nat):Prop:=∃ N,N < 10 * Qj m∧pos m h N=j∧∀ x,x < N→pos m h x∈l
theorem Pth.mono {m:Nat} {l l':List Nat} {h:Int} {j:Nat} (p:Pth m l h j) (hs:∀ x∈l,x∈l'):Pth m l' h j:=by
 obtain ⟨N,h1,h2,h3⟩:=p;exact ⟨N,h1,h2,fun x hx=>hs _ (h3 x hx)⟩
def asc (t:SetTable) (es:Array (Int×g_)):List (Nat×(Int×g_)):=t.place.toList.zip es.toList
def Pa (t:SetTable) (es:Array (Int×g_)):Prop:=∀ je∈asc t es,Pth t.mask t.place.toList je.2.1 je.1
section
variable {prog:rl} {w:C_} {A:E_} {E:g_→h_→Prop} {s:h_}
def SetD (prog:rl) (w:C_) (h:KO) (S:l_) (ks:List (List Str)) (n:Nat):Prop :=
 ∃ o es ep t,h.get? S=a_ o∧o.ExactSet∧o.data=.set es ep t∧es.size=n∧Tb t n∧((t.mask=7∧n≤4)∨(t.mask=31∧n≤18)∨(t.mask=127∧n≤20))∧Ent prog w h ks es.toList∧Rise t.place∧Pa t es∧∀ k∈ks,∃ a,(hsh prog w k,q_ a)∈es.toList∧TK prog w h k a
end
end ST
namespace ST
open PySem PySem.SetTable PyProof.Rows
section
variable {prog:rl} {w:C_} {A:E_} {R:QM→h_→Prop} {I:l_} {fp wr:List l_} {G:Array Oc→Array Oc→Prop} {n:Nat} {P:Nat→g_→Prop} {St:Nat→h_→Prop}
theorem SetD.moved {h h':KO} {S:l_} {ks:List (List Str)} {n:Nat} (x:SetD prog w h S ks n) (hS:∀ o,h.get? S=a_ o→h'.get? S=a_ o) (hm:∀ k a,TK prog w h k a→TK prog w h' k a):SetD prog w h' S ks n:=by
 obtain ⟨o,es,ep,t,ho,hex,hd,hsz,T,hmk,hE,R,hP,hA⟩:=x;exact ⟨o,es,ep,t,hS _ ho,hex,hd,hsz,T,hmk,fun e he=>let ⟨k,a,h1,h2,h3⟩:=hE e he; ⟨k,a,h1,h2,hm k a h3⟩,R,hP,fun k hk=>let ⟨a,q1,q2⟩:=hA k hk; ⟨a,q1,hm k a q2⟩⟩
end
section
variable {prog:rl} {w:C_} {A:E_} {E:g_→h_→Prop} {s:h_}
end
end ST
namespace FD
open PySem PySem.Spec PyProof.Rows L2
section
variable {X:Cx} {p p2 pos pos2:Pos} {e:H_} {ga:FnA}
end
section
variable {prog:rl} {w:C_} {A:E_} {E:g_→h_→Prop} {s:h_}
end
section
variable {prog:rl} {w:C_} {A:E_} {E:g_→h_→Prop} {s:h_}
end
def tC (X:Cx) (i:Nat) (fc:FnE):TS:=fun D σ H=>∃ ρ,Envs X.K H σ ρ∧match fc ρ with
 | none=>False
 | some (.exc c)=>XW X c H
 | some (.ok d)=>∃ ys,d=.lst ys∧∀ H5 p vs,Same H H5→H5 p=ck→Reps X.K H5 ys vs→D.nx (σ.set i (a_ (.ref p))) (upd H5 p (.lst vs))
section
variable {X:Cx} {i:Nat} {st:L3} {sts:List L3} {f:iX} {fc:FnE}
theorem uw {n:Nat} {cs:List (Str×Nat)} {src:FnA} {b:Dv→Ev→Option Ev} {tst:Option FnB} {fe:FnE} (ρ:Ev) (d:Dv) (h:cp n cs src b tst fe ρ=a_ (.ok d)):∃ ys,d=.lst ys:=by
 rcases Hh h with ⟨c,e1,e2⟩ | ⟨ds,ys,e1,e2,l1,l2,e3⟩
 · cases e2
 · cases e3; exact ⟨ys,rfl⟩
end
def rf {α:Type} (le:α→α→Bool) (x:α):List α→List α
 | []=>[x]
 | y :: l=>if le x y then x :: y :: l else y :: rf le x l
def cm {α:Type} (le:α→α→Bool):List α→List α
 | []=>[]
 | x :: l=>rf le x (cm le l)
theorem i7 {α:Type} (le:α→α→Bool) (x:α):∀ l:List α,(rf le x l).Perm (x :: l)
 | []=>.refl _
 | y :: l=>by
  unfold rf;split
  · exact .refl _
  · exact ((i7 le x l).cons y).trans (S1 ..)
theorem bF {α:Type} (le:α→α→Bool):∀ l:List α,(cm le l).Perm l
 | []=>.refl _
 | x :: l=>(i7 le x _).trans ((bF le l).cons x)
structure DT {α:Type} (le:α→α→Bool):Prop where
 t:∀ a b,le a b=e_→le b a=d_
 tr:∀ a b c,le a b=d_→le b c=d_→le a c=d_
 an:∀ a b,le a b=d_→le b a=d_→a=b
theorem kw {α:Type} {le:α→α→Bool} (o:DT le) (x:α):∀ l:List α,l.Pairwise (fun a b=>le a b=d_)→(rf le x l).Pairwise (fun a b=>le a b=d_)
 | [],_=>by simp [rf]
 | y :: l,h=>by
  unfold rf;rw [Le] at h;split
  · rename_i hc;rw [Le,Le];refine ⟨fun z hz=>?_,h⟩;rcases s_.mp hz with rfl | hz
    · exact hc
    · exact o.tr _ _ _ hc (h.1 z hz)
  · rename_i hc;rw [Le];refine ⟨fun z hz=>?_,kw o x l h.2⟩;rcases s_.mp ((i7 le x l).mem_iff.mp hz) with rfl | hz
    · exact o.t _ _ (by simpa using hc)
    · exact h.1 z hz
theorem dF {α:Type} {le:α→α→Bool} (o:DT le):∀ l:List α,(cm le l).Pairwise (fun a b=>le a b=d_)
 | []=>MK
 | x :: l=>kw o x _ (dF o l)
theorem gz {α:Type} {le:α→α→Bool} (o:DT le):∀ {l m:List α},l.Perm m→l.Pairwise (fun a b=>le a b=d_)→m.Pairwise (fun a b=>le a b=d_)→l=m
 | [],m,hp,_,_=>(List.Perm.nil_eq hp)
 | x :: l,[],hp,_,_=>by simpa using hp.length_eq
 | x :: l,y :: m,hp,h1,h2=>by
  rw [Le] at h1 h2;have e:x=y:=by
   have hx:x∈y :: m:=hp.mem_iff.mp on;have hy:y∈x :: l:=hp.mem_iff.mpr on;rcases s_.mp hx with e | hx
   · exact e
   · rcases s_.mp hy with e | hy
     · exact e.symm
     · exact o.an _ _ (h1.1 y hy) (h2.1 x hx)
  subst e;rw [gz o (hp.cons_inv) h1.2 h2.2]
def leI (a b:Int):Bool:=u_ (a≤b)
def leS (a b:Str):Bool:=!u_ (b.cps.toList < a.cps.toList)
theorem Jt:DT leI:=⟨fun a b h=>by simp [leI] at *; omega,fun a b c h h'=>by simp [leI] at *; omega,fun a b h h'=>by simp [leI] at *; omega⟩
theorem ordS:DT leS where
 t:=fun a b h=>by
  simp only [leS,Bool.not_eq_false',decide_eq_true_eq] at h;simp only [leS,L0,decide_eq_false_iff_not];exact fun h'=>List.lt_irrefl _ (List.lt_trans h h')
 tr:=fun a b c h h'=>by
  simp only [leS,L0,decide_eq_false_iff_not,List.not_lt] at *;exact List.le_trans h h'
 an:=fun a b h h'=>by
  simp only [leS,L0,decide_eq_false_iff_not,List.not_lt] at *;have e:a.cps.toList=b.cps.toList:=List.le_antisymm h h';obtain ⟨⟨a⟩⟩:=a; obtain ⟨⟨b⟩⟩:=b;simp at e;rw [e]
def fW:List Dv→Option (List Int)
 | []=>a_ []
 | .int i :: r=>(fW r).map (i :: ·)
 | _=>ck
def ux:List Dv→Option (Rs Dv)
 | [.lst ds]=>match fW ds with
  | some ns=>if ns.length < 64 then a_ (.ok (.lst ((cm leI ns).map Dv.int))) else ck
  | none=>match kv ds with
   | some ss=>if ss.length < 64 then a_ (.ok (.lst ((cm leS ss).map Dv.str))) else ck
   | none=>ck
 | _=>ck
section
variable {X:Cx} {j':List (l_×Obj)} {σ:L2.St} {H:Hp} {s:h_}
theorem j9 {K:f_}:∀ {ds:List Dv} {ns:List Int} {ys:List V} {its:List g_},fW ds=a_ ns→Reps K H ds ys→Vals ys its→Qc its ns
 | [],ns,ys,its,h,r,v=>by
  cases h;cases (show ys=[] from r);cases v;exact .nil
 | .int i :: ds,ns,ys,its,h,r,v=>by
  obtain ⟨y,us,rfl,r1,r2⟩:∃ v us,ys=v :: us∧Rep K H (.int i) v∧Reps K H ds us:=r;cases (show y=.int i from r1);obtain ⟨k',h1,rfl⟩:=Og.mp (show (fW ds).map (i :: ·)=a_ ns from h);cases v with
  | cons v1 v2 =>
   obtain ⟨t,rfl⟩:=v1;exact .cons i t (j9 h1 r2 v2)
 | .non :: ds,_,_,_,h,_,_=>by cases h
 | .bl _ :: ds,_,_,_,h,_,_=>by cases h
 | .str _ :: ds,_,_,_,h,_,_=>by cases h
 | .tup _ :: ds,_,_,_,h,_,_=>by cases h
 | .lst _ :: ds,_,_,_,h,_,_=>by cases h
 | .scr _ :: ds,_,_,_,h,_,_=>by cases h
 | .exn _ :: ds,_,_,_,h,_,_=>by cases h
theorem qk {K:f_}:∀ {ds:List Dv} {ns:List Str} {ys:List V} {its:List g_},kv ds=a_ ns→Reps K H ds ys→Vals ys its→StrsAre its ns
 | [],ns,ys,its,h,r,v=>by
  cases h;cases (show ys=[] from r);cases v;exact .nil
 | .str i :: ds,ns,ys,its,h,r,v=>by
  obtain ⟨y,us,rfl,r1,r2⟩:∃ v us,ys=v :: us∧Rep K H (.str i) v∧Reps K H ds us:=r;cases (show y=.str i from r1);obtain ⟨k',h1,rfl⟩:=Og.mp (show (kv ds).map (i :: ·)=a_ ns from h);cases v with
  | cons v1 v2 =>
   obtain ⟨t,rfl⟩:=v1;exact .cons i t (qk h1 r2 v2)
 | .non :: ds,_,_,_,h,_,_=>by cases h
 | .bl _ :: ds,_,_,_,h,_,_=>by cases h
 | .int _ :: ds,_,_,_,h,_,_=>by cases h
 | .tup _ :: ds,_,_,_,h,_,_=>by cases h
 | .lst _ :: ds,_,_,_,h,_,_=>by cases h
 | .scr _ :: ds,_,_,_,h,_,_=>by cases h
 | .exn _ :: ds,_,_,_,h,_,_=>by cases h
theorem gT:∀ {its:List g_} {ns:List Int},Qc its ns→Vals (ns.map V.int) its
 | _,_,.nil=>.nil
 | _,_,.cons n t h=>.cons ⟨t,rfl⟩ (gT h)
theorem lr:∀ {its:List g_} {ns:List Str},StrsAre its ns→Vals (ns.map V.str) its
 | _,_,.nil=>.nil
 | _,_,.cons n t h=>.cons ⟨t,rfl⟩ (lr h)
theorem nh {K:f_} (H:Hp):∀ ns:List Int,Reps K H (ns.map Dv.int) (ns.map V.int)
 | []=>rfl
 | n :: ns=>⟨_,_,rfl,rfl,nh H ns⟩
theorem ls {K:f_} (H:Hp):∀ ns:List Str,Reps K H (ns.map Dv.str) (ns.map V.str)
 | []=>rfl
 | n :: ns=>⟨_,_,rfl,rfl,ls H ns⟩
theorem ni:∀ (p:Str) (l:List Str),risingS p l=d_→(p :: l).Pairwise (fun a b=>leS a b=d_)
 | p,[],_=>by simp
 | p,x :: r,h=>by
  have h':(!ltCps x.cps.toList p.cps.toList)=d_∧risingS x r=d_:=by simpa [risingS] using h
  have ih:=ni x r h'.2;have hx:leS p x=d_:=by
   unfold leS;rw [← ltCps_eq];exact h'.1
  rw [Le];refine ⟨fun z hz=>?_,ih⟩;rw [Le] at ih;rcases s_.mp hz with rfl | hz
  · exact hx
  · exact ordS.tr _ _ _ hx (ih.1 z hz)
theorem rg (l:List Str) (h:sortedS l=d_):l.Pairwise (fun a b=>leS a b=d_):=by
 cases l with
 | nil=>exact .nil
 | cons x r=>exact ni x r h
theorem gM {n:Nat} (h:n < 64):n≤sizeLine:=by
 have:sizeLine=16777216:=by decide
 omega
theorem uy:CallR X (.builtin "sorted") (fun xs H Q=>∃ a ws ds,xs=[.ref a]∧H a=a_ (.lst ws)∧Reps X.K H ds ws ∧
 ((∃ ns,fW ds=a_ ns∧ns.length < 64∧∀ l,H l=ck→Q (.ref l) (upd H l (.lst ((cm leI ns).map V.int)))) ∨
  (∃ ns,kv ds=a_ ns∧ns.length < 64∧∀ l,H l=ck→Q (.ref l) (upd H l (.lst ((cm leS ns).map V.str)))))):=by
 intro j' s σ H xs us Q I r h;obtain ⟨a,ws,ds,rfl,h1,h2,h3⟩:=h;obtain ⟨u,rfl,ru⟩:=eR r;cases ru;obtain ⟨z,its,n,rv,hl,e⟩:=I.lstM h1;rcases h3 with ⟨ns,hi,hlen,q⟩ | ⟨ns,hi,hlen,q⟩
 · have hI:=j9 hi h2 rv;have hn:=hI.length;refine sorted_ints ⟨_,e,rfl,n,rfl⟩ hI (by omega) fun out ns' a1 a2 a3=>?_;have es:ns'=cm leI ns:=gz Jt (a2.trans (bF leI ns).symm) (a3.imp fun h=>by simpa [leI] using h) (dF Jt ns);subst es;obtain ⟨ep,he⟩:=sortedAll_at s.heap its out;refine ⟨.ref (s.heap.objs.size + 1),_,I.laid (t':=s.toks) (o:=.lst ((cm leI ns).map V.int)) (fun b ob q=>sortedAll_old q) (Nz _) ?_,rfl,q _ (I.hok.fresh (Nz _))⟩;exact ⟨gM (by rw [KR,(bF leI ns).length_eq]; exact hlen),out.toList,ep,gT a1,by simpa [LA] using he⟩
 · have hI:=qk hi h2 rv;have hn:its.length=ns.length:=by
    have:∀ {vs:List g_} {ss:List Str},StrsAre vs ss→vs.length=ss.length:=fun h=>by
     induction h with
     | nil=>rfl
     | cons _ _ _ ih=>simp [ih]
    exact this hI
   refine sorted_strs ⟨_,e,rfl,n,rfl⟩ hI (by omega) fun out ns' a1 a2 a3=>?_;have es:ns'=cm leS ns:=gz ordS (a2.trans (bF leS ns).symm) (rg _ a3) (dF ordS ns);subst es;obtain ⟨ep,he⟩:=sortedAll_at s.heap its out;refine ⟨.ref (s.heap.objs.size + 1),_,I.laid (t':=s.toks) (o:=.lst ((cm leS ns).map V.str)) (fun b ob q=>sortedAll_old q) (Nz _) ?_,rfl,q _ (I.hok.fresh (Nz _))⟩;exact ⟨gM (by rw [KR,(bF leS ns).length_eq]; exact hlen),out.toList,ep,lr a1,by simpa [LA] using he⟩
end
section
variable {X:Cx} {p pos:Pos} {e:H_} {es:List H_} {ga:FnA}
theorem uz (hg:Gl X "sorted") (hm:X.mg "sorted"=ck) (ha:FA X (e :: es) ga) (he:k_ (e :: es) X.env=(e_,eval e X.env) :: k_ es X.env:=by kernel_rfl) (hpl:(Lc pos (k_ es X.env)).any (·.1)=e_:=by kernel_rfl):FE X (.Call (.Name "sorted" p) (e :: es) [] pos) (fB1 ux ga) :=
 de (gq uy hg hm (by decide +kernel) ha.h (by decide) (by decide) he hpl) fun σ H Q ρ E o=>⟨ρ,E,OutA.bind o fun ds vs H1 e1 rs o1=>by
  unfold ux at o1;split at o1
  · rename_i xs;obtain ⟨v,rfl,r⟩:=dO rs;obtain ⟨a,ws,rfl,h1,h2⟩:=r.lstE;split at o1
    · rename_i ns hb;split at o1
      · rename_i hl;exact ⟨a,ws,xs,rfl,h1,h2,.inl ⟨ns,hb,hl,fun l hl'=>o1 _ _ (aE hl' _) ⟨l,_,rfl,ax,nh _ _⟩⟩⟩
      · exact o1.elim
    · split at o1
      · rename_i ns hb;split at o1
        · rename_i hl;exact ⟨a,ws,xs,rfl,h1,h2,.inr ⟨ns,hb,hl,fun l hl'=>o1 _ _ (aE hl' _) ⟨l,_,rfl,ax,ls _ _⟩⟩⟩
        · exact o1.elim
      · exact o1.elim
  · exact o1.elim⟩
end
def mxL:Int→List Int→Int
 | m,[]=>m
 | m,n :: l=>mxL (if n > m then n else m) l
theorem uC:∀ (l:List Int) (m:Int),m≤mxL m l∧(∀ a∈l,a≤mxL m l)∧(mxL m l=m∨mxL m l∈l)
 | [],m=>⟨Sq _,by simp,.inl rfl⟩
 | n :: l,m=>by
  obtain ⟨h1,h2,h3⟩:=uC l (if n > m then n else m);have e:mxL m (n :: l)=mxL (if n > m then n else m) l:=rfl;rw [e];generalize hM:mxL (if n > m then n else m) l=M at *;by_cases hc:n > m
  · rw [if_pos hc] at h1 h3;refine ⟨by omega,fun a ha=>?_,?_⟩
    · rcases s_.mp ha with rfl | ha
      · exact h1
      · exact h2 a ha
    · rcases h3 with h3 | h3
      · exact .inr (by rw [h3]; exact on)
      · exact .inr (n_ _ h3)
  · rw [if_neg hc] at h1 h3;refine ⟨h1,fun a ha=>?_,?_⟩
    · rcases s_.mp ha with rfl | ha
      · omega
      · exact h2 a ha
    · rcases h3 with h3 | h3
      · exact .inl h3
      · exact .inr (n_ _ h3)
theorem z9 {n:Int} {l:List Int} {M:Int} (h1:M∈n :: l) (h2:∀ a∈n :: l,a≤M):M=mxL n l:=by
 obtain ⟨g1,g2,g3⟩:=uC l n;have ge:mxL n l≤M:=by
  rcases g3 with g3 | g3
  · rw [g3]; exact h2 n on
  · exact h2 _ (n_ _ g3)
 have le:M≤mxL n l:=by
  rcases s_.mp h1 with rfl | h1
  · exact g1
  · exact g2 M h1
 omega
def Aa:List Dv→Option (Rs Dv)
 | [.lst ds]=>match fW ds with
  | some (n :: ns)=>a_ (.ok (.int (mxL n ns)))
  | _=>ck
 | _=>ck
section
variable {X:Cx} {p pos:Pos} {e:H_} {es:List H_} {ga:FnA}
theorem uD:CallR X (.builtin "max") (fun xs H Q=>∃ a ws ds n ns,xs=[.ref a]∧H a=a_ (.lst ws)∧Reps X.K H ds ws∧fW ds=a_ (n :: ns)∧X.calm=d_∧Q (.int (mxL n ns)) H):=by
 intro j' s σ H xs us Q I r h;obtain ⟨a,ws,ds,n,ns,rfl,h1,h2,hi,hc,q⟩:=h;obtain ⟨u,rfl,ru⟩:=eR r;cases ru;obtain ⟨z,its,ep,rv,hl,e⟩:=I.lstM h1;have hI:=j9 hi h2 rv;obtain ⟨ys,ey⟩:=hI.allInts.items;have hns:n :: ns=ys.toList.map (·.1):=by rw [← hI.numsOf,← nums_intItems,← ey]
 have hsz:0 < ys.size:=by
  have:=congrArg OH hns;simp at this;omega
 have hL:s.heap.IsList a (intItems ys):=by
  rw [← ey];exact ⟨_,e,rfl,ep,rfl⟩
 refine max_intList (I.ok.hd hc) hL hsz fun v h' tk hv hk=>?_;obtain ⟨t,rfl⟩:=intItems_at hv;obtain ⟨g1,g2⟩:=argBest_gt (numAt ys) (ys.size - 1);have hM:numAt ys (argBest (fun i j=>u_ (numAt ys i > numAt ys j)) (ys.size - 1))=mxL n ns:=by
  refine z9 ?_ fun b hb=>?_
  · rw [hns,numAt_eq]; exact getD_mem (by rw [KR,K4]; omega)
  · rw [hns] at hb;obtain ⟨j,hj,rfl⟩:=mem_getD hb;rw [KR,K4] at hj;rw [← numAt_eq]; exact g2 j (by omega)
 refine ⟨.int (mxL n ns),H,I.kept (t':=tk) hk,⟨t,by rw [hM]⟩,q⟩
theorem Ab (hc:X.calm=d_) (hg:Gl X "max") (hm:X.mg "max"=ck) (ha:FA X (e :: es) ga) (he:k_ (e :: es) X.env=(e_,eval e X.env) :: k_ es X.env:=by kernel_rfl) (hpl:(Lc pos (k_ es X.env)).any (·.1)=e_:=by kernel_rfl):FE X (.Call (.Name "max" p) (e :: es) [] pos) (fB1 Aa ga) :=
 de (gq uD hg hm PyProof.Rows.boot_max ha.h (by decide) (by decide) he hpl) fun σ H Q ρ E o=>⟨ρ,E,OutA.bind o fun ds vs H1 e1 rs o1=>by
  unfold Aa at o1;split at o1
  · rename_i xs;obtain ⟨v,rfl,r⟩:=dO rs;obtain ⟨a,ws,rfl,h1,h2⟩:=r.lstE;split at o1
    · rename_i n ns hb;exact ⟨a,ws,xs,n,ns,rfl,h1,h2,hb,hc,o1 _ H1 (.refl H1) rfl⟩
    · exact o1.elim
  · exact o1.elim⟩
end
def Ac:List Dv→Option (Rs Dv)
 | [.lst xs]=>(match eI xs with | some bs=>a_ (.ok (.bl (bs.any id))) | none=>ck)
 | _=>ck
section
variable {X:Cx} {p pos:Pos} {e:H_} {es:List H_} {ga:FnA}
theorem uE:CallR X (.builtin "any") (fun xs H Q=>∃ a vs bs ds,xs=[.ref a]∧H a=a_ (.lst vs)∧Reps X.K H ds vs∧eI ds=a_ bs∧X.calm=d_∧Q (.bl (bs.any id)) H):=by
 intro j' s σ H xs us Q I r h;obtain ⟨a,vs,bs,ds,rfl,h1,h2,h3,hc,q⟩:=h;obtain ⟨u,rfl,ru⟩:=eR r;cases ru;obtain ⟨z,its,n,rv,hl,e⟩:=I.lstM h1;have eb:=lS h2 rv h3;subst eb;have hL:s.heap.IsList a (bs.map Lj).toArray:=⟨_,e,rfl,_,rfl⟩;have hlt:a < s.heap.objs.size:=w_ e;refine call_any_walk (Nn hL ?_);refine ⟨s.heap.objs.size,[s.heap.objs.size,a],[s.heap.objs.size],(bs.map Lj).toArray.size,_,_,fun i=>(bs[i]?).getD d_,rfl,Ru (A:=X.A.in1) (I.ok.hd hc) _ a (KP hlt) (bs.map Lj).toArray,
  ⟨⟨_,t_ _ rfl,rfl,rfl⟩,hL.push _⟩,fun i v s' Q' E' hP hQ=>?_,fun h' tk hk=>?_⟩
 · have hP':(bs.map Lj)[i]?=a_ v:=by simpa using hP
   rw [La] at hP';cases hb:bs[i]? with
   | none=>rw [hb] at hP'; cases hP'
   | some b =>
    rw [hb] at hP';cases hP';have hQ2:Q' ((bs[i]?).getD d_) s':=hQ;rw [hb] at hQ2;exact Me hQ2
 · have e2:((o_ (bs.map Lj).toArray.size).any fun i=>(bs[i]?).getD d_)=bs.any id:=by
    rw [A_,KR];rw [Lm];simp only [MY,Lk,id];constructor
    · rintro ⟨i,hi,hh⟩;simp only [B_ hi,Sb] at hh;exact ⟨_,OA hi,hh⟩
    · rintro ⟨b,hb,hh⟩;obtain ⟨i,hi,rfl⟩:=QU.mp hb;exact ⟨i,hi,by simpa [hi] using hh⟩
   rw [e2];exact ⟨.bl (bs.any id),H,I.kept (t':=tk) fun b o q=>hk b o (by simp; exact KP (w_ q)) (i_ _ q),rfl,q⟩
theorem DU (hc:X.calm=d_) (hg:Gl X "any") (hm:X.mg "any"=ck) (ha:FA X (e :: es) ga) (he:k_ (e :: es) X.env=(e_,eval e X.env) :: k_ es X.env:=by kernel_rfl) (hpl:(Lc pos (k_ es X.env)).any (·.1)=e_:=by kernel_rfl):FE X (.Call (.Name "any" p) (e :: es) [] pos) (fB1 Ac ga) :=
 de (gq uE hg hm (by decide +kernel) ha.h (by decide) (by decide) he hpl) fun σ H Q ρ E o=>⟨ρ,E,OutA.bind o fun ds vs H1 e1 rs o1=>by
  unfold Ac at o1;split at o1
  · rename_i xs;split at o1
    · rename_i bs hb;obtain ⟨v,rfl,r⟩:=dO rs;obtain ⟨a,ws,rfl,h1,h2⟩:=r.lstE;exact ⟨a,ws,bs,xs,rfl,h1,h2,hb,hc,o1 _ H1 (.refl H1) rfl⟩
    · exact o1.elim
  · exact o1.elim⟩
end
section
variable {prog:rl} {w:C_} {A:E_} {E:g_→h_→Prop} {s:h_}
end
section
variable {prog:rl} {w:C_} {A:E_} {E:g_→h_→Prop} {s:h_}
end
theorem yA {tst:Option FnB} {elt:FnE} {cap:Ev}:∀ ds:List Dv,tE tst elt cap ds=jZ (gN 0) tst elt cap ds
 | []=>rfl
 | d :: ds=>by
  unfold tE jZ;rw [yA ds];rfl
theorem Ad (cs:List (Str×Nat)) (src:FnA) (tst:Option FnB) (fe:FnE):cF cs src tst fe=cp 1 cs src (gN 0) tst fe:=by
 funext ρ;show bnd (src ρ) _=bnd (src ρ) _;congr 1;funext ds;rw [yA];rfl
theorem Ae {X:Cx} {st:L3} {i:Nat} {fc:FnE} (h:PS X st (tC X i fc)) (hl:∀ ρ d,fc ρ=a_ (.ok d)→∃ ys,d=.lst ys):FS X st (bc i fc):=⟨fun j' s σ H D I ⟨ρ,E,o⟩=>by
 refine h j' s σ H D I ⟨ρ,E,?_⟩;unfold bc at o
 match hf:fc ρ with
 | none=>rw [hf] at o; exact o.elim
 | some (.exc c)=>rw [hf] at o; exact o
 | some (.ok d) =>
  rw [hf] at o;obtain ⟨ys,rfl⟩:=hl ρ d hf;exact ⟨ys,rfl,fun H5 p vs e5 hp rs=>o _ _ (e5.trans (aE hp _)) ((E.mono (e5.trans (aE hp _))).set ⟨p,vs,rfl,ax,Reps.mono (aE hp _) _ _ rs⟩)⟩⟩
end FD
namespace ST
open PySem PySem.SetTable PyProof.Rows
def SetS (prog:rl) (w:C_) (h:KO) (S:l_) (ks:List Str):Prop :=
 ∃ o es ep t,h.get? S=a_ o∧o.ExactSet∧o.data=.set es ep t∧t.fits es.size=d_∧ks.length≤60∧t.led=(!byT w)∧(es.size≠0→t.plain=e_)∧ElemsOf (PySem.strKind prog w) es.toList∧(∀ e∈es.toList,∃ x t,e.2=.str x t)∧(es.toList.map fun e=>strOf e.2).Perm ks
section
variable {prog:rl} {w:C_} {A:E_} {E:g_→h_→Prop} {s:h_}
end
section
variable {prog:rl} {w:C_} {A:E_} {R:QM→h_→Prop} {I:l_} {fp wr:List l_} {G:Array Oc→Array Oc→Prop} {n:Nat} {P:Nat→g_→Prop} {St:Nat→h_→Prop}
theorem SetS.moved {h h':KO} {S:l_} {ks:List Str} (x:SetS prog w h S ks) (hS:∀ o,h.get? S=a_ o→h'.get? S=a_ o):SetS prog w h' S ks:=by
 obtain ⟨o,es,ep,t,ho,r⟩:=x;exact ⟨o,es,ep,t,hS _ ho,r⟩
end
section
variable {prog:rl} {w:C_} {A:E_} {E:g_→h_→Prop} {s:h_}
end
section
variable {prog:rl} {w:C_} {A:E_} {E:g_→h_→Prop}
variable {s:h_}
structure Rd (w:C_) (h:KO) (S:l_) (es:Array (Int×g_)) (ep:Nat) (t:SetTable):Prop where
 o:∃ o,h.get? S=a_ o∧o.ExactSet∧o.data=.set es ep t
 f:t.fits es.size=d_
 l:t.led=(!byT w)
 p:es.size≠0→t.plain=e_
theorem Rd.moved {h h':KO} {S:l_} {es:Array (Int×g_)} {ep:Nat} {t:SetTable} (r:Rd w h S es ep t) (k:∀ o,h.get? S=a_ o→h'.get? S=a_ o):Rd w h' S es ep t:=by
 obtain ⟨⟨o,ho,hr⟩,h1,h2,h3⟩:=r;exact ⟨⟨o,k _ ho,hr⟩,h1,h2,h3⟩
end
section
variable {prog:rl} {w:C_} {A:E_} {E:g_→h_→Prop} {s:h_}
structure Wk (prog:rl) (w:C_) (S I:l_) (h:KO) (h':KO) (es:Array (Int×g_)) (vs:List g_) (fp:List l_) (St:Nat→KO→Prop):Prop where
 W:∀ A:E_,A.handled=ck→Walks prog w A I fp [I] vs.length (fun i v=>vs[i]?=a_ v) St
 st:St 0 h'
 pm:vs.Perm (es.toList.map (·.2))
 up:∀ b o,h.get? b=a_ o→h'.get? b=a_ o
 nw:h.objs.size≤I
 fp:∀ b∈fp,(b=S∨h.objs.size≤b)∧b < h'.objs.size
end
section
variable {prog:rl} {w:C_} {A:E_} {E:g_→h_→Prop} {s:h_}
theorem SetS.rd {h:KO} {S:l_} {ks:List Str} (x:SetS prog w h S ks):∃ es ep t,Rd w h S es ep t∧es.size≤60∧(∀ e∈es.toList,∃ x t,e.2=.str x t)∧(es.toList.map fun e=>strOf e.2).Perm ks:=by
 obtain ⟨o,es,ep,t,ho,hex,hd,hf,hk,hl,hp,hel,hs,hm⟩:=x;refine ⟨es,ep,t,⟨⟨o,ho,hex,hd⟩,hf,hl,hp⟩,?_,hs,hm⟩;have:=hm.length_eq;simp at this;omega
end
end ST
namespace FD
open PySem PySem.Spec PyProof.Rows L2
section
variable {X:Cx} {p p2 pos pos2:Pos} {e:H_} {ga:FnA}
end
def DV (i:Nat) (f:FnS):iX:=fun ρ ds=>match f (ρ.set i (a_ (.lst ds))) with
 | some (.rt d)=>a_ (.rt d)
 | _=>ck
theorem Ag {X:Cx} {i:Nat} {sts:List L3} {f:FnS} (h:FSs X sts f):FOs X i sts (DV i f):=⟨fun j' s σ Hf D I ⟨H,a,xs,ρ,ds,e1,ha',hia,E,r,o⟩=>by
 subst e1;refine h.h j' s σ _ D I ⟨_,iY ha' hia E r,?_⟩;unfold DV at o
 match hg:f (ρ.set i (a_ (.lst ds))) with
 | none=>rw [hg] at o; exact o.elim
 | some (.exc _)=>rw [hg] at o; exact o.elim
 | some (.nx _)=>rw [hg] at o; exact o.elim
 | some (.rt d)=>rw [hg] at o; exact fun v H2 e2 rd=>o v H2 ((fU ha').trans e2) rd⟩
end FD
namespace TS
open PySem PyProof.Rows
section logic
variable {M:Rq} {A:E_} {E:g_→h_→Prop} {J:h_→Prop} {σ α β:Type}
def wpJ (M:Rq) (A:E_) (E:g_→h_→Prop) (J:h_→Prop) (m:StateT σ Sem α) (Q:α→σ→Prop) (st:σ):Prop :=
 ∀ s,J s→v_ M A (m.run st) (fun r s'=>J s'∧Q r.1 r.2) E s
theorem cK {a:α} {Q:α→σ→Prop} {st:σ} (h:Q a st):wpJ M A E J (pure a:StateT σ Sem α) Q st:=fun s hs=>by
 rw [Sr];exact j_ ⟨hs,h⟩
theorem bI {m:StateT σ Sem α} {f:α→StateT σ Sem β} {Q:β→σ→Prop} {st:σ} (h:wpJ M A E J m (fun a st'=>wpJ M A E J (f a) Q st') st):wpJ M A E J (m >>= f) Q st:=fun s hs=>by
 rw [StateT.run_bind];exact c_ (Lf (h s hs) (fun r s' h'=>h'.2 s' h'.1) fun _ _ e=>e)
theorem nj {m:StateT σ Sem α} {Q Q':α→σ→Prop} {st:σ} (h:wpJ M A E J m Q st) (hq:∀ a st',Q a st'→Q' a st'):wpJ M A E J m Q' st:=fun s hs =>
 Lf (h s hs) (fun r _ h'=>⟨h'.1,hq _ _ h'.2⟩) fun _ _ e=>e
theorem rh {Q:σ→σ→Prop} {st:σ} (h:Q st st):wpJ M A E J (get:StateT σ Sem σ) Q st:=fun s hs=>by
 rw [StateT.run_get];exact j_ ⟨hs,h⟩
theorem ka {f:σ→σ} {Q:PUnit→σ→Prop} {st:σ} (h:Q ⟨⟩ (f st)):wpJ M A E J (modify f:StateT σ Sem PUnit) Q st:=fun s hs=>by
 rw [StateT.run_modify];exact j_ ⟨hs,h⟩
theorem uF {m:Sem α} {Q:α→σ→Prop} {st:σ} (h:∀ s,J s→v_ M A m (fun a s'=>J s'∧Q a st) E s):wpJ M A E J (liftM m:StateT σ Sem α) Q st:=fun s hs=>by
 show v_ M A ((StateT.lift m:StateT σ Sem α).run st) _ E s;rw [StateT.run_lift];exact c_ (Lf (h s hs) (fun a s' h'=>j_ h') fun _ _ e=>e)
theorem DW (f:Nat→β→StateT σ Sem (ForInStep β)) (I:Nat→β→σ→Prop) (Q:β→σ→Prop) (b:Nat)
 (step:∀ i c st,i < b→I i c st→wpJ M A E J (f i c) (fun r st'=>match r with | .done c'=>Q c' st' | .yield c'=>I (i + 1) c' st') st)
 (fin:∀ c st,I b c st→Q c st):∀ (n a:Nat) (c:β) (st:σ),a + n=b→I a c st→wpJ M A E J (S2 (List.range' a n 1) c f) Q st
 | 0,a,c,st,e,h=>by
  rw [List.range'_zero,Pn];have:a=b:=by omega
  subst this;exact cK (fin c st h)
 | n + 1,a,c,st,e,h=>by
  rw [List.range'_succ,Qm];refine bI (nj (step a c st (by omega) h) fun r st' h'=>?_);cases r with
  | done c'=>exact cK h'
  | yield c'=>exact DW f I Q b step fin n (a + 1) c' st' (by omega) h'
theorem jF {a b:Nat} {f:Nat→β→StateT σ Sem (ForInStep β)} (I:Nat→β→σ→Prop) {Q:β→σ→Prop} (hab:a≤b)
 (step:∀ i c st,i < b→I i c st→wpJ M A E J (f i c) (fun r st'=>match r with | .done c'=>Q c' st' | .yield c'=>I (i + 1) c' st') st)
 (fin:∀ c st,I b c st→Q c st) {c:β} {st:σ} (h:I a c st):wpJ M A E J (S2 [a:b] c f) Q st:=by
 rw [Std.Legacy.Range.forIn_eq_forIn_range'];have hsz:([a:b]:RZ).size=b - a:=by simp [Std.Legacy.Range.size]
 show wpJ M A E J (S2 (List.range' a ([a:b]:RZ).size 1) c f) Q st;rw [hsz];exact DW f I Q b step fin (b - a) a c st (by omega) h
end logic
structure Od (blt:Nat→Nat→Bool):Prop where
 ir:∀ a,blt a a=e_
 tr:∀ a b c,blt a b=d_→blt b c=d_→blt a c=d_
 nt:∀ a b c,blt a c=d_→blt a b=d_∨blt b c=d_
def Lex (blt:Nat→Nat→Bool) (a b:Nat):Prop:=blt a b=d_∨(blt b a=e_∧a < b)
section order
variable {blt:Nat→Nat→Bool}
theorem Od.le (O:Od blt) {a b c:Nat} (h1:blt b a=e_) (h2:blt c b=e_):blt c a=e_:=by
 cases h:blt c a with
 | false=>rfl
 | true =>
  rcases O.nt _ b _ h with q | q
  · rw [q] at h2; cases h2
  · rw [q] at h1; cases h1
theorem Od.lt_le (O:Od blt) {a b c:Nat} (h1:blt a b=d_) (h2:blt c b=e_):blt a c=d_:=by
 rcases O.nt _ c _ h1 with q | q
 · exact q
 · rw [q] at h2; cases h2
theorem Od.le_lt (O:Od blt) {a b c:Nat} (h1:blt b a=e_) (h2:blt b c=d_):blt a c=d_:=by
 rcases O.nt _ a _ h2 with q | q
 · rw [q] at h1; cases h1
 · exact q
theorem Od.as (O:Od blt) {a b:Nat} (h:blt a b=d_):blt b a=e_:=by
 cases h':blt b a with
 | false=>rfl
 | true=>have:=O.tr _ _ _ h h'; rw [O.ir] at this; cases this
theorem Lex.tr (O:Od blt) {a b c:Nat} (h1:Lex blt a b) (h2:Lex blt b c):Lex blt a c:=by
 rcases h1 with h1 | ⟨h1,i1⟩
 · rcases h2 with h2 | ⟨h2,i2⟩
   · exact .inl (O.tr _ _ _ h1 h2)
   · exact .inl (O.lt_le h1 h2)
 · rcases h2 with h2 | ⟨h2,i2⟩
   · exact .inl (O.le_lt h1 h2)
   · exact .inr ⟨O.le h1 h2,by omega⟩
theorem Lex.of_le {a b:Nat} (h:blt b a=e_) (i:a < b):Lex blt a b:=.inr ⟨h,i⟩
end order
structure SB (a₀:Array RQ) (kd:QS) (p:Nat→Nat) (st:Of):Prop where
 sz:(OT st).size=a₀.size
 at':∀ k,k < a₀.size→(OT st)[k]?=a₀[p k]?
 lt:∀ k,k < a₀.size→p k < a₀.size
 inj:∀ a b,a < a₀.size→b < a₀.size→p a=p b→a=b
 kind:kindOf st=kd
 failed:RP st=ck
 pend:PP st=#[]
def mir (p:Nat→Nat) (i j k:Nat):Nat:=if i≤k∧k < j then p (i + j - 1 - k) else p k
def bub (p:Nat→Nat) (src dst k:Nat):Nat:=if k=dst then p src else if dst < k∧k≤src then p (k - 1) else p k
section state
variable {a₀:Array RQ} {kd:QS} {p:Nat→Nat} {st:Of}
theorem SB.mirror (B:SB a₀ kd p st) {i j:Nat} (hj:j≤a₀.size):SB a₀ kd (mir p i j) (setArr st (mirror (OT st) i j ((j - i) / 2))) where
 sz:=(mirror_size _ _ _ _).trans B.sz
 at':=fun k hk=>by
  show (PyProof.Rows.mirror (OT st) i j ((j - i) / 2))[k]?=_;rw [getElem?_mirror_all (by rw [B.sz]; exact hj)];unfold mir;split
  · exact B.at' _ (by omega)
  · exact B.at' _ hk
 lt:=fun k hk=>by
  unfold mir;split
  · exact B.lt _ (by omega)
  · exact B.lt _ hk
 inj:=fun a b ha hb e=>by
  unfold mir at e;split at e <;> split at e
  · have:=B.inj _ _ (by omega) (by omega) e; omega
  · have:=B.inj _ _ (by omega) hb e; omega
  · have:=B.inj _ _ ha (by omega) e; omega
  · exact B.inj _ _ ha hb e
 kind:=B.kind
 failed:=B.failed
 pend:=B.pend
theorem SB.bubble (B:SB a₀ kd p st) {src dst:Nat} (hs:src < a₀.size) (hd:dst≤src):SB a₀ kd (bub p src dst) (setArr st (bubble (OT st) src (src - dst))) where
 sz:=(bubble_size _ _ _).trans B.sz
 at':=fun k hk=>by
  show (PyProof.Rows.bubble (OT st) src (src - dst))[k]?=_;rw [getElem?_bubble (by rw [B.sz]; exact hs) _ (by omega),show src - (src - dst)=dst by omega];unfold bub;split
  · exact B.at' _ hs
  · split
    · exact B.at' _ (by omega)
    · exact B.at' _ hk
 lt:=fun k hk=>by
  unfold bub;split
  · exact B.lt _ hs
  · split
    · exact B.lt _ (by omega)
    · exact B.lt _ hk
 inj:=fun a b ha hb e=>by
  unfold bub at e
  repeat' split at e
  all_goals first
   | omega
   | (have:=B.inj _ _ (by omega) (by omega) e; omega)
 kind:=B.kind
 failed:=B.failed
 pend:=B.pend
end state
def Cm (M:Rq) (A:E_) (J:h_→Prop) (a₀:Array RQ) (kd:QS) (blt:Nat→Nat→Bool):Prop :=
 ∀ (i j:Nat) (x y:RQ) (s:h_) (E':g_→h_→Prop),a₀[i]?=a_ x→a₀[j]?=a_ y→J s→v_ M A (keyLt' kd x.1 y.1) (fun b s'=>J s'∧b=blt i j) E' s
section
variable {M:Rq} {A:E_} {E:g_→h_→Prop} {J:h_→Prop} {a₀:Array RQ} {kd:QS} {blt:Nat→Nat→Bool} {p:Nat→Nat} {st:Of}
theorem DX {i j:Nat} {Q:Option Bool→Of→Prop} (C:Cm M A J a₀ kd blt) (B:SB a₀ kd p st) (hi:i < a₀.size) (hj:j < a₀.size) (h:Q (a_ (blt (p i) (p j))) st):wpJ M A E J (ltAt' i j) Q st:=by
 have e1:(OT st)[i]?=a_ (a₀[p i]'(B.lt i hi)):=by rw [B.at' i hi]; simp [B.lt i hi]
 have e2:(OT st)[j]?=a_ (a₀[p j]'(B.lt j hj)):=by rw [B.at' j hj]; simp [B.lt j hj]
 rw [ltAt'_eq];refine bI (rh ?_);show wpJ M A E J (do let x ← elem' (OT st) i; let y ← elem' (OT st) j; lt' x y) Q st
 rw [elem'_eq,elem'_eq,e1,e2];refine bI (cK (bI (cK ?_)));rw [lt'_eq];refine bI (rh ?_);rw [B.kind];refine bI (uF fun s hs=>Pv (Lf (C (p i) (p j) _ _ s _ (by simp [B.lt i hi]) (by simp [B.lt j hj]) hs) (fun b s' h'=>?_) fun _ _ e=>e));obtain ⟨h1,rfl⟩:=h';exact ⟨h1,cK h⟩
theorem wW {i j:Nat} {Q:Unit→Of→Prop} (h:Q () (setArr st (mirror (OT st) i j ((j - i) / 2)))):wpJ M A E J (reverseSlice' i j) Q st:=by
 rw [reverseSlice'_eq]; exact ka h
structure Up (blt:Nat→Nat→Bool) (p:Nat→Nat) (n N:Nat):Prop where
 so:∀ a b,a < b→b < n→Lex blt (p a) (p b)
 lo:∀ a,a < n→p a < n
 re:∀ a,n≤a→a < N→p a=a
theorem Up.next (O:Od blt) {n N:Nat} (U:Up blt p n N) (h1:1≤n) (hn:n < N) (h:blt (p n) (p (n - 1))=e_):Up blt p (n + 1) N where
 so:=fun a b hab hb=>by
  by_cases hbn:b < n
  · exact U.so a b hab hbn
  · have hb':b=n:=by omega
    subst hb';have last:Lex blt (p (b - 1)) (p b):=.of_le h (by rw [U.re b (r_ _) hn]; exact U.lo _ (by omega));by_cases ha:a=b - 1
    · subst ha; exact last
    · exact (U.so a (b - 1) (by omega) (by omega)).tr O last
 lo:=fun a ha=>by
  by_cases han:a < n
  · have:=U.lo a han; omega
  · have:a=n:=by omega
    subst this;rw [U.re a (r_ _) hn];omega
 re:=fun a ha hN=>U.re a (by omega) hN
theorem DY {a nrem:Nat} {Q:AscSt→Of→Prop} (O:Od blt) (C:Cm M A J a₀ kd blt) (B:SB a₀ kd p st) (ha:1≤a) (han:a≤nrem) (hn:nrem≤a₀.size) (U:Up blt p a a₀.size)
 (h:∀ n,a≤n→n≤nrem→Up blt p n a₀.size→(n=nrem∨blt (p n) (p (n - 1))=d_)→Q (ck,n) st):wpJ M A E J (ascLoop a nrem) Q st:=by
 unfold ascLoop;refine jF (I:=fun x c st'=>st'=st∧c=(ck,x)∧a≤x∧Up blt p x a₀.size) han ?_ ?_ ⟨rfl,rfl,r_ _,U⟩
 · rintro x c st' hx ⟨rfl,rfl,hax,U'⟩;dsimp only;refine bI (DX C B (by omega) (by omega) ?_);cases hl:blt (p x) (p (x - 1)) with
   | true =>
    simp only [if_true];exact cK (h x hax (by omega) U' (.inr hl))
   | false =>
    simp only [p_,if_false];exact cK ⟨rfl,rfl,by omega,U'.next O (by omega) (by omega) hl⟩
 · rintro c st' ⟨rfl,rfl,hax,U'⟩;exact h nrem hax (r_ _) U' (.inl rfl)
structure Dn (blt:Nat→Nat→Bool) (p:Nat→Nat) (n N:Nat):Prop where
 so:∀ a b,a < b→b < n→Lex blt (p b) (p a)
 lo:∀ a,a < n→p a < n
 re:∀ a,n≤a→a < N→p a=a
structure Dq (blt:Nat→Nat→Bool) (p:Nat→Nat) (c n N:Nat):Prop where
 cn:c < n
 d1:∀ a b,a < b→b < c→Lex blt (p b) (p a)
 d2:∀ a b,a < c→c≤b→b < n→blt (p b) (p a)=d_
 d3:∀ a b,c≤a→a < b→b < n→blt (p a) (p b)=e_∧blt (p b) (p a)=e_∧p a < p b
 lo:∀ a,a < n→p a < n
 re:∀ a,n≤a→a < N→p a=a
theorem Dq.turn {c n N:Nat} (D:Dq blt p c n N):Dn blt (mir p c n) n N where
 so:=fun a b hab hb=>by
  unfold mir;by_cases hbc:c≤b
  · rw [if_pos ⟨hbc,hb⟩];by_cases hac:c≤a
    · rw [if_pos ⟨hac,by omega⟩];have:=D.d3 (c + n - 1 - b) (c + n - 1 - a) (by omega) (by omega) (by omega);exact .inr ⟨this.2.1,this.2.2⟩
    · rw [if_neg (by omega)];exact .inl (D.d2 a _ (by omega) (by omega) (by omega))
  · rw [if_neg (by omega),if_neg (by omega)];exact D.d1 a b hab (by omega)
 lo:=fun a ha=>by
  unfold mir;split
  · exact D.lo _ (by omega)
  · exact D.lo _ ha
 re:=fun a ha hN=>by
  unfold mir;rw [if_neg (by omega)];exact D.re a ha hN
theorem Dq.one {n N:Nat} (D:Dq blt p (n - 1) n N):Dn blt p n N where
 so:=fun a b hab hb=>by
  by_cases hbc:b < n - 1
  · exact D.d1 a b hab hbc
  · exact .inl (D.d2 a b (by omega) (by omega) hb)
 lo:=D.lo
 re:=D.re
theorem Dn.turn {n N:Nat} (D:Dn blt p n N):Up blt (mir p 0 n) n N where
 so:=fun a b hab hb=>by
  unfold mir;rw [if_pos ⟨K3 _,by omega⟩,if_pos ⟨K3 _,hb⟩];exact D.so _ _ (by omega) (by omega)
 lo:=fun a ha=>by
  unfold mir;rw [if_pos ⟨K3 _,ha⟩];exact D.lo _ (by omega)
 re:=fun a ha hN=>by
  unfold mir;rw [if_neg (by omega)];exact D.re a ha hN
theorem Dn.next (O:Od blt) {n N:Nat} (D:Dn blt p n N) (h1:1≤n) (hn:n < N) (h:blt (p n) (p (n - 1))=d_):Dq blt p n (n + 1) N where
 cn:=by omega
 d1:=D.so
 d2:=fun a b ha hb hb'=>by
  have:b=n:=by omega
  subst this;by_cases e:a=b - 1
  · subst e; exact h
  · rcases D.so a (b - 1) (by omega) (by omega) with q | ⟨q,_⟩
    · exact O.tr _ _ _ h q
    · exact O.lt_le h q
 d3:=fun a b ha hab hb=>by omega
 lo:=fun a ha=>by
  by_cases han:a < n
  · have:=D.lo a han; omega
  · have:a=n:=by omega
    subst this;rw [D.re a (r_ _) hn];omega
 re:=fun a ha hN=>D.re a (by omega) hN
theorem Dq.next (O:Od blt) {c n N:Nat} (D:Dq blt p c n N) (hn:n < N) (h1:blt (p n) (p (n - 1))=e_) (h2:blt (p (n - 1)) (p n)=e_):Dq blt p c (n + 1) N where
 cn:=by have:=D.cn; omega
 d1:=D.d1
 d2:=fun a b ha hb hb'=>by
  by_cases hbn:b < n
  · exact D.d2 a b ha hb hbn
  · have:b=n:=by omega
    subst this;exact O.le_lt h2 (D.d2 a (b - 1) ha (by have:=D.cn; omega) (by omega))
 d3:=fun a b ha hab hb=>by
  by_cases hbn:b < n
  · exact D.d3 a b ha hab hbn
  · have:b=n:=by omega
    subst this;have hlt:p a < p b:=by
     have:=D.lo a (by omega);rw [D.re b (r_ _) hn];exact this
    by_cases e:a=b - 1
    · subst e; exact ⟨h2,h1,hlt⟩
    · obtain ⟨q1,q2,_⟩:=D.d3 a (b - 1) ha (by omega) (by omega);exact ⟨O.le h2 q1,O.le q2 h1,hlt⟩
 lo:=fun a ha=>by
  by_cases han:a < n
  · have:=D.lo a han; omega
  · have:a=n:=by omega
    subst this;rw [D.re a (r_ _) hn];omega
 re:=fun a ha hN=>D.re a (by omega) hN
theorem uG {n nrem:Nat} {Q:Option Nat→Of→Prop} (O:Od blt) (C:Cm M A J a₀ kd blt) (B:SB a₀ kd p st) (h1:1≤n) (hnn:n≤nrem) (hn:nrem≤a₀.size) (D:Dn blt p n a₀.size)
 (h:∀ m p' st',SB a₀ kd p' st'→1≤m→m≤nrem→Up blt p' m a₀.size→Q (a_ m) st'):wpJ M A E J (tail3 n nrem) Q st:=by
 unfold tail3;refine bI (wW ?_);have B':=B.mirror (i:=0) (j:=n) (by omega);exact bI (DY O C B' h1 hnn hn D.turn fun m hm1 hm2 U _=>cK (h m _ _ B' (by omega) hm2 U))
theorem DZ {n nrem:Nat} {Q:DescSt→Of→Prop} (O:Od blt) (C:Cm M A J a₀ kd blt) (B:SB a₀ kd p st) (h1:2≤n) (hnn:n≤nrem) (hn:nrem≤a₀.size) (D:Dq blt p (n - 1) n a₀.size)
 (h:∀ m neq p' st',SB a₀ kd p' st'→n≤m→m≤nrem→neq + 1≤m→Dq blt p' (m - (neq + 1)) m a₀.size→Q (ck,m,neq) st'):wpJ M A E J (descLoop n nrem) Q st:=by
 unfold descLoop;refine jF (I:=fun x c st'=>∃ neq p',c=(ck,x,neq)∧SB a₀ kd p' st'∧n≤x∧neq + 1≤x∧Dq blt p' (x - (neq + 1)) x a₀.size) hnn ?_ ?_ ⟨0,p,rfl,B,r_ _,by omega,D⟩
 · rintro x c st' hx ⟨neq,p',rfl,B',hax,hq,D'⟩;dsimp only;refine bI (DX C B' (by omega) (by omega) ?_);cases hl:blt (p' x) (p' (x - 1)) with
   | true =>
    simp only [if_true];by_cases hneq:neq > 0
    · rw [if_pos hneq];refine bI (wW (cK ?_));have B2:=B'.mirror (i:=x - (neq + 1)) (j:=x) (by omega);refine ⟨0,_,rfl,B2,by omega,by omega,?_⟩;have D2:=D'.turn;have hc:=D'.cn;refine D2.next O (by omega) (by omega) ?_;have e1:mir p' (x - (neq + 1)) x x=p' x:=by unfold mir; rw [if_neg (by omega)]
      have e2:mir p' (x - (neq + 1)) x (x - 1)=p' (x - (neq + 1)):=by unfold mir; rw [if_pos (by omega)]; congr 1; omega
      rw [e1,e2];by_cases e:x - (neq + 1)=x - 1
      · rw [e]; exact hl
      · exact O.lt_le hl (D'.d3 (x - (neq + 1)) (x - 1) (r_ _) (by omega) (by omega)).1
    · rw [if_neg hneq];have e:neq=0:=by omega
      subst e;exact cK ⟨0,p',rfl,B',by omega,by omega,D'.one.next O (by omega) (by omega) hl⟩
   | false =>
    simp only [p_,if_false];refine bI (DX C B' (by omega) (by omega) ?_);cases hg:blt (p' (x - 1)) (p' x) with
    | true =>
     simp only [if_true];exact cK (h x neq p' st' B' hax (by omega) hq D')
    | false =>
     simp only [p_,if_false];refine cK ⟨neq + 1,p',rfl,B',by omega,by omega,?_⟩;have:=D'.next O (by omega) hl hg
     rwa [show x + 1 - (neq + 1 + 1)=x - (neq + 1) by omega]
 · rintro c st' ⟨neq,p',rfl,B',hax,hq,D'⟩;exact h nrem neq p' st' B' hax (r_ _) hq D'
theorem lu {n nrem:Nat} {Q:Option Nat→Of→Prop} (O:Od blt) (C:Cm M A J a₀ kd blt) (B:SB a₀ kd p st) (h1:1≤n) (hnn:n + 1≤nrem) (hn:nrem≤a₀.size) (D:Dq blt p n (n + 1) a₀.size)
 (h:∀ m p' st',SB a₀ kd p' st'→1≤m→m≤nrem→Up blt p' m a₀.size→Q (a_ m) st'):wpJ M A E J (descPart n nrem) Q st:=by
 unfold descPart;refine bI (uF fun s hs=>Ou ⟨hs,?_⟩);refine bI (DZ O C B (by omega) hnn hn D fun m neq p' st' B' hm1 hm2 hq D'=>?_);dsimp only;by_cases hneq:neq > 0
 · rw [if_pos hneq];exact bI (wW (uG O C (B'.mirror (by omega)) (by omega) hm2 hn D'.turn h))
 · rw [if_neg hneq];have e:neq=0:=by omega
   subst e;exact uG O C B' (by omega) hm2 hn D'.one h
theorem Ah {nrem:Nat} {Q:Option Nat→Of→Prop} (O:Od blt) (C:Cm M A J a₀ kd blt) (B:SB a₀ kd p st) (h1:1≤nrem) (hn:nrem≤a₀.size) (hp:∀ k,k < a₀.size→p k=k)
 (h:∀ m p' st',SB a₀ kd p' st'→1≤m→m≤nrem→Up blt p' m a₀.size→Q (a_ m) st'):wpJ M A E J (countRun' 0 nrem) Q st:=by
 rw [countRun0_eq];refine bI (DY O C B (r_ 1) h1 hn ⟨fun a b hab hb=>by omega,fun a ha=>by rw [hp a (by omega)]; exact ha,fun a _ hN=>hp a hN⟩ fun n hn1 hn2 U hor=>?_);dsimp only;by_cases hnn:n=nrem
 · rw [if_pos (by simpa using hnn)];exact cK (h n p st B hn1 hn2 U)
 · rw [if_neg (by simpa using hnn)];have hlt:blt (p n) (p (n - 1))=d_:=hor.resolve_left hnn;by_cases hgt:n > 1
   · rw [if_pos hgt];refine bI (DX C B (by omega) (by omega) ?_);cases hr:blt (p 0) (p (n - 1)) with
     | true =>
      simp only [if_true];exact cK (h n p st B hn1 hn2 U)
     | false =>
      simp only [p_,if_false];have B':=B.mirror (i:=0) (j:=n) (by omega);have le0:∀ a,a < n→blt (p a) (p 0)=e_:=fun a ha=>by
       by_cases e:a=0
       · subst e; exact O.ir _
       · rcases U.so 0 a (by omega) ha with q | q
         · exact O.as q
         · exact q.1
      have leN:∀ a,a < n→blt (p (n - 1)) (p a)=e_:=fun a ha=>by
       by_cases e:a=n - 1
       · subst e; exact O.ir _
       · rcases U.so a (n - 1) (by omega) (by omega) with q | q
         · exact O.as q
         · exact q.1
      have eq:∀ a b,a < n→b < n→blt (p a) (p b)=e_:=fun a b ha hb=>O.le (leN b hb) (O.le hr (le0 a ha));have D:Dq blt (mir p 0 n) n (n + 1) a₀.size:=by
       have Dm:Dn blt (mir p 0 n) n a₀.size:=⟨fun a b hab hb=>by
        unfold mir;rw [if_pos ⟨K3 _,hb⟩,if_pos ⟨K3 _,by omega⟩];refine .of_le (eq _ _ (by omega) (by omega)) ?_;rw [hp _ (by omega),hp _ (by omega)];omega,fun a ha=>by
        unfold mir;rw [if_pos ⟨K3 _,ha⟩,hp _ (by omega)];omega,fun a ha hN=>by
        unfold mir;rw [if_neg (by omega),hp _ hN]⟩
       refine Dm.next O (by omega) (by omega) ?_;have e1:mir p 0 n n=p n:=by unfold mir; rw [if_neg (by omega)]
       have e2:mir p 0 n (n - 1)=p 0:=by unfold mir; rw [if_pos (by omega)]; congr 1; omega
       rw [e1,e2];exact O.lt_le hlt (eq 0 (n - 1) (by omega) (by omega))
      exact bI (wW (lu O C B' (by omega) (by omega) hn D h))
   · rw [if_neg hgt];have hn1':n=1:=by omega
     subst hn1';refine lu O C B (by omega) (by omega) hn ?_ h;have Dm:Dn blt p 1 a₀.size:=⟨fun a b hab hb=>by omega,U.lo,U.re⟩;exact Dm.next O (by omega) (by omega) hlt
theorem HF {n ok:Nat} {Q:Bool→Of→Prop} (O:Od blt) (C:Cm M A J a₀ kd blt) (B:SB a₀ kd p st) (hok:1≤ok) (hon:ok≤n) (hn:n≤a₀.size) (U:Up blt p ok a₀.size)
 (h:∀ p' st',SB a₀ kd p' st'→Up blt p' n a₀.size→Q d_ st'):wpJ M A E J (binarySort' 0 n ok) Q st:=by
 rw [binarySort'_eq];simp only [NG];rw [show max ok 1=ok by omega];refine bI (nj (jF (I:=fun k c st'=>∃ p',c=(ck,())∧ok≤k∧SB a₀ kd p' st'∧Up blt p' k a₀.size) (Q:=fun c st'=>∃ p',c=(ck,())∧SB a₀ kd p' st'∧Up blt p' n a₀.size) hon ?_ ?_ ⟨p,rfl,r_ _,B,U⟩) ?_)
 · rintro k c st' hk ⟨p',rfl,hok',B',U'⟩;have hpk:p' k=k:=U'.re k (r_ _) (by omega);refine bI (nj (jF (I:=fun x c st''=>st''=st'∧∃ l r,c=(ck,l,r)∧l≤r∧r≤k∧r - l≤k - x∧(∀ i,i < l→blt (p' k) (p' i)=e_)∧(∀ i,r≤i→i < k→blt (p' k) (p' i)=d_))
    (Q:=fun c st''=>st''=st'∧∃ l r,c=(ck,l,r)∧l≤k∧(∀ i,i < l→blt (p' k) (p' i)=e_)∧(∀ i,l≤i→i < k→blt (p' k) (p' i)=d_)) (K3 k) ?_ ?_ ⟨rfl,0,k,rfl,by omega,by omega,by omega,fun i hi=>by omega,fun i h1 h2=>by omega⟩) ?_)
   · rintro x c st'' hx ⟨rfl,l,r,rfl,hlr,hrk,hm,hlo,hhi⟩;dsimp only;by_cases hge:l ≥ r
     · rw [if_pos hge];have:l=r:=by omega
       subst this;exact cK ⟨rfl,l,l,rfl,hrk,hlo,hhi⟩
     · rw [if_neg hge];refine bI (DX C B' (by omega) (by omega) ?_);cases hless:blt (p' k) (p' ((l + r) / 2)) with
       | true =>
        simp only [if_true];refine cK ⟨rfl,l,(l + r) / 2,rfl,by omega,by omega,by omega,hlo,fun i i1 i2=>?_⟩;by_cases e:i=(l + r) / 2
        · subst e; exact hless
        · rcases U'.so ((l + r) / 2) i (by omega) i2 with q | q
          · exact O.tr _ _ _ hless q
          · exact O.lt_le hless q.1
       | false =>
        simp only [p_,if_false];refine cK ⟨rfl,(l + r) / 2 + 1,r,rfl,by omega,by omega,by omega,fun i i1=>?_,hhi⟩;by_cases e:i=(l + r) / 2
        · subst e; exact hless
        · rcases U'.so i ((l + r) / 2) (by omega) (by omega) with q | q
          · exact O.le (O.as q) hless
          · exact O.le q.1 hless
   · rintro c st'' ⟨rfl,l,r,rfl,hlr,hrk,hm,hlo,hhi⟩;have:l=r:=by omega
     subst this;exact ⟨rfl,l,l,rfl,hrk,hlo,hhi⟩
   · rintro c st'' ⟨rfl,l,r,rfl,hlk,hlo,hhi⟩;show wpJ M A E J (do moveDown' k l; pure (Qo (ck,()))) _ _
     rw [moveDown'_eq];refine bI (ka (cK ⟨bub p' k l,rfl,by omega,B'.bubble (by omega) hlk,?_⟩));refine ⟨fun a b hab hb=>?_,fun a ha=>?_,fun a ha hN=>?_⟩
     · have c1:bub p' k l l=p' k:=by unfold bub; rw [if_pos rfl]
       have c2:∀ x,l < x→x≤k→bub p' k l x=p' (x - 1):=fun x h1 h2=>by unfold bub; rw [if_neg (by omega),if_pos ⟨h1,h2⟩]
       have c3:∀ x,x < l→bub p' k l x=p' x:=fun x h1=>by unfold bub; rw [if_neg (by omega),if_neg (by omega)]
       by_cases hbl:b=l
       · subst hbl;rw [c1,c3 a hab];exact .of_le (hlo a (by omega)) (by rw [hpk]; exact U'.lo a (by omega))
       · by_cases hbg:l < b
         · rw [c2 b hbg (by omega)];by_cases hal:a=l
           · subst hal;rw [c1];exact .inl (hhi (b - 1) (by omega) (by omega))
           · by_cases hag:l < a
             · rw [c2 a hag (by omega)];exact U'.so (a - 1) (b - 1) (by omega) (by omega)
             · rw [c3 a (by omega)];exact U'.so a (b - 1) (by omega) (by omega)
         · rw [c3 a (by omega),c3 b (by omega)];exact U'.so a b hab (by omega)
     · unfold bub;split
       · rw [hpk]; omega
       · split
         · have:=U'.lo (a - 1) (by omega); omega
         · have:=U'.lo a (by omega); omega
     · unfold bub;rw [if_neg (by omega),if_neg (by omega)];exact U'.re a (by omega) hN
 · rintro c st' ⟨p',rfl,_,B',U'⟩;exact ⟨p',rfl,B',U'⟩
 · rintro c st' ⟨p',rfl,B',U'⟩;exact cK (h p' st' B' U')
end
section
variable {M:Rq} {A:E_} {E:g_→h_→Prop} {J:h_→Prop} {a₀:Array RQ} {kd:QS} {blt:Nat→Nat→Bool} {p:Nat→Nat} {st:Of}
structure HG (a₀:Array RQ) (blt:Nat→Nat→Bool) (p:Nat→Nat) (xs:Array RQ):Prop where
 sz:xs.size=a₀.size
 at':∀ k,k < a₀.size→xs[k]?=a₀[p k]?
 lt:∀ k,k < a₀.size→p k < a₀.size
 inj:∀ a b,a < a₀.size→b < a₀.size→p a=p b→a=b
 so:∀ a b,a < b→b < a₀.size→Lex blt (p a) (p b)
def Dne (a₀:Array RQ) (blt:Nat→Nat→Bool) (st:Of):Prop:=∃ p,HG a₀ blt p (OT st)∧RP st=ck∧PP st=#[(0,a₀.size,0)]
theorem SB.done (B:SB a₀ kd p st) (U:Up blt p a₀.size a₀.size):Dne a₀ blt (setPending st ((PP st).push (0,a₀.size,0))) :=
 ⟨p,⟨B.sz,B.at',B.lt,B.inj,U.so⟩,B.failed,by show (PP st).push _=_; rw [B.pend]; rfl⟩
theorem D4 {Q:Unit→Of→Prop} (O:Od blt) (C:Cm M A J a₀ kd blt) (B:SB a₀ kd p st) (hp:∀ k,k < a₀.size→p k=k) (h2:2≤a₀.size) (h64:a₀.size < 64)
 (h:∀ p' st',HG a₀ blt p' (OT st')→RP st'=ck→Q () st'):wpJ M A E J sortRuns' Q st:=by
 rw [sortRuns'_eq];refine bI (rh ?_);dsimp only;have hmr:minRun' a₀.size a₀.size 0=a₀.size:=by
  obtain ⟨f,hf⟩:∃ f,a₀.size=f + 1:=⟨a₀.size - 1,by omega⟩;have:minRun' (f + 1) a₀.size 0=a₀.size:=by rw [minRun'_succ,if_pos h64]; rfl
  rwa [← hf] at this
 simp only [B.sz,hmr];refine bI (nj (jF (I:=fun x c st'=>(x=0∧c=(ck,0)∧SB a₀ kd p st')∨(1≤x∧c=(ck,a₀.size)∧Dne a₀ blt st')) (Q:=fun c st'=>c=(ck,a₀.size)∧Dne a₀ blt st') (K3 _) ?_ ?_ (.inl ⟨rfl,rfl,B⟩)) ?_)
 · rintro x c st' hx (⟨rfl,rfl,B'⟩ | ⟨hx1,rfl,D⟩)
   · dsimp only;rw [if_neg (by omega)];simp only [Nat.sub_zero,Nat.min_self,NG];refine bI (Ah O C B' (by omega) (r_ _) hp fun m p2 st2 B2 hm1 hm2 U2=>?_);dsimp only;by_cases hlt:m < a₀.size
     · rw [if_pos hlt];refine bI (uF fun s hs=>Ou ⟨hs,?_⟩);refine bI (HF O C B2 hm1 hm2 (r_ _) U2 fun p3 st3 B3 U3=>?_);simp only [LM,p_,if_false];refine bI (rh ?_);have hb:(PP st3).back?=ck:=by rw [B3.pend]; rfl
       rw [hb];dsimp only;exact bI (ka (cK (.inr ⟨by omega,rfl,B3.done U3⟩)))
     · rw [if_neg hlt];have hm:m=a₀.size:=by omega
       subst hm;refine bI (rh ?_);have hb:(PP st2).back?=ck:=by rw [B2.pend]; rfl
       rw [hb];dsimp only;exact bI (ka (cK (.inr ⟨by omega,rfl,B2.done U2⟩)))
   · dsimp only;rw [if_pos (r_ _)];exact cK ⟨rfl,D⟩
 · rintro c st' (⟨hx,_,_⟩ | ⟨_,hc,D⟩)
   · omega
   · exact ⟨hc,D⟩
 · rintro c st' ⟨rfl,pd,D1,D2,D3⟩;dsimp only;refine bI (nj (jF (I:=fun _ c st''=>st''=st'∧c=(ck,())) (Q:=fun c st''=>st''=st'∧c=(ck,())) (K3 _) ?_ (fun _ _ hh=>hh) ⟨rfl,rfl⟩) ?_)
   · rintro x c st'' _ ⟨rfl,rfl⟩;refine bI (rh ?_);rw [if_pos (by rw [D3]; exact r_ 1)];exact cK ⟨rfl,rfl⟩
   · rintro c st'' ⟨rfl,rfl⟩;exact cK (h pd _ D1 D2)
end
section
variable {prog:rl} {w:C_} {A:E_} {E:g_→h_→Prop} {s:h_} {blt:Nat→Nat→Bool} {Kd:QS→Prop}
def JT (s:h_) (H:KO):h_→Prop:=fun s'=>∃ tk,s.toks≤tk∧s'={ s with heap:=H,toks:=tk }
end
end TS
namespace TS
open PySem PySem.Spec PyProof.Rows L2
def Ju (h:KO) (A:E_) (z:Bool) (p q:g_) (e l:Bool):Prop:=∀ (prog:rl) (w:C_) (E:g_→h_→Prop) (s:h_),s.heap=h →
 (∀ Q:Bool→h_→Prop,Q e s→v_ (F_ prog w) A (eqBool p q) Q E s)∧(∀ (b:Bool) (Q:Bool→h_→Prop),(b=d_→z=d_)→Q l s→v_ (F_ prog w) A (oneLt' b p q) Q E s)
section
variable {prog:rl} {w:C_} {A:E_} {E:g_→h_→Prop} {s:h_}
end
def Jv (p q:g_) (e l:Bool):Prop:=∀ (prog:rl) (w:C_) (A:E_) (E:g_→h_→Prop) (s:h_),
 (∀ Q:Bool→h_→Prop,Q e s→v_ (F_ prog w) A (eqBool p q) Q E s)∧(∀ Q:g_→h_→Prop,Q (.bool l) s→v_ (F_ prog w) A (richCompare .Lt p q) Q E s)
section
open PySem.SeqAt
open PySem.AutoSeq1 (wpAny_loadPart')
open PySem.MeetsSeq PySem.MeetsSeq2 PySem.MeetsSeq3
end
end TS
namespace TS
open PySem PyProof.Rows FD
theorem uH {R:Nat→Nat→Prop} (as:∀ a b,R a b→R b a→False):∀ {l m:List Nat},l.Perm m→l.Pairwise R→m.Pairwise R→l=m
 | [],m,hp,_,_=>hp.nil_eq
 | x :: l,[],hp,_,_=>by simpa using hp.length_eq
 | x :: l,y :: m,hp,h1,h2=>by
  rw [Le] at h1 h2;have e:x=y:=by
   rcases s_.mp (hp.mem_iff.mp (on (a:=x))) with e | hx
   · exact e
   · rcases s_.mp (hp.mem_iff.mpr (on (a:=y))) with e | hy
     · exact e.symm
     · exact (as _ _ (h1.1 y hy) (h2.1 x hx)).elim
  subst e;rw [uH as hp.cons_inv h1.2 h2.2]
theorem Lex.as {blt:Nat→Nat→Bool} (O:Od blt) {a b:Nat} (h:Lex blt a b) (h':Lex blt b a):False:=by
 have:=h.tr O h';rcases this with q | q
 · rw [O.ir] at q; cases q
 · omega
theorem uI {blt:Nat→Nat→Bool} (O:Od blt) (x:Nat):∀ l:List Nat,(∀ y∈l,x < y)→l.Pairwise (Lex blt)→(rf (fun i j=>!blt j i) x l).Pairwise (Lex blt)
 | [],_,_=>by simp [rf]
 | y :: l,hx,h=>by
  unfold rf;rw [Le] at h;split
  · rename_i hc;have hxy:Lex blt x y:=.of_le (by simpa using hc) (hx y on);rw [Le,Le];refine ⟨fun z hz=>?_,h⟩;rcases s_.mp hz with rfl | hz
    · exact hxy
    · exact hxy.tr O (h.1 z hz)
  · rename_i hc;rw [Le];refine ⟨fun z hz=>?_,uI O x l (fun z hz=>hx z (n_ _ hz)) h.2⟩;rcases s_.mp ((i7 _ x l).mem_iff.mp hz) with rfl | hz
    · exact .inl (by simpa using hc)
    · exact h.1 z hz
theorem ql {blt:Nat→Nat→Bool} (O:Od blt):∀ l:List Nat,l.Pairwise (· < ·)→(cm (fun i j=>!blt j i) l).Pairwise (Lex blt)
 | [],_=>.nil
 | x :: l,h=>by
  rw [Le] at h;exact uI O x _ (fun y hy=>h.1 y ((bF _ l).mem_iff.mp hy)) (ql O l h.2)
theorem uJ {α β:Type} {le:α→α→Bool} {le':β→β→Bool} (f:α→β) (x:α):∀ l:List α,(∀ y∈l,le x y=le' (f x) (f y))→(rf le x l).map f=rf le' (f x) (l.map f)
 | [],_=>rfl
 | y :: l,h=>by
  have e:=h y on;simp only [rf,K0];rw [← e];split
  · rfl
  · rw [K0,uJ f x l fun z hz=>h z (n_ _ hz)]
theorem l7 {α β:Type} {le:α→α→Bool} {le':β→β→Bool} (f:α→β):∀ l:List α,(∀ x∈l,∀ y∈l,le x y=le' (f x) (f y))→(cm le l).map f=cm le' (l.map f)
 | [],_=>rfl
 | x :: l,h=>by
  simp only [cm,K0];rw [uJ (le':=le') f x _ fun y hy=>h x on y (n_ _ ((bF _ l).mem_iff.mp hy)),l7 f l fun a ha b hb=>h a (n_ _ ha) b (n_ _ hb)]
theorem kx:∀ (l m:List Nat),l.Nodup→(∀ x∈l,x∈m)→m.length≤l.length→l.Perm m
 | [],m,_,_,h=>by
  have:m=[]:=MW.mp (by simpa using h);subst this;exact .refl _
 | x :: l,m,nd,hs,h=>by
  rw [Nd] at nd;obtain ⟨m1,m2,rfl⟩:=List.append_of_mem (hs x on);refine ((kx l (m1 ++ m2) nd.2 (fun y hy=>?_) (by simp at h ⊢; omega)).cons x).trans List.perm_middle.symm;have:=hs y (n_ _ hy);simp only [D_,s_] at this ⊢;rcases this with q | rfl | q
  · exact .inl q
  · exact (nd.1 hy).elim
  · exact .inr q
theorem o9 {n:Nat} {p:Nat→Nat} (hlt:∀ k,k < n→p k < n) (inj:∀ a b,a < n→b < n→p a=p b→a=b):((o_ n).map p).Perm (o_ n):=by
 have nd:((o_ n).map p).Nodup:=by
  rw [List.nodup_iff_pairwise_ne,Ps];refine (List.nodup_range (n:=n)).imp_of_mem fun {a b} ha hb hab e=>hab (inj a b (by simpa using ha) (by simpa using hb) e)
 have sub:∀ x∈(o_ n).map p,x∈o_ n:=fun x hx=>by
  obtain ⟨k,hk,rfl⟩:=KY.mp hx;simpa using hlt k (by simpa using hk)
 exact kx _ _ nd sub (by simp)
theorem nk {blt:Nat→Nat→Bool} (O:Od blt) {n:Nat} {p:Nat→Nat} (hlt:∀ k,k < n→p k < n) (inj:∀ a b,a < n→b < n→p a=p b→a=b) (so:∀ a b,a < b→b < n→Lex blt (p a) (p b)) :
 (o_ n).map p=cm (fun i j=>!blt j i) (o_ n):=by
 refine uH (fun a b h h'=>h.as O h') ((o9 hlt inj).trans (bF _ _).symm) ?_ (ql O _ Qe);rw [Ps];exact (Qe (n:=n)).imp_of_mem fun {a b} ha hb hab=>so a b hab (by simpa using hb)
section
variable {prog:rl} {w:C_} {A:E_} {E:g_→h_→Prop} {s:h_}
end
section
variable {prog:rl} {w:C_} {A:E_} {E:g_→h_→Prop} {s:h_} {blt:Nat→Nat→Bool}
end
end TS
namespace FD
open PySem PySem.Spec PyProof.Rows L2 TS
section
variable {X:Cx} {j':List (l_×Obj)} {σ:L2.St} {H:Hp} {s:h_}
end
section
variable {X:Cx} {j':List (l_×Obj)} {σ:L2.St} {H:Hp} {s:h_}
theorem gC {K:f_}:∀ {ds:List Dv} {ws:List V},Reps K H ds ws→ds.length=ws.length
 | [],ws,r=>by cases (show ws=[] from r); rfl
 | d :: ds,ws,r=>by
  obtain ⟨u,ws1,rfl,r1,r2⟩:∃ v ws1,ws=v :: ws1∧Rep K H d v∧Reps K H ds ws1:=r;simp [gC r2]
theorem rj {K:f_} {ds:List Dv} {ws:List V} (hl:ds.length=ws.length) (h:∀ (i:Nat) (d:Dv) (v:V),ds[i]?=a_ d→ws[i]?=a_ v→Rep K H d v):Reps K H ds ws:=by
 induction ds generalizing ws with
 | nil=>cases ws with
  | nil=>exact rfl
  | cons _ _=>simp at hl
 | cons d ds ih=>cases ws with
  | nil=>simp at hl
  | cons w ws=>exact ⟨w,ws,rfl,h 0 d w rfl rfl,ih (by simpa using hl) fun i d' v e1 e2=>h (i + 1) d' v (by simpa using e1) (by simpa using e2)⟩
theorem pb {K:f_}:∀ {ds:List Dv} {ws:List V},Reps K H ds ws→∀ (i:Nat) (d:Dv) (v:V),ds[i]?=a_ d→ws[i]?=a_ v→Rep K H d v
 | [],_,_,i,d,v,h,_=>by simp at h
 | d0 :: ds,ws,r,i,d,v,h,h'=>by
  obtain ⟨u,ws1,rfl,r1,r2⟩:∃ v ws1,ws=v :: ws1∧Rep K H d0 v∧Reps K H ds ws1:=r;cases i with
  | zero=>simp at h h'; subst h; subst h'; exact r1
  | succ i=>exact pb r2 i d v (by simpa using h) (by simpa using h')
theorem rm {ws:List V} {its:List g_} (hl:ws.length=its.length) (h:∀ (i:Nat) (v:V) (u:g_),ws[i]?=a_ v→its[i]?=a_ u→RelV v u):Vals ws its:=by
 induction ws generalizing its with
 | nil=>cases its with
  | nil=>exact .nil
  | cons _ _=>simp at hl
 | cons d ds ih=>cases its with
  | nil=>simp at hl
  | cons w ws=>exact .cons (h 0 d w rfl rfl) (ih (by simpa using hl) fun i d' v e1 e2=>h (i + 1) d' v (by simpa using e1) (by simpa using e2))
end
section
variable {X:Cx} {p pos:Pos} {e:H_} {es:List H_} {ga:FnA}
end
end FD
namespace FD
open PySem PySem.Spec PyProof.Rows L2 PySem.W
section
variable {X:Cx} {hx:H_} {body:List L3} {f:FnS} {g:FnE} {J n:Str} {CJ:l_} {np rp2 hpos pos:Pos}
end
end FD
namespace FD
open PySem PySem.Spec PyProof.Rows L2 TS
section
variable {X:Cx} {j':List (l_×Obj)} {σ:L2.St} {H:Hp} {s:h_} {k:Nat} {f:l_} {fd:Lv} {ps:List Str} {F:List Dv→Option (Rs Dv)} {A':E_} {E:g_→h_→Prop}
end
end FD
namespace TS
open PySem PyProof.Rows FD
section
variable {prog:rl} {w:C_} {A:E_} {E:g_→h_→Prop} {s:h_} {blt:Nat→Nat→Bool}
theorem yB {a kS:l_} {e1 c:Nat} {its:Array g_} {st:Of} {P:Sa→h_→Prop} (hk:s.heap.get? kS=a_ (LA "list" its c)) (ha:s.heap.get? a=a_ (LA "list" #[] e1)) (hne:kS≠a) (hz:its.size≤sizeLine) (hz2:(OT st).size≤sizeLine) (hf:RP st=ck)
 (h:P (.done (.ret .none)) { s with heap:=(s.heap.update kS (K7 fun _=>#[])).update a (K7 fun _=>(OT st).map (·.2)) }):v_ (F_ prog w) A (ksk_tail a e_ e1 (.ref kS) st) P E s:=by
 unfold ksk_tail;refine c_ (OD hk rfl ?_ hz (K3 _));refine c_ (Sk ?_);have ha2:(s.heap.update kS (K7 fun _=>#[])).get? a=a_ (LA "list" #[] e1):=by
  rw [L1 _ _ _ _ hne.symm]; exact ha
 refine c_ (seqEpoch_at (s:={ s with heap:=s.heap.update kS (K7 fun _=>#[]) }) ha2 rfl ?_);refine c_ (OD (s:={ s with heap:=s.heap.update kS (K7 fun _=>#[]) }) ha2 rfl ?_ (K3 _) (by simp only [p_,if_false,MZ]; omega));rw [hf];simp only [bne_self_eq_false,p_,if_false];exact j_ h
end
end TS
namespace FD
open PySem PySem.Spec PyProof.Rows L2 TS
section
variable {X:Cx} {j':List (l_×Obj)} {σ:L2.St} {H:Hp} {s:h_} {k:Nat} {f:l_} {fd:Lv} {ps:List Str} {F:List Dv→Option (Rs Dv)} {A':E_} {E:g_→h_→Prop}
theorem nq:∀ {ds:List Dv} (n:Nat),imms ds=d_→imms (ds.take n)=d_
 | [],n,_=>by simp [imms]
 | d :: ds,0,_=>by simp [imms]
 | d :: ds,n + 1,h=>by
  simp only [imms,pi] at h;simp only [List.take_succ_cons,imms,pi];exact ⟨h.1,nq n h.2⟩
end
section
variable {X:Cx} {j':List (l_×Obj)} {σ:L2.St} {H:Hp} {s:h_} {k:Nat} {f:l_} {fd:Lv} {ps:List Str} {F:List Dv→Option (Rs Dv)} {A':E_} {E:g_→h_→Prop}
theorem pc {h:KO} {a:l_} {o:Obj} (e:h.get? a=a_ o):dP [a] h=[(a,o)]:=by simp [dP,e]
theorem pj {M:Rq} {A:E_} {l:l_} {vs:List g_} {o:Obj} {n:Nat} {c:String} {Q:List g_→h_→Prop} {prog:rl} {w:C_} (ho:s.heap.get? l=a_ o) (hc:o.cls=.type c) (hd:o.data=.seq vs.toArray n) (h2:(x_ c == x_ "list" || x_ c == x_ "tuple")=d_)
 (h:∀ h',(∀ b o,s.heap.get? b=a_ o→h'.get? b=a_ o)→s.heap.objs.size < h'.objs.size→Q vs { s with heap:=h' }) (hsz:vs.length≤sizeLine):v_ (F_ prog w) A (collect (.ref l)) Q E s:=by
 unfold collect;refine c_ (Qw (LN entry_proto_collect' ?_));show v_ _ _ (do again (.builtin "list.__iadd__" ⟨[← newList [],.ref l],[]⟩)) _ _ s
 refine c_ (Rk (j_ ⟨Pf _ (by decide +kernel),LN entry_list_iadd' ?_⟩));show v_ _ _ (OY (.ref s.heap.objs.size) (.ref l) (.ref s.heap.objs.size)) _ _ { s with heap:=s.heap.push (LA "list" #[] 0) };unfold OY;have ho':(s.heap.push (LA "list" #[] 0)).get? l=a_ o:=i_ _ ho;refine c_ (N4 (T:=c) ⟨o,ho',hc⟩ ?_);rw [if_pos (by rw [Bool.or_assoc,h2]; simp)];refine c_ (Qb ho' hd ?_);refine c_ (Qb (xs:=#[]) (n:=0) (t_ _ rfl) rfl ?_);rw [if_neg (by simp)];refine c_ (OD (xs:=#[]) (n:=0) (t_ _ rfl) rfl ?_ (K3 _) (by simp only [Os,A_,List.length_nil]; show 0 + vs.length≤_; omega));refine j_ ?_;show v_ (F_ prog w) A (do
  let o ← load s.heap.objs.size
  match o.data with
  | .seq xs _=>pure xs.toList
  | _=>NV "internal:collect") Q E { s with heap:=(s.heap.push (LA "list" #[] 0)).update s.heap.objs.size (K7 (· ++ vs.toArray)) }
 refine c_ (wpAny_load (NT (t_ _ rfl) _) ?_);show v_ _ _ (pure ((#[]:Array g_) ++ vs.toArray).toList) Q E _;rw [show ((#[]:Array g_) ++ vs.toArray).toList=vs by simp];refine j_ (h _ (fun b o' q=>?_) ?_)
 · have:=w_ q;rw [L1 _ _ _ _ (KP this),Heap.get?_push_ne _ _ _ (KP this)];exact q
 · rw [R_,size_push']; exact Oy _
end
section
variable {X:Cx} {j':List (l_×Obj)} {σ:L2.St} {H:Hp} {s:h_} {k:Nat} {f:l_} {fd:Lv} {ps:List Str} {F:List Dv→Option (Rs Dv)} {E:g_→h_→Prop}
end
section
variable {X:Cx} {k' n:Nat} {ps:List Str} {x:Str} {p p2 kp pos:Pos} {e:H_} {F:List Dv→Option (Rs Dv)} {g:FnA}
end
end FD
namespace FD
open PySem PySem.Spec PyProof.Rows L2
section
variable {X:Cx} {p pos:Pos} {e:H_} {es:List H_} {ga:FnA}
end
end FD
namespace TS
open PySem PySem.Spec PyProof.Rows L2 FD
def okF (ks:List Nat):Bool:=ks.all fun k=>k != 0 && u_ (k < 4)
end TS
namespace FD
open PySem PySem.Spec PyProof.Rows L2 TS
section
variable {X:Cx}
end
end FD
namespace FD
open PySem PySem.Spec PyProof.Rows L2
def aq (X:Cx) (N:List Str) (scope:L6) (C:l_) (s:h_) (H:Hp) (fp:List l_):Cx :=
 { X with N:=N,s₀:=s,H₀:=H,env:=RK scope (Lh (C + 1) scope.names (j7 scope.names X.env [])) C X.env,outer:=X.stack,stack:=X.stack,ex:=fp,fn:=fun y=>scope.names.lookup y == a_ .cell,pn:=[],xe:=fun _ _=>False }
structure jG (osc scope:L6) (cs:List (Str×Nat)) (N:List Str):Prop where
 kind:scope.kind=.function
 one:∀ y∈scope.names,y.2=.cell→scope.names.lookup y.1=a_ .cell
 names:∀ y∈scope.names,y.2=.local→scope.names.lookup y.1=a_ .local
 free:∀ y∈scope.names,y.2=.free→osc.names.lookup y.1=a_ .cell∨osc.names.lookup y.1=a_ .free
 caps:∀ c∈cs,N[c.2]?=a_ c.1∧scope.names.lookup c.1=a_ .free
theorem jc:∀ (names:List (Str×MU)) (lo:Nat) (acc:List (Str×l_)),Lh lo names acc=Lh lo names [] ++ acc
 | [],_,_=>rfl
 | (n,k) :: r,lo,acc=>by
  unfold Lh;split
  · rw [jc r (lo + 1) ((n,lo) :: acc),jc r (lo + 1) [(n,lo)],MJ]; rfl
  · exact jc r lo acc
theorem uK:∀ {names:List (Str×MU)} {lo:Nat} {n:Str} {c:l_},(n,c)∈Lh lo names []→(n,Ma)∈names
 | [],_,_,_,h=>(nomatch h)
 | (m,k) :: r,lo,n,c,h=>by
  unfold Lh at h;split at h
  · rename_i hk;rw [jc] at h;rcases D_.mp h with q | q
    · exact n_ _ (uK q)
    · have e:n=m:=by simp at q; exact q.1
      have ek:k=.cell:=by simpa using hk
      subst e ek;exact on
  · exact n_ _ (uK h)
theorem qm:∀ {names:List (Str×MU)} {lo:Nat} {n:Str},(n,Ma)∈names→((Lh lo names []).lookup n).isSome=d_
 | [],_,_,h=>(nomatch h)
 | (m,k) :: r,lo,n,h=>by
  unfold Lh;rcases s_.mp h with e | q
  · cases e;rw [if_pos (by decide),jc,Mr];cases hl:(Lh (lo + 1) r []).lookup m with
    | some _=>rfl
    | none=>simp
  · split
    · rw [jc,Mr];have:=qm (lo:=lo + 1) q;cases hl:(Lh (lo + 1) r []).lookup n with
      | some _=>rfl
      | none=>rw [hl] at this; cases this
    · exact qm q
theorem Ai {M:Rq} {A:E_} {E:g_→h_→Prop} {s:h_} {scope:L6} {globals:l_} {cl:List (Str×l_)} {qual:Str} {env:Env} {Q:Env→h_→Prop} (hk:scope.kind=.function)
 (hQ:Q (newEnv scope s.heap.objs.size globals (Lh (s.heap.objs.size + 1) scope.names cl) qual ck .none (a_ env) builtinsNs) { s with heap:=pushCells (s.heap.push { cls:=.type "dict",data:=.dict #[] }) scope.names }) :
 v_ M A (Qy scope globals cl [] qual ck .none (a_ env)) Q E s:=by
 simp only [Qy,Option.isSome_some,if_true];refine c_ (Sl ?_);refine c_ (wpAny_layCells _ (fun name kind cells=>by cases hkc:kind == Ma <;> simp [hkc]) _ _ _ _ ?_);rw [show ({ s with heap:=s.heap.push { cls:=.type "dict",data:=.dict #[] } }:h_).heap.objs.size=s.heap.objs.size + 1 from K8 ..];refine c_ ?_;rw [Pn];exact j_ (j_ hQ)
theorem uL {X:Cx} {j':List (l_×Obj)} {σ:L2.St} {H:Hp} {s:h_} {scope:L6} {ns:List Str} {cs:List (Str×Nat)} {fp:List l_} {h₁:KO} {C:l_} {t':Nat} (ok:jG X.env.scope scope cs X.N) (I:Inv X j' σ H s) (hfp:∀ b∈fp,oG X j' H b) (hlt:∀ b∈fp,b < s.heap.objs.size)
 (hC:s.heap.objs.size≤C) (hns:h₁.Ns C fun _=>ck) (old:∀ b o,s.heap.get? b=a_ o→h₁.get? b=a_ o) (hck:CellsOk h₁ (C + 1) (Lh (C + 1) scope.names [])) :
 Inv (aq X (ns ++ cs.map (·.1)) scope C s H fp) [] (mX ns.length cs σ) H { s with heap:=h₁,toks:=t' }:=by
 have cl1:∀ n c,(j7 scope.names X.env []).lookup n=a_ c→X.env.cells.lookup n=a_ c:=fun n c e=>by
  rcases lg _ _ e with q | ⟨q1,q2⟩
  · simp at q
  · obtain ⟨c',e'⟩:=I.ok.has n (ok.free _ q1 rfl);rw [e'] at q2;rw [e',q2] <;> rfl
 have lk:∀ n c,(aq X (ns ++ cs.map (·.1)) scope C s H fp).env.cells.lookup n=a_ c→(n,c)∈Lh (C + 1) scope.names []∨((n,Ma) ∉ scope.names∧(j7 scope.names X.env []).lookup n=a_ c):=fun n c e=>by
  have e':(Lh (C + 1) scope.names (j7 scope.names X.env [])).lookup n=a_ c:=e;rw [jc,Mr] at e';cases hl:(Lh (C + 1) scope.names []).lookup n with
  | some c'=>rw [hl] at e'; cases e'; exact .inl (mem_of_lookup hl)
  | none =>
   rw [hl] at e';refine .inr ⟨fun hm=>?_,e'⟩;have:=qm (lo:=C + 1) hm;rw [hl] at this;cases this
 have lk2:∀ n c,(n,Ma) ∉ scope.names→(j7 scope.names X.env []).lookup n=a_ c→(aq X (ns ++ cs.map (·.1)) scope C s H fp).env.cells.lookup n=a_ c:=fun n c hm e=>by
  show (Lh (C + 1) scope.names (j7 scope.names X.env [])).lookup n=a_ c;rw [jc,Mr];cases hl:(Lh (C + 1) scope.names []).lookup n with
  | some c'=>exact absurd (uK (mem_of_lookup hl)) hm
  | none=>exact e
 have big:∀ n c,(n,c)∈Lh (C + 1) scope.names []→s.heap.objs.size < c:=fun n c hm=>J_ (Nat.lt_succ_of_le hC) (hck.empty n c hm).2;have low:∀ n c,(j7 scope.names X.env []).lookup n=a_ c→c < s.heap.objs.size:=fun n c e=>by
  obtain ⟨v,o,ho,_⟩:=I.cell n c (cl1 n c e);exact w_ ho
 have inj:∀ y z c,(aq X (ns ++ cs.map (·.1)) scope C s H fp).env.cells.lookup y=a_ c→(aq X (ns ++ cs.map (·.1)) scope C s H fp).env.cells.lookup z=a_ c→y=z:=fun y z c e1 e2=>by
  rcases lk y c e1 with p | ⟨_,p⟩ <;> rcases lk z c e2 with q | ⟨_,q⟩
  · exact name_of_addr hck.apart p q
  · exact absurd (RT (big y c p) (low z c q)) (LX _)
  · exact absurd (RT (big z c q) (low y c p)) (LX _)
  · exact I.ok.inj y z c (cl1 y c p) (cl1 z c q)
 refine ⟨⟨I.ok.mod,ok.kind,I.ok.glob,I.ok.blt,hC,inj,fun y hy=>?_,fun y c hfn e=>?_,I.ok.hd,I.ok.frames,.inl rfl,fun b hb=>⟨fun z=>?_,fun y c e=>?_⟩,I.bs,K5 I.ok.bsz I.sz,fun b o e hb=>?_,fun b hb z=>?_,I.stack,I.stkFree⟩,
  rfl,I.bare,Un.kept old,⟨_,hns,fun i y v h1 h2 h3=>?_⟩,fun y c e=>?_,I.hok.fresh hC,fun y c e=>?_,fun p hp=>absurd (show p∈([]:List (l_×Obj)) from hp) (by simp),I.hok.kept old,by simp [mX,aq]⟩
 · have hm:(y,Ma)∈scope.names∨(y,LW)∈scope.names:=by
    rcases hy with hy | hy
    · rcases jV hy with q | ⟨_,q⟩
      · exact .inl q
      · exact .inr q
    · rcases jV hy with q | ⟨q,_⟩
      · exact .inr q
      · cases q
   by_cases hcl:(y,Ma)∈scope.names
   · obtain ⟨c,hc'⟩:=MO.mp (qm (lo:=C + 1) hcl);refine ⟨c,?_⟩;show (Lh (C + 1) scope.names (j7 scope.names X.env [])).lookup y=a_ c;rw [jc,Mr,hc'];rfl
   · obtain ⟨c,hc'⟩:=MO.mp (lN (env:=X.env) scope.names [] (hm.resolve_left hcl));exact ⟨c,lk2 y c hcl hc'⟩
 · have hfn':scope.names.lookup y=a_ .cell:=by simpa [aq] using hfn
   rcases lk y c e with p | ⟨p,_⟩
   · exact NH (big y c p)
   · exact absurd (fQ hfn') p
 · have:=hlt b hb;rw [z] at this;exact absurd (J_ this hC) (LX _)
 · rcases lk y c e with p | ⟨_,p⟩
   · exact fun z=>absurd (RT (big y c p) (z ▸ hlt b hb)) (LX _)
   · exact (hfp b hb).2.2.2.2.1 y c (cl1 y c p)
 · rcases (hfp b hb).2.2.2.1 with z | z
   · exact I.ok.noex b o e z
   · exact absurd (J_ (w_ e) (K5 I.ok.bsz z)) (LX _)
 · rcases s_.mp (I.stkSub b z) with q | q
   · exact (hfp b hb).2.1 q
   · exact (hfp b hb).2.2.1 q
 · obtain ⟨k,rfl,h4⟩:=mY h2;have h1':(ns ++ cs.map (·.1))[ns.length + k]?=a_ y:=h1;rw [LZ (by simp)] at h1';simp only [PR] at h1';rw [La] at h1';cases hc:cs[k]? with
   | none=>rw [hc] at h1'; simp at h1'
   | some c =>
    rw [hc] at h1';have ey:c.1=y:=by simpa using h1'
    subst ey;rw [La,hc] at h4;simp only [Nb,Np] at h4;have h2':σ[c.2]?=a_ (a_ v):=by
     cases q:σ[c.2]? with
     | none=>rw [q] at h4; simp at h4
     | some o=>rw [q] at h4; simp at h4; rw [h4]
    obtain ⟨hN,hf⟩:=ok.caps c (MH hc);have hv:=ok.free _ (fQ hf) rfl;obtain ⟨mm,_,hl⟩:=I.loc;obtain ⟨u,r,l⟩:=hl c.2 c.1 v hN h2' (.inr hv);refine ⟨u,r,.inr ⟨jW hf,?_⟩⟩;rcases l with ⟨l,_⟩ | ⟨_,a,ha,o,ho,hd⟩
    · have l':X.env.scope.names.lookup c.1=a_ .local:=l;rcases hv with z | z
      · rw [l'] at z; cases z
      · rw [l'] at z; cases z
    · obtain ⟨a',ha'⟩:=MO.mp (lN (env:=X.env) scope.names [] (fQ hf));have e2:=cl1 _ _ ha';rw [ha] at e2;cases e2;exact ⟨a,lk2 _ _ (fun hm=>by have z:=ok.one _ hm rfl; rw [hf] at z; cases z) ha',o,old _ _ ho,hd⟩
 · rcases lk y c e with p | ⟨_,p⟩
   · exact ⟨ck,(hck.empty y c p).1⟩
   · obtain ⟨v,o,ho,hd⟩:=I.cell y c (cl1 y c p);exact ⟨v,o,old _ _ ho,hd⟩
 · rcases lk y c e with p | ⟨_,p⟩
   · exact I.hok.fresh (NH (big y c p))
   · exact I.freeC y c (cl1 y c p)
def D6 (X:Cx) (ns:List Str) (cs:List (Str×Nat)) (scope:L6) (D:l_) (s2:h_) (H2:Hp) (fp:List l_) (tn:Nat→KO→Prop) (ds ys:List Dv) (b:Dv→Ev→Option Ev) (tst:Option FnB) (fe:FnE) (ρ:Ev) (m:Nat) (s':h_):Prop :=
 ∃ i σ' H' es vs its,m=ds.length - i∧i≤ds.length∧Inv (aq X (ns ++ cs.map (·.1)) scope (D + 1) s2 H2 fp) [] σ' H' s'∧Envs X.K H' σ' (iy ns.length cs ρ)∧tn i s'.heap∧(∀ b∈fp,H' b=ck)∧H' D=ck∧LAt s'.heap D its∧Vals vs its∧Reps X.K H' es vs∧es.length≤i∧Same H2 H' ∧
  (match jZ b tst fe (iy ns.length cs ρ) (ds.drop i) with | some zs=>es ++ zs=ys | none=>False)
theorem lv {X:Cx} {j':List (l_×Obj)} {σ:L2.St} {tg elt iter:H_} {ifs:List H_} {scope:L6} {pos:Pos} {ns:List Str} {tst:Option FnB} {fe:FnE} {b:Dv→Ev→Option Ev} {js:List Nat} (cs:List (Str×Nat)) (ok:jG X.env.scope scope cs X.N) (hc:X.calm=d_)
 (htg:∀ C s H fp,FG (aq X (ns ++ cs.map (·.1)) scope C s H fp) tg b) (helt:∀ C s H fp,(∃ j' σ,Inv X j' σ H s)→FE (aq X (ns ++ cs.map (·.1)) scope C s H fp) elt fe) (hifs:∀ C s H fp,(∃ j' σ,Inv X j' σ H s)→vL (aq X (ns ++ cs.map (·.1)) scope C s H fp) ifs tst)
 (hback:∀ ρ d ρ',b d (iy ns.length cs ρ)=a_ ρ'→fgt js ρ'=iy ns.length cs ρ)
 {ρ:Ev} {s2:h_} {it:l_} {fp:List l_} {tn:Nat→KO→Prop} {J:It} {H2:Hp} (E:Envs X.K H2 σ ρ) (I2:Inv X j' σ H2 s2) (T:vX X.prog X.w X.K tg J fp it tn) (st2:tn 0 s2.heap) (f2:∀ b∈fp,oG X j' H2 b) {ds ys:List Dv} (wk:WkG X.K J ds H2) (hdl:ds.length≤100000) (hyl:ys.length≤100000) (hm:jZ b tst fe (iy ns.length cs ρ) ds=a_ ys)
 {RR:g_→l_→QM→h_→Prop}
 (hRR:∀ (D C:l_) (s6:h_) (H5:Hp) (vs:List V) (m6:Str→Option g_),Inv X j' σ (upd H5 D (.lst vs)) s6→H5 D=ck→Same H2 H5→Reps X.K H5 ys vs→s6.heap.Ns C m6→H5 C=ck→C≠D→s2.heap.objs.size≤C→RR (.ref D) C (.ok .next) s6) :
 v_ (F_ X.prog X.w) X.A (newList []) (fun acc s₃=>v_ (F_ X.prog X.w) X.A (Qy scope X.env.globals (j7 scope.names X.env []) [] X.env.qual ck .none (a_ X.env)) (fun cenv s₄ =>
  NC (F_ X.prog X.w) X.A (.compStart (.ListComp elt [⟨tg,iter,ifs,0⟩] scope pos) 0 (.ref it) acc { cenv with scope:=relabel scope X.env }) (RR acc cenv.locals) s₄) X.xe s₃) X.xe s2:=by
 have fplt:∀ b∈fp,b < s2.heap.objs.size:=fun b hb=>by
  obtain ⟨o,ho,_⟩:=T.obj _ _ st2 b hb;exact w_ ho
 refine Mf (Ai ok.kind ?_);dsimp only;generalize hH2:s2.heap.push { cls:=.type "list",dict:=ck,data:=.seq ([]:List g_).toArray }=P2;obtain ⟨D,hD⟩:∃ D,s2.heap.objs.size=D:=⟨_,rfl⟩;have hC:P2.objs.size=D + 1:=by rw [← hH2,K8,hD]
 rw [hC,hD];obtain ⟨h₁,hh₁⟩:∃ h,h=pushCells (P2.push { cls:=.type "dict",data:=.dict #[] }) scope.names:=⟨_,rfl⟩;rw [← hh₁];have kp:∀ b o,P2.get? b=a_ o→h₁.get? b=a_ o:=fun b o e=>by rw [hh₁]; exact pushCells_keeps _ _ b o (i_ _ e)
 have old:∀ b o,s2.heap.get? b=a_ o→h₁.get? b=a_ o:=fun b o e=>kp b o (hH2 ▸ i_ _ e);have hacc:LAt h₁ D []:=⟨0,kp _ _ (by rw [← hH2,← hD]; exact t_ _ rfl)⟩;have hns:h₁.Ns (D + 1) fun _=>ck:=by
  rw [hh₁,← hC];exact (Heap.Ns.new P2 (.type "dict")).keeps (pushCells_keeps _ _)
 have hck:CellsOk h₁ (D + 1 + 1) (Lh (D + 1 + 1) scope.names []):=by
  have q:=cellsFrom_ok scope.names (P2.push { cls:=.type "dict",data:=.dict #[] }) (D + 1 + 1) [] ⟨fun _ _ hm=>(nomatch hm),MK⟩ (by rw [K8,hC]; exact r_ _);rw [K8,hC,← hh₁] at q;exact q
 have I4:Inv (aq X (ns ++ cs.map (·.1)) scope (D + 1) s2 H2 fp) [] (mX ns.length cs σ) H2 { s2 with heap:=h₁ }:=uL (t':=s2.toks) ok I2 f2 fplt (by rw [hD]; exact Nz D) hns old hck;have E4:Envs X.K H2 (mX ns.length cs σ) (iy ns.length cs ρ):=tK ns.length cs E;have HD:H2 D=ck:=I2.hok.fresh (Oj hD);have fpD:∀ b∈fp,b≠D:=fun b hb=>zm (hD ▸ fplt b hb);have loop:∀ s4:h_,s4={ s2 with heap:=h₁ } →
  NC (F_ X.prog X.w) X.A (.compLoop (.ListComp elt [⟨tg,iter,ifs,0⟩] scope pos) 0 (.ref it) (.ref D) (RK scope (Lh (D + 1 + 1) scope.names (j7 scope.names X.env [])) (D + 1) X.env)) (RR (.ref D) (D + 1)) s4:=by
  rintro s4 rfl;refine mZ (fun k s'=>D6 X ns cs scope D s2 H2 fp tn ds ys b tst fe ρ k s') ?_ ds.length ⟨0,mX ns.length cs σ,H2,[],[],[],by simp,K3 _,I4,E4,T.keep _ _ _ st2 fun b hb o e=>old b o e,fun b hb=>(f2 b hb).1,HD,hacc,.nil,rfl,r_ _,.refl H2,by rw [QV,hm]; rfl⟩;rintro k0 s5 ⟨i,σ5,H5,es,vs,its,rfl,hi5,I5,E5,t5,fr5,D5,l5,v5,r5,hel,e5,hz⟩;have nC:∀ b∈fp,b≠D + 1:=fun b hb=>CL (hD ▸ fplt b hb);have DL:D≠(aq X (ns ++ cs.map (·.1)) scope (D + 1) s2 H2 fp).env.locals:=Jg;have Dcell:∀ y c,(aq X (ns ++ cs.map (·.1)) scope (D + 1) s2 H2 fp).env.cells.lookup y=a_ c→c≠D:=fun y c e z=>by
   obtain ⟨v,o,ho,hd⟩:=I5.cell y c e;obtain ⟨n,q⟩:=l5;subst z;rw [q] at ho;cases ho;cases hd
  have Dfs:D ∉ (aq X (ns ++ cs.map (·.1)) scope (D + 1) s2 H2 fp).fs:=fun z=>by
   rcases s_.mp (I2.stkSub D z) with q | q
   · have z2:=I2.lt;rw [hD] at z2;exact zm z2 q.symm
   · exact I2.nofs (Oj hD) q
  have Dp:oG (aq X (ns ++ cs.map (·.1)) scope (D + 1) s2 H2 fp) [] H5 D:=⟨D5,DL,Dfs,.inr (Oj hD),Dcell,fun p hp=>absurd (show p∈([]:List (l_×Obj)) from hp) (by simp)⟩;have Dob:∀ b∈[D],∃ o,s5.heap.get? b=a_ o∧∀ v,o.data≠.cell v:=fun b hb=>by
   have e:b=D:=by simpa using hb
   subst e;obtain ⟨n,q⟩:=l5;exact ⟨_,q,fun v z=>by cases z⟩
  have I5p:Inv (aq X (ns ++ cs.map (·.1)) scope (D + 1) s2 H2 fp) (dP [D] s5.heap) σ5 H5 s5:=by
   have q:=I5.pinned (fp:=[D]) (fun b hb=>by
    have e:b=D:=by simpa using hb
    subst e; exact Dp) Dob
   rw [Ql] at q;exact q
  have ner:∀ b∈fp,∀ p∈dP [D] s5.heap,p.1≠b:=fun b hb p hp z=>by
   have e:p.1=D:=by simpa using (ki hp).1
   exact fpD b hb (z.symm.trans e)
  have fp5':∀ b∈fp,oG (aq X (ns ++ cs.map (·.1)) scope (D + 1) s2 H2 fp) (dP [D] s5.heap) H5 b:=fun b hb=>⟨fr5 b hb,nC b hb,I4.ok.exfs b hb,.inl hb,(I4.ok.exf b hb).2,fun p hp=>ner b hb p (by simpa [aq] using hp)⟩;have lenR:vs.length=es.length:=r5.length;have lenV:vs.length=its.length:=v5.length;by_cases hlt:i < ds.length
  · refine thn (T.item (aq X (ns ++ cs.map (·.1)) scope (D + 1) s2 H2 fp) rfl rfl rfl hc i (dP [D] s5.heap) s5 σ5 H5 _ I5p fp5' t5 (wk.go i H5 e5 hlt)) fun r s6 ⟨u,hr,h6⟩=>?_;subst hr;refine thn h6 fun _ s7 ⟨xv,H7,I7,r7,y7,t7,fr7⟩=>?_;obtain ⟨e57,d,hd,rd⟩:=wk.yld i H5 xv H7 e5 hlt y7;rw [iT hd] at hz;have I7p:=I7.pinned (fp:=fp) (fun b hb=>⟨fr7 b hb,nC b hb,I4.ok.exfs b hb,.inl hb,(I4.ok.exf b hb).2,fun p hp=>ner b hb p (by simpa [aq] using hp)⟩) (T.obj _ _ t7);have fin:∀ {σ8:L2.St} {H8:Hp} {s8:h_},Inv (aq X (ns ++ cs.map (·.1)) scope (D + 1) s2 H2 fp) (dP [D] s5.heap ++ dP fp s7.heap) σ8 H8 s8→tn (i + 1) s8.heap∧(∀ b∈fp,H8 b=ck)∧H8 D=ck∧LAt s8.heap D its:=fun {σ8 H8 s8} I8=>by
     refine ⟨T.keep _ _ _ t7 fun b hb o e=>(I8.pin (b,o) (m_ _ (m_ _ (dj hb e)))).1,fun b hb=>?_,?_,?_⟩
     · obtain ⟨o,e,_⟩:=T.obj _ _ t7 b hb;exact (I8.pin (b,o) (m_ _ (m_ _ (dj hb e)))).2.1
     · obtain ⟨n,q⟩:=l5;exact (I8.pin (D,_) (m_ _ (G_ _ (dj (by simp) q)))).2.1
     · obtain ⟨n,q⟩:=l5;exact ⟨n,(I8.pin (D,_) (m_ _ (G_ _ (dj (by simp) q)))).1⟩
    unfold jZ at hz
    match hb:b d (iy ns.length cs ρ) with
    | none=>rw [hb] at hz; exact hz.elim
    | some ρd =>
     rw [hb] at hz;dsimp only at hz;refine Lf ((htg (D + 1) s2 H2 fp).h _ s7 σ5 H7 xv u d (iy ns.length cs ρ) ρd I7p r7 rd (E5.mono e57) hb) (fun _ s8 ⟨σ8,H8,I8,e78,E8⟩=>?_) fun _ _ z=>Lw z;have e58:=e57.trans e78;have back:∀ {σ9:L2.St} {H9:Hp},Envs X.K H9 σ9 ρd→Envs X.K H9 σ9 (iy ns.length cs ρ):=fun {σ9 H9} E9=>by
      have q:=Envs.fgt js E9;rw [hback ρ d ρd hb] at q;exact q
     have took:∀ {H9:Hp} {s9:h_},Inv (aq X (ns ++ cs.map (·.1)) scope (D + 1) s2 H2 fp) (dP [D] s5.heap ++ dP fp s7.heap) σ8 H9 s9→Same H8 H9 →
      (match (match fe ρd with | some (.ok y)=>(match jZ b tst fe (iy ns.length cs ρ) (ds.drop (i + 1)) with | some ys=>a_ (y :: ys) | none=>ck) | _=>ck) with | some zs=>es ++ zs=ys | none=>False) →
      v_ (F_ X.prog X.w) X.A (eval elt (RK scope (Lh (D + 1 + 1) scope.names (j7 scope.names X.env [])) (D + 1) X.env)) (fun xw s₄ =>
       v_ (F_ X.prog X.w) X.A (call (.builtin "list.append") [.ref D,xw]) (fun _ s₅=>∃ k,k < ds.length - i∧D6 X ns cs scope D s2 H2 fp tn ds ys b tst fe ρ k s₅) (P6 (F_ X.prog X.w) X.A (RK scope (Lh (D + 1 + 1) scope.names (j7 scope.names X.env [])) (D + 1) X.env) fun e s'=>RR (.ref D) (D + 1) (.error e) s') s₄) (P6 (F_ X.prog X.w) X.A (RK scope (Lh (D + 1 + 1) scope.names (j7 scope.names X.env [])) (D + 1) X.env) fun e s'=>RR (.ref D) (D + 1) (.error e) s') s9:=fun {H9 s9} I9 e9 hz9=>by
      match hfe:fe ρd,hz9 with
      | none,hz9=>exact hz9.elim
      | some (.exc c),hz9=>exact hz9.elim
      | some (.ok y),hz9 =>
       refine Lf ((helt (D + 1) s2 H2 fp ⟨_,_,I2⟩).h _ s9 σ8 H9 (fun v H10=>Same H9 H10∧Rep X.K H10 y v) I9 ⟨ρd,E8.mono e9,by rw [hfe]; exact fun v H10 e10 r10=>⟨e10,r10⟩⟩) (fun w s10 ⟨yv,H10,I10,rw10,e10,r10⟩=>?_) fun _ _ z=>Lw z;obtain ⟨t10,fr10,D10,l10⟩:=fin I10;refine qX l10 (by omega) fun h11 l11 k11=>?_;have I10':Inv (aq X (ns ++ cs.map (·.1)) scope (D + 1) s2 H2 fp) (dP fp s7.heap) σ8 H10 s10:=I10.pins_of fun p hp=>I10.pin p (m_ _ (m_ _ hp));have I11:Inv (aq X (ns ++ cs.map (·.1)) scope (D + 1) s2 H2 fp) (dP fp s7.heap) σ8 H10 { s10 with heap:=h11 }:=I10'.turned (t':=s10.toks) k11 D10 DL (.inr (Oj hD)) Dcell fun p hp z=>by
        have hp':p∈dP fp s7.heap:=by simpa [aq] using hp
        exact fpD p.1 (ki hp').1 z
       have e80:=e9.trans e10;refine ⟨ds.length - (i + 1),by omega,i + 1,σ8,H10,es ++ [y],vs ++ [yv],its ++ [w],rfl,hlt,I11.pins_of fun p hp=>absurd hp (by simp),back (E8.mono e80),T.keep _ _ _ t10 fun b hb o e=>k11 b o (fpD b hb) e,fr10,D10,l11,v5.append (.cons rw10 .nil),(Reps.mono (e58.trans e80) _ _ r5).append ⟨yv,[],rfl,r10,rfl⟩,by rw [KS,Qt]; omega,e5.trans (e58.trans e80),?_⟩
       match hm2:jZ b tst fe (iy ns.length cs ρ) (ds.drop (i + 1)),hz9 with
       | none,hz9=>exact hz9.elim
       | some zs,hz9=>dsimp only at hz9 ⊢; rw [MJ]; exact hz9
     have hif:=hifs (D + 1) s2 H2 fp ⟨_,_,I2⟩;cases tst with
     | none =>
      cases (show ifs=[] from hif);exact wpAny_tests_nil (by rw [if_pos rfl]; exact took I8 (.refl H8) hz)
     | some t =>
      obtain ⟨c,rfl,hct⟩:=hif
      match htt:t ρd,hz with
      | none,hz=>simp only [htt] at hz
      | some (.exc c),hz=>simp only [htt] at hz
      | some (.ok d_),hz =>
       simp only [htt] at hz;refine wpAny_tests_one (Lf (hct.h _ s8 σ8 H8 (fun b H9=>b=d_∧Same H8 H9) I8 ⟨_,E8,by rw [htt]; exact fun H9 e9=>⟨rfl,e9⟩⟩) (fun b s9 ⟨H9,I9,hb,e9⟩=>?_) fun _ _ z=>Lw z);subst hb;rw [if_pos rfl];exact took I9 e9 hz
      | some (.ok e_),hz =>
       simp only [htt] at hz;refine wpAny_tests_one (Lf (hct.h _ s8 σ8 H8 (fun b H9=>b=e_∧Same H8 H9) I8 ⟨_,E8,by rw [htt]; exact fun H9 e9=>⟨rfl,e9⟩⟩) (fun b s9 ⟨H9,I9,hb,e9⟩=>?_) fun _ _ z=>Lw z);subst hb;rw [if_neg xy];obtain ⟨t9,fr9,D9,l9⟩:=fin I9;exact ⟨ds.length - (i + 1),by omega,i + 1,σ8,H9,es,vs,its,rfl,hlt,I9.pins_of fun p hp=>absurd hp (by simp),back (E8.mono e9),t9,fr9,D9,l9,v5,Reps.mono (e58.trans e9) _ _ r5,by omega,e5.trans (e58.trans e9),hz⟩
  · have hi':i=ds.length:=by omega
    subst hi';rw [OB] at hz;have hz':es ++ []=ys:=hz;rw [LD] at hz';subst hz';refine thn (T.done (aq X (ns ++ cs.map (·.1)) scope (D + 1) s2 H2 fp) rfl rfl rfl hc ds.length (dP [D] s5.heap) s5 σ5 H5 _ I5p fp5' t5 (wk.stop H5 e5)) fun r s6 ⟨hr,I6⟩=>?_;subst hr;have l6:LAt s6.heap D its:=by
     obtain ⟨n,q⟩:=l5;exact ⟨n,(I6.pin (D,_) (m_ _ (dj (by simp) q))).1⟩
    obtain ⟨m6,n6,_⟩:=I6.loc;have C6:H5 (D + 1)=ck:=I6.free;have new:ObjOk X.prog X.w (upd H5 D (.lst vs)) s6.heap D (.lst vs):=by
     obtain ⟨n,q⟩:=l6;exact ⟨by rw [lenR]; exact cA hyl,its,n,v5,q⟩
    have u6:Un (L2.frs X.stack) fp H2 H5 s2.heap s6.heap:=I6.base;have nD:∀ b o,s2.heap.get? b=a_ o→b≠D:=fun b o e=>by
     have hb:b < D:=by rw [← hD]; exact w_ e
     exact zm hb
    have u7:Un (L2.frs X.stack) fp H2 (upd H5 D (.lst vs)) s2.heap s6.heap:=⟨u6.keep,u6.slot,fun b o e n hx=>by rw [ay (nD b o e)]; exact u6.free b o e n hx,u6.there,fun b xs q=>by
     have q':=u6.tups b xs q;rw [ay (ar q' D5)]; exact q',fun b o u q=>by
     have q':=u6.frzs b o u q;rw [ay (ar q' D5)]; exact q',fun b ps q=>by
     obtain ⟨more,q'⟩:=u6.tbls b ps q;exact ⟨more,by rw [ay (ar q' D5)]; exact q'⟩⟩
    have I7:Inv X j' σ (upd H5 D (.lst vs)) s6:=I2.call' (s':=s6) (ch:=fp) I6.os u7 (HOk.add I6.hok D5 C6 (fun b u _ q=>q) new) I6.bare fun b hb=>⟨(f2 b hb).2.2.2.1,(f2 b hb).2.1,(f2 b hb).2.2.2.2.1,(f2 b hb).2.2.2.2.2⟩;exact hRR D (D + 1) s6 H5 vs m6 I7 D5 e5 r5 n6 C6 (Oh Jg) (by rw [hD]; exact Nz D)
 exact codeAny_compStart_list (loop _ rfl) (T.self _ 0 _ _ _ (T.keep _ _ _ st2 fun b hb o e=>old b o e) (loop _ rfl))
theorem wX {X:Cx} {tg elt iter:H_} {ifs:List H_} {scope:L6} {pos:Pos} {src:FnA} {tst:Option FnB} {fe:FnE} {b:Dv→Ev→Option Ev} (osc:L6) (N ns:List Str) (js:List Nat) (cs:List (Str×Nat)) (hosc:X.env.scope=osc) (hN:X.N=N) (ok:jG osc scope cs N) (hcl:M3 scope X.env=pure (j7 scope.names X.env [])) (hc:X.calm=d_)
 (hback:∀ ρ d ρ',b d (iy ns.length cs ρ)=a_ ρ'→fgt js ρ'=iy ns.length cs ρ)
 (hi:FIG X tg iter src) (htg:∀ C s H fp,FG (aq X (ns ++ cs.map (·.1)) scope C s H fp) tg b) (helt:∀ C s H fp,(∃ j' σ,Inv X j' σ H s)→FE (aq X (ns ++ cs.map (·.1)) scope C s H fp) elt fe) (hifs:∀ C s H fp,(∃ j' σ,Inv X j' σ H s)→vL (aq X (ns ++ cs.map (·.1)) scope C s H fp) ifs tst)
 (hs:∀ x,K9 iter X.env x=pure x:=by intro _; kernel_rfl):FE X (.ListComp elt [⟨tg,iter,ifs,0⟩] scope pos) (cp ns.length cs src b tst fe):=by
 subst hosc hN;constructor;intro j' s σ H Q I h;obtain ⟨ρ,E,o⟩:=h
 match ho:cp ns.length cs src b tst fe ρ with
 | none=>rw [ho] at o; exact o.elim
 | some r =>
  rw [ho] at o;rw [eval_ListComp];have key:OutG X H (src ρ) fun J H'=>∃ ds ys,Same H H'∧WkG X.K J ds H'∧ds.length≤100000∧ys.length≤100000∧jZ b tst fe (iy ns.length cs ρ) ds=a_ ys∧(∀ v H'',Same H' H''→Rep X.K H'' (.lst ys) v→Q v H''):=by
   rcases Hh ho with ⟨c,e1,e2⟩ | ⟨ds,ys,e1,e2,l1,l2,e3⟩
   · subst e2; rw [e1]; exact o
   · subst e3; rw [e1]; exact fun J H' e wk=>⟨ds,ys,e,wk,l1,l2,e2,fun v H'' e2 r=>o v H'' (e.trans e2) r⟩
  refine Pu (use:=ck) rfl hs hcl ok.kind ok.names (thn (hi.h j' s σ H _ I ⟨ρ,E,key⟩) fun v s1 h1=>thn h1 fun itv s2 h2=>?_);obtain ⟨it,fp,tn,J,H2,e,I2,T,st2,f2,ds,ys,e12,wk,hdl,hyl,hm,hQ⟩:=h2;subst e;refine lv cs ok hc htg helt hifs hback (E.mono e12) I2 T st2 f2 wk hdl hyl hm (RR:=fun acc C=>compPost (F_ X.prog X.w) X.A X.xe ck (EP X j' σ Q) acc C) fun D C s6 H5 vs m6 I6 D5 e5 r5 n6 C6 CD hC=>?_;refine ⟨m6,n6,fun h7 sb7=>?_⟩;have Cn:(upd H5 D (.lst vs)) C=ck:=by rw [ay CD]; exact C6
  obtain ⟨q0,q1,q2,q3,q4,q5⟩:=I2.fpOk hC Cn;have I7:Inv X j' σ (upd H5 D (.lst vs)) { s6 with heap:=h7 }:=I6.turned (t':=s6.toks) (fun b o hb e=>sb7.extBut b o hb e) q0 q1 q3 q4 q5;exact ⟨.ref D,_,I7,rfl,hQ _ _ (e5.trans (aE D5 _)) ⟨D,vs,rfl,ax,Reps.mono (aE D5 _) _ _ r5⟩⟩
theorem qo {X:Cx} {tg elt iter:H_} {ifs:List H_} {scope:L6} {pos:Pos} {src:FnA} {tst:Option FnB} {fe:FnE} {b:Dv→Ev→Option Ev} (osc:L6) (N ns:List Str) (js:List Nat) (cs:List (Str×Nat)) (hosc:X.env.scope=osc) (hN:X.N=N) (ok:jG osc scope cs N) (hcl:M3 scope X.env=pure (j7 scope.names X.env [])) (hc:X.calm=d_)
 (hback:∀ ρ d ρ',b d (iy ns.length cs ρ)=a_ ρ'→fgt js ρ'=iy ns.length cs ρ)
 (hi:FIG X tg iter src) (htg:∀ C s H fp,FG (aq X (ns ++ cs.map (·.1)) scope C s H fp) tg b) (helt:∀ C s H fp,FE (aq X (ns ++ cs.map (·.1)) scope C s H fp) elt fe) (hifs:∀ C s H fp,vL (aq X (ns ++ cs.map (·.1)) scope C s H fp) ifs tst)
 (hs:∀ x,K9 iter X.env x=pure x:=by intro _; kernel_rfl):FE X (.ListComp elt [⟨tg,iter,ifs,0⟩] scope pos) (cp ns.length cs src b tst fe) :=
 wX osc N ns js cs hosc hN ok hcl hc hback hi htg (fun C s H fp _=>helt C s H fp) (fun C s H fp _=>hifs C s H fp) hs
theorem wY {X:Cx} {tg elt iter:H_} {ifs:List H_} {scope:L6} {pos:Pos} {src:FnA} {tst:Option FnB} {fe:FnE} {b:Dv→Ev→Option Ev} {y:Str} {py spos:Pos} (i:Nat) (hnd:X.N.Nodup) (hiy:X.N[i]?=a_ y) (hxy:Loc X.env.scope y) (hfy:X.fn y=d_∨X.env.scope.names.lookup y=a_ .local)
 (osc:L6) (N ns:List Str) (js:List Nat) (cs:List (Str×Nat)) (hosc:X.env.scope=osc) (hN:X.N=N) (ok:jG osc scope cs N) (hcl:M3 scope X.env=pure (j7 scope.names X.env [])) (hc:X.calm=d_)
 (hback:∀ ρ d ρ',b d (iy ns.length cs ρ)=a_ ρ'→fgt js ρ'=iy ns.length cs ρ)
 (hi:FIG X tg iter src) (htg:∀ C s H fp,FG (aq X (ns ++ cs.map (·.1)) scope C s H fp) tg b) (helt:∀ C s H fp,FE (aq X (ns ++ cs.map (·.1)) scope C s H fp) elt fe) (hifs:∀ C s H fp,vL (aq X (ns ++ cs.map (·.1)) scope C s H fp) ifs tst)
 (hsw:Mk (.ListComp elt [⟨tg,iter,ifs,0⟩] scope pos) (a_ (.Name y py)) spos.line X.env=pure d_:=by kernel_rfl)
 (hs:∀ x,K9 iter X.env x=pure x:=by intro _; kernel_rfl):PS X (.Assign [.Name y py] (.ListComp elt [⟨tg,iter,ifs,0⟩] scope pos) spos) (tC X i (cp ns.length cs src b tst fe)):=by
 subst hosc hN;intro j' s σ H D0 I h;obtain ⟨ρ,E,o⟩:=h
 match ho:cp ns.length cs src b tst fe ρ with
 | none=>rw [ho] at o; exact o.elim
 | some r =>
  rw [ho] at o;have key:OutG X H (src ρ) fun J H'=>∃ ds ys,Same H H'∧WkG X.K J ds H'∧ds.length≤100000∧ys.length≤100000∧jZ b tst fe (iy ns.length cs ρ) ds=a_ ys∧(∀ H5 p vs,Same H' H5→H5 p=ck→Reps X.K H5 ys vs→D0.nx (σ.set i (a_ (.ref p))) (upd H5 p (.lst vs))):=by
   rcases Hh ho with ⟨c,e1,e2⟩ | ⟨ds,ys,e1,e2,l1,l2,e3⟩
   · subst e2; rw [e1]; exact o
   · subst e3; rw [e1]; obtain ⟨ys',ey,o⟩:=o; cases ey; exact fun J H' e wk=>⟨ds,ys,e,wk,l1,l2,e2,fun H5 p vs e3 hp r=>o H5 p vs (e.trans e3) hp r⟩
  rw [exec_Assign_Name_used _ _ _ _ hsw];refine c_ (Ri (c_ ?_));show v_ _ X.A (do let _ ← comprehension (.ListComp elt [⟨tg,iter,ifs,0⟩] scope pos) scope X.env _ (newList []) e_ (eval iter X.env) (a_ (M4 (.Name y py) X.env))) _ _ s
  refine c_ (Lf (Pu (use:=a_ (M4 (.Name y py) X.env)) (Q:=fun _ s'=>SP X j' D0 .next s') rfl hs hcl ok.kind ok.names
   (thn (hi.h j' s σ H _ I ⟨ρ,E,key⟩) fun v s1 h1=>thn h1 fun itv s2 h2=>?_)) (fun _ s' hq=>j_ (j_ hq)) fun _ _ e=>e)
  obtain ⟨it,fp,tn,J,H2,e,I2,T,st2,f2,ds,ys,e12,wk,hdl,hyl,hm,hQ⟩:=h2;subst e;refine lv cs ok hc htg (fun C s H fp _=>helt C s H fp) (fun C s H fp _=>hifs C s H fp) hback (E.mono e12) I2 T st2 f2 wk hdl hyl hm (RR:=fun acc C=>compPost (F_ X.prog X.w) X.A X.xe (a_ (M4 (.Name y py) X.env)) (fun _ s'=>SP X j' D0 .next s') acc C) fun D C s6 H5 vs m6 I6 D5 e5 r5 n6 C6 CD hC=>?_;have Cn:(upd H5 D (.lst vs)) C=ck:=by rw [ay CD]; exact C6
  have FC:=I2.fpOk hC Cn;obtain ⟨oC,es,ep,hoC,hdC,rC⟩:=id n6;have I6p:=I6.pinned (fp:=[C]) (fun b hb=>by
   have e:b=C:=by simpa using hb
   subst e; exact FC) (fun b hb=>by
   have e:b=C:=by simpa using hb
   subst e;exact ⟨oC,hoC,fun v z=>by rw [hdC] at z; cases z⟩)
  refine thn (iE hnd hiy hxy hfy _ s6 σ _ (.ref D) (.ref D) (fun σ' H'=>σ'=σ.set i (a_ (.ref D))∧H'=upd H5 D (.lst vs)) I6p rfl ⟨rfl,rfl⟩) fun _ s8 ⟨σ8,H8,I8,e1,e2⟩=>?_;subst e1 e2;have hC8:=(I8.pin (C,oC) (m_ _ (m_ _ (dj (by simp) hoC)))).1;refine ⟨m6,⟨oC,es,ep,hC8,hdC,rC⟩,fun h9 sb9=>?_⟩;have I8':Inv X j' (σ.set i (a_ (.ref D))) (upd H5 D (.lst vs)) s8:=I8.unpinned;obtain ⟨q0,q1,q2,q3,q4,q5⟩:=FC;have I9:Inv X j' (σ.set i (a_ (.ref D))) (upd H5 D (.lst vs)) { s8 with heap:=h9 }:=I8'.turned (t':=s8.toks) (fun b o hb e=>sb9.extBut b o hb e) q0 q1 q3 q4 q5;exact ⟨_,_,I9,hQ H5 D vs e5 D5 r5⟩
abbrev bX:=List (Str×Nat×List Str×(List Dv→Option (Rs Dv)))
theorem jd {β:Type} {x y:Str} {e e':β} {T:List (Str×β)} (h:((y,e) :: T).lookup x=a_ e'):(x=y∧e'=e)∨T.lookup x=a_ e':=by
 rw [Li] at h;split at h
 · rename_i hb;exact .inl ⟨Q1 hb,by cases h; rfl⟩
 · exact .inr h
section
variable {P:rl} {w:C_} {K:f_} {mg:Str→Option g_} {base:KO} {T:bX} {y:Str} {k:Nat} {ps:List Str} {F:List Dv→Option (Rs Dv)}
structure HA (P:rl) (w:C_) (K:f_) (mg:Str→Option g_) (base:KO) (T:bX):Prop where
 h:∀ x e,T.lookup x=a_ e→Has P w K mg base x e.1 e.2.1 e.2.2
structure HAE (P:rl) (w:C_) (K:f_) (mg:Str→Option g_) (base:KO) (T:bX):Prop where
 h:∀ x e,T.lookup x=a_ e→Dr P w K mg base x e.1 e.2.1 e.2.2
theorem D7:HA P w K mg base []:=⟨fun _ _ h=>by cases h⟩
theorem Aj:HAE P w K mg base []:=⟨fun _ _ h=>by cases h⟩
theorem az (h:Has P w K mg base y k ps F) (t:HA P w K mg base T):HA P w K mg base ((y,k,ps,F) :: T):=⟨fun x e q=>by
 rcases jd q with ⟨rfl,rfl⟩ | q
 · exact h
 · exact t.h x e q⟩
theorem bz (h:Dr P w K mg base y k ps F) (t:HAE P w K mg base T):HAE P w K mg base ((y,k,ps,F) :: T):=⟨fun x e q=>by
 rcases jd q with ⟨rfl,rfl⟩ | q
 · exact h
 · exact t.h x e q⟩
abbrev Bz:=List (Str×Option Dv)
def cN (s:String):Str×Option Dv:=(b_ s,ck)
def cI (s:String) (i:Int):Str×Option Dv:=(b_ s,a_ (.int i))
def cS (s z:String):Str×Option Dv:=(b_ s,a_ (.str (b_ z)))
def Ke (mg:Str→Option g_) (x:Str):Option Dv→Prop
 | none=>mg x=ck
 | some (.int i)=>∃ t,mg x=a_ (.int i t)
 | some (.str z)=>∃ t,mg x=a_ (.str z t)
 | _=>False
structure MA (mg:Str→Option g_) (C:Bz):Prop where
 h:∀ x o,C.lookup x=a_ o→Ke mg x o
theorem MA.no {C:Bz} {x:Str} (h:MA mg C) (e:C.lookup x=a_ ck):mg x=ck:=h.h x ck e
def HH (K:f_) (q:Str×Option Dv):Bool:=match q.2,L9 K z_ q.1 with
 | none,a_ ck=>d_
 | some (.int i),a_ (a_ (.int j _))=>i == j
 | some (.str z),a_ (a_ (.str y _))=>z == y
 | _,_=>e_
theorem D8 {h:KO} (X:K.In h) (G:h.Ns z_ mg):∀ (C:Bz),C.all (HH K)=d_→MA mg C
 | [],_=>⟨fun x o q=>by cases q⟩
 | (y,o) :: C,e=>⟨fun x o' q=>by
  rw [Nh,pi] at e;rcases jd q with ⟨rfl,rfl⟩ | q
  · have h1:=e.1;unfold HH at h1;dsimp only at h1;split at h1
    · rename_i e1;exact PySem.W.mg_none_of X G e1
    · rename_i i j t e1;have hij:i=j:=Q1 h1;subst hij;exact ⟨t,Nf X G e1⟩
    · rename_i z y t e1;have hij:z=y:=Q1 h1;subst hij;exact ⟨t,Nf X G e1⟩
    · cases h1
  · exact (D8 X G C e.2).h x o' q⟩
end
section
variable {X:Cx} {T:bX} {C:Bz} {k' n:Nat} {x:Str} {p pos:Pos} {e:H_} {es:List H_} {F:List Dv→Option (Rs Dv)} {g:FnA}
theorem wZ (hT:HA X.prog X.w X.K X.mg X.base T) (hr:Room k' X.A) (hF:(T.lookup x).map (fun q=>q.2.2)=a_ F) (ha:FA X (e :: es) g) (hk:((T.lookup x).all fun q=>SE q.1 k' && NI n q.2.1.length)=d_:=by kernel_rfl) (hg:X.env.kindOf x=a_ .globalImplicit:=by kernel_rfl) (hdb:(x == ("__debug__":Str))=e_:=by kernel_rfl)
 (he:k_ (e :: es) X.env=(e_,eval e X.env) :: k_ es X.env:=by kernel_rfl) (hpl:(Lc pos (k_ es X.env)).any (·.1)=e_:=by kernel_rfl) :
 FE X (.Call (.Name x p) (e :: es) [] pos) (ag F n g):=by
 cases hq:T.lookup x with
 | none=>rw [hq] at hF; cases hF
 | some q =>
  rw [hq] at hF hk;cases hF;rw [OQ,pi] at hk;exact wg q.1 q.2.1 q.2.2 (hT.h x q hq) hr (Mu hk.1) hg ha (Lb hk.2) hdb he hpl
theorem uM (hT:HAE X.prog X.w X.K X.mg X.base T) (hr:Room k' X.A) (hF:(T.lookup x).map (fun q=>q.2.2)=a_ F) (hex:X.ex=[]) (ha:FA X (e :: es) g) (hk:((T.lookup x).all fun q=>SE q.1 k' && NI n q.2.1.length)=d_:=by kernel_rfl) (hg:X.env.kindOf x=a_ .globalImplicit:=by kernel_rfl) (hdb:(x == ("__debug__":Str))=e_:=by kernel_rfl)
 (he:k_ (e :: es) X.env=(e_,eval e X.env) :: k_ es X.env:=by kernel_rfl) (hpl:(Lc pos (k_ es X.env)).any (·.1)=e_:=by kernel_rfl) :
 FE X (.Call (.Name x p) (e :: es) [] pos) (am F n g):=by
 cases hq:T.lookup x with
 | none=>rw [hq] at hF; cases hF
 | some q =>
  rw [hq] at hF hk;cases hF;rw [OQ,pi] at hk;exact wD q.1 q.2.1 q.2.2 (hT.h x q hq) hr (Mu hk.1) hex hg ha (Lb hk.2) hdb he hpl
theorem HI {i:Int} (hM:MA X.mg C) (hl:C.lookup x=a_ (a_ (.int i))) (hg:X.env.kindOf x=a_ .globalImplicit:=by kernel_rfl) (hd:(x == ("__debug__":Str))=e_:=by kernel_rfl):FE X (.Name x pos) (fC (.int i)) :=
 let ⟨_,h⟩:=hM.h x _ hl
 ze hg h hd
theorem HJ {z:Str} (hM:MA X.mg C) (hl:C.lookup x=a_ (a_ (.str z))) (hg:X.env.kindOf x=a_ .globalImplicit:=by kernel_rfl) (hd:(x == ("__debug__":Str))=e_:=by kernel_rfl):FE X (.Name x pos) (fC (.str z)) :=
 let ⟨_,h⟩:=hM.h x _ hl
 zf hg h hd
def ndB:List Str→Bool
 | []=>d_
 | x :: r=>!(r.contains x) && ndB r
theorem j3:∀ {l:List Str},ndB l=d_→l.Nodup
 | [],_=>List.nodup_nil
 | x :: r,h=>by
  unfold ndB at h;rw [pi] at h;refine Nd.2 ⟨fun hx=>?_,j3 h.2⟩;have h1:=h.1;rw [List.contains_iff_mem.2 hx] at h1;cases h1
def ky (sc:L6) (x:Str):Bool:=match sc.names.lookup x with
 | some .local=>d_
 | some .cell=>d_
 | _=>e_
theorem gO {sc:L6} {x:Str} (h:ky sc x=d_):Loc sc x:=by
 unfold ky at h;split at h
 · exact .inl ‹_›
 · exact .inr ‹_›
 · cases h
def BA (osc scope:L6) (cs:List (Str×Nat)) (N:List Str):Bool :=
 u_ (scope.kind=.function) && u_ (∀ y∈scope.names,y.2=.cell→scope.names.lookup y.1=a_ .cell) && u_ (∀ y∈scope.names,y.2=.local→scope.names.lookup y.1=a_ .local) && u_ (∀ y∈scope.names,y.2=.free→osc.names.lookup y.1=a_ .cell∨osc.names.lookup y.1=a_ .free) && u_ (∀ c∈cs,N[c.2]?=a_ c.1∧scope.names.lookup c.1=a_ .free)
theorem uO {osc scope:L6} {cs:List (Str×Nat)} {N:List Str} (h:BA osc scope cs N=d_):jG osc scope cs N:=by
 unfold BA at h;simp only [pi,decide_eq_true_eq] at h;exact ⟨h.1.1.1.1,h.1.1.1.2,h.1.1.2,h.1.2,h.2⟩
theorem lkc {env:Env}:∀ {names:List (Str×MU)} {x:Str},names.lookup x=a_ .cell →
 (names.map fun (n,k)=>if (k == LW && env.scope.kind == .function && env.kindOf n == a_ .cell) then (n,Ma) else (n,k)).lookup x=a_ .cell
 | [],_,h=>by simp at h
 | (n,k) :: r,x,h=>by
  rw [Li] at h;rw [K0];cases hx:x == n with
  | true =>
   rw [hx] at h;cases h;simp [Li,hx]
  | false =>
   rw [hx] at h;have ih:=lkc (env:=env) h;dsimp only;split
   · rw [Li,hx]; exact ih
   · rw [Li,hx]; exact ih
theorem fgL {X:Cx} {N:List Str} {scope:L6} {C:l_} {s:h_} {H:Hp} {fp:List l_} {x:Str} (h:ky scope x=d_):Loc (aq X N scope C s H fp).env.scope x∧((aq X N scope C s H fp).fn x=d_∨(aq X N scope C s H fp).env.scope.names.lookup x=a_ .local):=by
 rcases gO h with h | h
 · exact ⟨.inl (Qz h),.inr (Qz h)⟩
 · exact ⟨.inr (lkc h),.inl (by show (scope.names.lookup x == a_ .cell)=d_; rw [h]; rfl)⟩
end
section
variable {X:Cx} {elt iter:H_} {ifs:List H_} {scope:L6} {pos px py pt spos:Pos} {src:FnA} {tst:Option FnB} {fe:FnE} {cs:List (Str×Nat)} {x y z:Str} {i:Nat} {k:Nat}
theorem fgA {N:List Str} (C:l_) (s:h_) (H:Hp) (fp:List l_) (hnd:ndB N=d_) (hx:N[0]?=a_ x) (hl:ky scope x=d_):FG (aq X N scope C s H fp) (.Name x px) (gN 0) :=
 zF 0 (j3 hnd) hx (fgL hl).1 (fgL hl).2
theorem HK (hi:FIG X (.Name x px) iter src) (helt:∀ C s H fp,FE (aq X (x :: cs.map (·.1)) scope C s H fp) elt fe) (hifs:∀ C s H fp,vL (aq X (x :: cs.map (·.1)) scope C s H fp) ifs tst)
 (hok:BA X.env.scope scope cs X.N=d_:=by kernel_rfl) (hcl:M3 scope X.env=pure (j7 scope.names X.env []):=by kernel_rfl) (hc:X.calm=d_:=by kernel_rfl) (hnd:ndB (x :: cs.map (·.1))=d_:=by kernel_rfl) (hl:ky scope x=d_:=by kernel_rfl)
 (hs:∀ x,K9 iter X.env x=pure x:=by intro _; kernel_rfl):FE X (.ListComp elt [⟨.Name x px,iter,ifs,0⟩] scope pos) (cF cs src tst fe) :=
 (Ad (cs:=cs) (src:=src) (tst:=tst) (fe:=fe)) ▸ qo X.env.scope X.N [x] [0] cs rfl rfl (uO hok) hcl hc (Di _) hi (fun C s H fp=>fgA C s H fp hnd rfl hl) helt hifs hs
theorem HL (hi:FIG X (.Name x px) iter src) (helt:∀ C s H fp,FE (aq X (x :: cs.map (·.1)) scope C s H fp) elt fe) (hifs:∀ C s H fp,vL (aq X (x :: cs.map (·.1)) scope C s H fp) ifs tst)
 (hN:ndB X.N=d_) (hiy:X.N[i]?=a_ y) (hxy:ky X.env.scope y=d_) (hfy:X.fn y=d_)
 (hok:BA X.env.scope scope cs X.N=d_) (hcl:M3 scope X.env=pure (j7 scope.names X.env [])) (hc:X.calm=d_) (hnd:ndB (x :: cs.map (·.1))=d_) (hl:ky scope x=d_)
 (hsw:Mk (.ListComp elt [⟨.Name x px,iter,ifs,0⟩] scope pos) (a_ (.Name y py)) spos.line X.env=pure d_)
 (hs:∀ x,K9 iter X.env x=pure x):PS X (.Assign [.Name y py] (.ListComp elt [⟨.Name x px,iter,ifs,0⟩] scope pos) spos) (tC X i (cp 1 cs src (gN 0) tst fe)) :=
 wY i (j3 hN) hiy (gO hxy) (.inl hfy) X.env.scope X.N [x] [0] cs rfl rfl (uO hok) hcl hc (Di _) hi (fun C s H fp=>fgA C s H fp hnd rfl hl) helt hifs hsw hs
theorem HM (hi:FIG X (.Name x px) iter src) (helt:∀ C s H fp,FE (aq X (x :: cs.map (·.1)) scope C s H fp) elt fe) (hifs:∀ C s H fp,vL (aq X (x :: cs.map (·.1)) scope C s H fp) ifs tst)
 (hsw:Mk (.ListComp elt [⟨.Name x px,iter,ifs,0⟩] scope pos) (a_ (.Name y py)) spos.line X.env=pure d_)
 (hN:ndB X.N=d_:=by kernel_rfl) (hiy:X.N[i]?=a_ y:=by kernel_rfl) (hxy:ky X.env.scope y=d_:=by kernel_rfl) (hfy:X.fn y=d_:=by kernel_rfl)
 (hok:BA X.env.scope scope cs X.N=d_:=by kernel_rfl) (hcl:M3 scope X.env=pure (j7 scope.names X.env []):=by kernel_rfl) (hc:X.calm=d_:=by kernel_rfl) (hnd:ndB (x :: cs.map (·.1))=d_:=by kernel_rfl) (hl:ky scope x=d_:=by kernel_rfl)
 (hs:∀ x,K9 iter X.env x=pure x:=by intro _; kernel_rfl):FS X (.Assign [.Name y py] (.ListComp elt [⟨.Name x px,iter,ifs,0⟩] scope pos) spos) (bc i (cp 1 cs src (gN 0) tst fe)) :=
 Ae (HL hi helt hifs hN hiy hxy hfy hok hcl hc hnd hl hsw hs) uw
theorem Kf {N:List Str} (C:l_) (s:h_) (H:Hp) (fp:List l_) (hc:X.calm=d_) (hnd:ndB N=d_) (hx:N[0]?=a_ x) (hz:N[1]?=a_ z) (hl:ky scope x=d_) (hl2:ky scope z=d_)
 (a1:(KU [.Name x px,.Name z py] (aq X N scope C s H fp).env).map (·.2)=M4 (.Name x px) (aq X N scope C s H fp).env :: (KU [.Name z py] (aq X N scope C s H fp).env).map (·.2)) (a2:(KU [.Name z py] (aq X N scope C s H fp).env).map (·.2)=M4 (.Name z py) (aq X N scope C s H fp).env :: (KU [] (aq X N scope C s H fp).env).map (·.2))
 (a3:(KU [.Name x px,.Name z py] (aq X N scope C s H fp).env).length=2) (a4:(KU [.Name x px,.Name z py] (aq X N scope C s H fp).env).findIdx? (·.1)=ck):FG (aq X N scope C s H fp) (.Tuple [.Name x px,.Name z py] k pt) (gP 0 1) :=
 tJ 0 1 hc (j3 hnd) hx (fgL hl).1 (fgL hl).2 hz (fgL hl2).1 (fgL hl2).2 a1 a2 a3 a4
theorem HN (hi:FIG X (.Tuple [.Name x px,.Name z py] k pt) iter src) (helt:∀ C s H fp,FE (aq X (x :: z :: cs.map (·.1)) scope C s H fp) elt fe) (hifs:∀ C s H fp,vL (aq X (x :: z :: cs.map (·.1)) scope C s H fp) ifs tst)
 (hok:BA X.env.scope scope cs X.N=d_:=by kernel_rfl) (hcl:M3 scope X.env=pure (j7 scope.names X.env []):=by kernel_rfl) (hc:X.calm=d_:=by kernel_rfl) (hnd:ndB (x :: z :: cs.map (·.1))=d_:=by kernel_rfl) (hl:ky scope x=d_:=by kernel_rfl) (hl2:ky scope z=d_:=by kernel_rfl)
 (hs:∀ x,K9 iter X.env x=pure x:=by intro _; kernel_rfl):FE X (.ListComp elt [⟨.Tuple [.Name x px,.Name z py] k pt,iter,ifs,0⟩] scope pos) (cp 2 cs src (gP 0 1) tst fe) :=
 qo X.env.scope X.N [x,z] [0,1] cs rfl rfl (uO hok) hcl hc (Hi _) hi (fun C s H fp=>Kf C s H fp hc hnd rfl rfl hl hl2 rfl rfl rfl rfl) helt hifs hs
end
section
variable {X:Cx} {N:List Str} {scope:L6} {c:H_} {t:FnB}
theorem w4:∀ C s H fp,vL (aq X N scope C s H fp) [] ck:=fun _ _ _ _=>rfl
theorem w5 (h:∀ C s H fp,FT (aq X N scope C s H fp) c t):∀ C s H fp,vL (aq X N scope C s H fp) [c] (a_ t):=fun C s H fp=>⟨_,rfl,h C s H fp⟩
end
section
variable {X:Cx} {a b c e st ix tg iter:H_} {fa fb fs fi:FnE} {pos p2 pos' py apos cpos pt p1 lp ps:Pos} {i j k kk:Nat} {js:List Nat} {x y:Str} {src g:FnA} {fS:FnS} {fO:iX} {body sts:List L3} {es:List H_} {is:List Nat}
theorem Ea (ha:FE X a fa) (hb:FE X b fb) (hs:∀ o i,Sm b e_ o i=operate [o,i] (P7 o i):=by intro _ _; kernel_rfl):FE X (.Subscript a b pos) (f2 ixD fa fb):=G8 ha hb hs
theorem Al (he:FE X e fa) (hN:ndB X.N=d_:=by kernel_rfl) (hi:X.N[i]?=a_ x:=by kernel_rfl) (hx:ky X.env.scope x=d_:=by kernel_rfl) (hf:X.fn x=d_:=by kernel_rfl) (hs:Mk e (a_ (.Name x pos')) pos.line X.env=pure e_:=by kernel_rfl):FS X (.Assign [.Name x pos'] e pos) (bc i fa) :=
 Cz i (j3 hN) hi (gO hx) he hs (.inl hf)
theorem Am (he:FE X e fa) (hex:X.ex=[]:=by kernel_rfl) (hij:NI i j=e_:=by kernel_rfl) (hN:ndB X.N=d_:=by kernel_rfl) (hi:X.N[j]?=a_ x:=by kernel_rfl) (hx:ky X.env.scope x=d_:=by kernel_rfl) (hf:X.fn x=d_:=by kernel_rfl) (hs:Mk e (a_ (.Name x pos')) pos.line X.env=pure e_:=by kernel_rfl):FO1 X i (.Assign [.Name x pos'] e pos) (fz j fa) :=
 DE hex j (Mi hij) (j3 hN) hi (gO hx) he hs (.inl hf)
theorem w6 (hg:FA X es g) (hr:FOs X i sts fO) (hN:ndB X.N=d_:=by kernel_rfl) (hi:X.N[i]?=a_ x:=by kernel_rfl) (hx:ky X.env.scope x=d_:=by kernel_rfl) (hf:X.fn x=d_:=by kernel_rfl) (hs:Mk (.List es lp) (a_ (.Name x pos')) pos.line X.env=pure e_:=by kernel_rfl):FSs X (.Assign [.Name x pos'] (.List es lp) pos :: sts) (p9 i g fO) :=
 zU (j3 hN) hi (gO hx) hg hr hs (.inl hf)
theorem An (hp:O3 (F_ X.prog X.w) X.A X.env X.xe) (hi:FI X (.Name x py) iter src) (hb:FSs X body fS) (hc:X.calm=d_:=by kernel_rfl) (hN:ndB X.N=d_:=by kernel_rfl) (hx:X.N[i]?=a_ x:=by kernel_rfl) (hl:ky X.env.scope x=d_:=by kernel_rfl) (hf:X.fn x=d_:=by kernel_rfl)
 (hs:∀ x,K9 iter X.env x=pure x:=by intro _; kernel_rfl):FS X (.For (.Name x py) iter body [] pos) (CH i js src fS) :=
 CI i js hp hc hi (iE (j3 hN) hx (gO hl) (.inl hf)) hb hs
theorem Ao (hp:O3 (F_ X.prog X.w) X.A X.env X.xe) (hi:FI X (.Name x py) iter src) (hb:FOs X i body fO) (hex:X.ex=[]:=by kernel_rfl) (hij:NI i j=e_:=by kernel_rfl) (hc:X.calm=d_:=by kernel_rfl) (hN:ndB X.N=d_:=by kernel_rfl) (hx:X.N[j]?=a_ x:=by kernel_rfl) (hl:ky X.env.scope x=d_:=by kernel_rfl) (hf:X.fn x=d_:=by kernel_rfl)
 (hs:∀ x,K9 iter X.env x=pure x:=by intro _; kernel_rfl):FO1 X i (.For (.Name x py) iter body [] pos) (qc j js src fO) :=
 DI hex j js (Mi hij) hp hc hi (iE (j3 hN) hx (gO hl) (.inl hf)) hb hs
theorem w8 (hp:O3 (F_ X.prog X.w) X.A X.env X.xe) (hi:FIG X (.Tuple [.Name x py,.Name y p2] kk pt) iter src) (hb:FSs X body fS) (hc:X.calm=d_:=by kernel_rfl) (hN:ndB X.N=d_:=by kernel_rfl) (hx:X.N[i]?=a_ x:=by kernel_rfl) (hl:ky X.env.scope x=d_:=by kernel_rfl) (hf:X.fn x=d_:=by kernel_rfl) (hy:X.N[j]?=a_ y:=by kernel_rfl) (hl2:ky X.env.scope y=d_:=by kernel_rfl) (hf2:X.fn y=d_:=by kernel_rfl)
 (a1:(KU [.Name x py,.Name y p2] X.env).map (·.2)=M4 (.Name x py) X.env :: (KU [.Name y p2] X.env).map (·.2):=by kernel_rfl) (a2:(KU [.Name y p2] X.env).map (·.2)=M4 (.Name y p2) X.env :: (KU [] X.env).map (·.2):=by kernel_rfl)
 (a3:(KU [.Name x py,.Name y p2] X.env).length=2:=by kernel_rfl) (a4:(KU [.Name x py,.Name y p2] X.env).findIdx? (·.1)=ck:=by kernel_rfl)
 (hs:∀ x,K9 iter X.env x=pure x:=by intro _; kernel_rfl):FS X (.For (.Tuple [.Name x py,.Name y p2] kk pt) iter body [] pos) (q9 (gP i j) js src fS) :=
 z7 js hp hc hi (tJ i j hc (j3 hN) hx (gO hl) (.inl hf) hy (gO hl2) (.inl hf2) a1 a2 a3 a4) hb hs
theorem w9 (h:PGs X es (zJ is)) (hN:ndB X.N=d_:=by kernel_rfl) (hi:X.N[i]?=a_ x:=by kernel_rfl) (hx:ky X.env.scope x=d_:=by kernel_rfl) (hf:X.fn x=d_:=by kernel_rfl)
 (hs:(KU (.Name x p1 :: es) X.env).map (·.2)=M4 (.Name x p1) X.env :: (KU es X.env).map (·.2):=by kernel_rfl):PGs X (.Name x p1 :: es) (zJ (i :: is)) :=
 zK i (j3 hN) hi (gO hx) (.inl hf) h hs
theorem uP (hN:X.N[i]?=a_ x) (hv:ky X.env.scope x=d_) (hd:(x == ("__debug__":Str))=e_) (hcd:(x == ("__classdict__":Str))=e_):PE X (.Name x pos) (Bt i):=se hN ((gO hv).elim .inl fun h=>.inr (.inl h)) hd hcd
theorem Ap (he:FE X e fa) (hx:PE X (.Name x apos) (Bt i)) (hex:X.ex=[]:=by kernel_rfl)
 (hbase:NP (.Name x apos) "append" X.env (eval (.Name x apos) X.env)=eval (.Name x apos) X.env:=by kernel_rfl)
 (hfew:((Lc cpos (k_ [e] X.env)).all (fun x=>!x.1) && (Nv cpos (Mb [] X.env)).all (fun x=>x.1.isSome)
   && u_ ([e].length + ([]:List No).length + (if ([]:List No).isEmpty then 0 else 1) < 30))=d_:=by kernel_rfl)
 (hline:(pt.endLine == cpos.line)=d_:=by kernel_rfl) (hs:k_ [e] X.env=(e_,eval e X.env) :: k_ [] X.env:=by kernel_rfl) (hplain:(Lc cpos (k_ [] X.env)).any (·.1)=e_:=by kernel_rfl)
 (hsw:Mk (.Call (.Attribute (.Name x apos) "append" pt) [e] [] cpos) ck pos.line X.env=pure e_:=by kernel_rfl):FO1 X i (.Expr (.Call (.Attribute (.Name x apos) "append" pt) [e] [] cpos) pos) (rT fa):=DH hex hx he hbase hfew hline hs hplain hsw
end
section
variable {X:Cx} {o e:H_} {es:List H_} {fo:FnE} {ga:FnA} {apos cpos pos:Pos} {name:Str}
structure SmL (X:Cx) (o:H_) (name:Str) (e:H_) (es:List H_) (apos cpos:Pos):Prop where
 base:NP o name X.env (eval o X.env)=eval o X.env
 few:((Lc cpos (k_ (e :: es) X.env)).all (fun x=>!x.1) && (Nv cpos (Mb [] X.env)).all (fun x=>x.1.isSome)
  && u_ ((e :: es).length + ([]:List No).length + (if ([]:List No).isEmpty then 0 else 1) < 30))=d_
 line:(apos.endLine == cpos.line)=d_
 s:k_ (e :: es) X.env=(e_,eval e X.env) :: k_ es X.env
 plain:(Lc cpos (k_ es X.env)).any (·.1)=e_
theorem nu {id:String} {r:V→List V→Hp→VK→Prop} {g:Str→List Dv→Option (Rs Dv)} (slot:Slot "str" name id) (hty:typeOf (.builtin id)=pure (.type "method_descriptor")) (hm:MtR X id r)
 (hg:∀ i ds vs H Q,Reps X.K H ds vs→Out X H (g i ds) Q→r (.str i) vs H Q) (ho:FE X o fo) (ha:FA X (e :: es) ga) (h:SmL X o name e es apos cpos):FE X (.Call (.Attribute o name apos) (e :: es) [] cpos) (fM g fo ga) :=
 zy slot hty hm hg ho ha h.base h.few h.line h.s h.plain
end
section
open PySem.W
structure CA (K:f_) (mg:Str→Option g_) (cls:Nat→l_) (CJ:l_) (S:List Nat) (m:Nat):Prop where
 at_:∀ c∈S,mg (xnm c)=a_ (.ref (cls c))
 j:mg "JarError"=a_ (.ref CJ)
 xk:∀ c C,c < m→nsIn K z_ (xnm c)=a_ (a_ (.ref C))→excIn K C bmV "ValueError.__new__"=d_∧mroIn K C (.ref CJ)=a_ d_
theorem CA.c {K:f_} {mg:Str→Option g_} {cls:Nat→l_} {CJ:l_} {S:List Nat} {m c:Nat} {x:Str} (h:CA K mg cls CJ S m) (hc:c∈S) (hx:xnm c=x):mg x=a_ (.ref (cls c)):=by
 subst hx;exact h.at_ c hc
def nsB (K:f_) (x:Str) (a:l_):Bool:=match nsIn K z_ x with
 | some (a_ (.ref b))=>NI a b
 | _=>e_
theorem yC {K:f_} {x:Str} {a:l_} (h:nsB K x a=d_):nsIn K z_ x=a_ (a_ (.ref a)):=by
 unfold nsB at h;split at h
 · rename_i b e;rw [e,Lb h]
 · cases h
def caB (K:f_) (S:List Nat) (Cs:List l_) (CJ:l_) (m:Nat):Bool:=S.all (fun c=>nsB K (xnm c) (Cs.getD c 0)) && nsB K "JarError" CJ && Hz K S Cs CJ && (o_ m).all fun c=>S.contains c || (match nsIn K z_ (xnm c) with | some ck=>d_ | _=>e_)
theorem HP {K:f_} {mg:Str→Option g_} {h:KO} {S:List Nat} {Cs:List l_} {CJ:l_} {m:Nat} (X:K.In h) (G:h.Ns z_ mg) (e:caB K S Cs CJ m=d_):XAllS K S (fun c=>Cs.getD c 0) CJ∧CA K mg (fun c=>Cs.getD c 0) CJ S m:=by
 unfold caB at e;rw [pi,pi,pi] at e;obtain ⟨⟨⟨e1,e2⟩,e3⟩,e4⟩:=e;have hn:∀ c∈S,nsIn K z_ (xnm c)=a_ (a_ (.ref (Cs.getD c 0))):=fun c hc=>yC (LF.1 e1 c hc);have xa:=wO hn e3;refine ⟨xa,fun c hc=>mg_of X G (hn c hc),mg_of X G (yC e2),fun c C hc q=>?_⟩;have h1:=LF.1 e4 c (Lk.2 hc);rw [Sz] at h1;rcases h1 with h1 | h1
 · have h':c∈S:=by simpa using h1
   rw [xa.same h' q];exact ⟨(xa.at_ c h').2.1,(xa.at_ c h').2.2.2.1⟩
 · rw [q] at h1;cases h1
end
noncomputable abbrev nsM (K:f_) (x:Str):Option (Option g_):=L9 K z_ x
structure Af (K:f_) (x:Str) (st:L3) (f:l_):Prop where
 a:nsM K x=a_ (a_ (.ref f))
 F:∃ fd,Fun K x x st f fd
 k:LK K (.ref f)=d_
def fnB (N P:List Str) (sc:L6):Bool:=u_ (sc.kind=.function) && !sc.isCoroutine && !sc.isGenerator && ndB N && u_ (N.take P.length=P) && P.all (ky sc) && u_ (∀ y∈sc.names,y.2≠.free)
theorem Eb {N P:List Str} {sc:L6} (h:fnB N P sc=d_):eU N P sc:=by
 unfold fnB at h;simp only [pi,decide_eq_true_eq,L0] at h;exact ⟨h.1.1.1.1.1.1,h.1.1.1.1.1.2,h.1.1.1.1.2,j3 h.1.1.1.2,h.1.1.2,fun x hx=>gO (LF.1 h.1.2 x hx),h.2⟩
section
variable {P:rl} {w:C_} {K:f_} {mg:Str→Option g_} {base:KO} {h:KO} {k:Nat} {x:Str} {st:L3} {f:l_} {F:List Dv→Option (Rs Dv)}
def HQ (x:Str) (st:L3) (ps:List Str):Prop:=∀ (kV doc pm:g_) (an:Option l_) (cdv ct:g_) (us:List g_),us.length=ps.length→QF (M5 x x (jz st) (dc st) (aI st) .none kV doc pm an cdv ct) ⟨us,[]⟩=pure (ps.zip us)
theorem aO (XI:K.In h) (Gn:h.Ns z_ mg) (N ps:List Str) (fb:FnS) (A:Af K x st f) (hbd:HQ x st ps)
 (hb:∀ (cdv:g_) (A:E_) (outer:List Env) (s:h_) (H:Hp) (E:XK),Room k (A.deeper (M8 x (aI st) s.heap.objs.size f cdv))→FSs (lK CX0 P w K mg base N x (aI st) f cdv A outer s H E).nox (dc st) fb) (hF:F=bu N.length fb:=by kernel_rfl) (hs:fnB N ps (aI st)=d_:=by kernel_rfl):Has P w K mg base x (k + 1) ps F :=
 let ⟨_,Fn⟩:=A.F
 ⟨_,_,CK N ps fb hF rfl Fn (Eb hs) hb,Nf XI Gn A.a,A.k,Fn.binds hbd⟩
theorem cg (XI:K.In h) (Gn:h.Ns z_ mg) (N ps:List Str) (fb:FnS) (A:Af K x st f) (hbd:HQ x st ps)
 (hb:∀ (cdv:g_) (A:E_) (outer:List Env) (s:h_) (H:Hp) (E:XK),Room k (A.deeper (M8 x (aI st) s.heap.objs.size f cdv))→FSs (lK (CXE P w) P w K mg base N x (aI st) f cdv A outer s H E) (dc st) fb) (hF:F=eV N.length fb:=by kernel_rfl) (hs:fnB N ps (aI st)=d_:=by kernel_rfl):Dr P w K mg base x (k + 1) ps F :=
 let ⟨_,Fn⟩:=A.F
 ⟨_,_,Dt N ps fb hF rfl Fn (Eb hs) hb,Nf XI Gn A.a,A.k,Fn.binds hbd⟩
end
section
end
end FD
namespace TS
open PySem PySem.Spec PyProof.Rows L2 FD
def Kg (p q:g_) (e l:Bool):Prop:=∀ (prog:rl) (w:C_) (A:E_) (E:g_→h_→Prop) (s:h_),
 (∀ Q:Bool→h_→Prop,Q e s→v_ (F_ prog w) A (eqBool p q) Q E s)∧(∀ Q:g_→h_→Prop,Q (.bool l) s→v_ (F_ prog w) A (richCompare .Gt p q) Q E s)
section
open PySem.SeqAt
open PySem.AutoSeq1 (wpAny_loadPart')
open PySem.MeetsSeq PySem.MeetsSeq2 PySem.MeetsSeq3
end
end TS
namespace FD
open PySem PySem.Spec PyProof.Rows L2 TS
section
variable {X:Cx}
end
end FD
namespace TS
open PySem PyProof.Rows FD
section
variable {prog:rl} {w:C_} {A:E_} {E:g_→h_→Prop} {s:h_} {blt:Nat→Nat→Bool}
theorem HR {a kS:l_} {e1 c:Nat} {its vs:List g_} {ks:List Int} {P:Sa→h_→Prop} (hk:s.heap.get? kS=a_ (LA "list" its.toArray c)) (ha:s.heap.get? a=a_ (LA "list" #[] e1)) (hne:kS≠a) (hlen:its.length=vs.length) (h64:vs.length < 64) (O:Od blt)
 (hI:Qc its ks) (hB:∀ i j x y,ks[i]?=a_ x→ks[j]?=a_ y→blt i j=u_ (x < y))
 (h:∀ (p:Nat→Nat) (out:Array g_) (tk:Nat),out.size=vs.length→(∀ k,k < vs.length→out[k]?=vs[p k]?)→(o_ vs.length).map p=cm (fun i j=>!blt j i) (o_ vs.length)→(∀ k,k < vs.length→p k < vs.length) →
   P (.done (.ret .none)) { s with heap:=(s.heap.update kS (K7 fun _=>#[])).update a (K7 fun _=>out),toks:=tk }) :
 v_ (F_ prog w) A (ksk_end a e_ vs.toArray e1 (.ref kS) its.toArray) P E s:=by
 unfold ksk_end;simp only [p_,if_false];have hz:its.toArray.size≤sizeLine:=gM (by simp; omega);have pz:(its.toArray.zip vs.toArray).size=vs.length:=by simp [hlen]
 have pat:∀ k,k < vs.length→(its.toArray.zip vs.toArray)[k]?=a_ (its.getD k .none,vs.getD k .none):=fun k hk=>by
  have:k < its.length:=by omega
  have hz':k < (its.zip vs).length:=by simp; omega
  have e:(its.zip vs)[k]?=a_ (its[k],vs[k]):=by rw [B_ hz',List.getElem_zip]
  simp [hk,this,N2,e]
 have hsz:vs.toArray.size=vs.length:=by simp
 by_cases h2:vs.toArray.size < 2
 · rw [if_pos h2,if_pos h2];refine c_ (j_ ?_);rw [Sr];refine c_ (j_ ?_);dsimp only;refine yB (st:=SortSt.mk' general' (its.toArray.zip vs.toArray) #[] 7 ck) hk ha hne hz (gM (by rw [pz]; exact h64)) rfl ?_;have:=h id ((its.toArray.zip vs.toArray).map (·.2)) s.toks (by rw [MZ,pz]) (fun k hk=>by
    rw [RH,pat k hk];simp [hk,N2]) (nk O (fun k hk=>hk) (fun _ _ _ _ e=>e) (fun x y hxy hy=>by rw [hsz] at h2; omega)) (fun k hk=>hk)
   exact this
 · rw [if_neg h2,if_neg h2];rw [hsz] at h2;have ekk:keyKind' its.toArray=pure oneType':=by
    match its,hI,hlen with
    | [],_,hl=>simp at hl; omega
    | [v],_,hl=>simp at hl; omega
    | v1 :: v2 :: r,hI,_=>exact keyKind_ints hI
   rw [ekk];refine c_ (j_ ?_);refine c_ (Lf (D4 (J:=JT s s.heap) (E:=E) (Q:=fun _ st'=>∃ p',HG (its.toArray.zip vs.toArray) blt p' (OT st')∧RP st'=ck) (p:=id) O
    (fun i j x y s1 E' ex ey J1=>?_)
    (st:=SortSt.mk' oneType' (its.toArray.zip vs.toArray) #[] 7 ck) ⟨rfl,fun _ _=>rfl,fun _ h=>h,fun _ _ _ _ e=>e,rfl,rfl,rfl⟩ (fun _ _=>rfl) (by rw [pz]; omega) (by rw [pz]; exact h64) (fun p' st' a1 a2=>⟨p',a1,a2⟩) s ⟨s.toks,r_ _,rfl⟩) ?_ fun _ _ e=>e)
   · have at1:∀ (k:Nat) (z:RQ),(its.toArray.zip vs.toArray)[k]?=a_ z→its[k]?=a_ z.1:=fun k z hz=>by
      have hk:k < vs.length:=by
       have:=(Lo.mp hz).1
       rwa [pz] at this
      rw [pat k hk] at hz;cases hz;have:k < its.length:=by omega
      simp [this,N2]
     have gi:=at1 i x ex;have gj:=at1 j y ey;have li:i < ks.length:=by have:=(KQ.mp gi).1; have:=hI.length; omega
     have lj:j < ks.length:=by have:=(KQ.mp gj).1; have:=hI.length; omega
     obtain ⟨t,ht⟩:=hI.get i ks[i] (B_ li);obtain ⟨u,hu⟩:=hI.get j ks[j] (B_ lj);rw [ht] at gi;rw [hu] at gj;have e1:=KZ gi;have e2:=KZ gj;rw [keyLt'_oneType,← e1,← e2];exact oneLt_int ⟨J1,(hB i j _ _ (B_ li) (B_ lj)).symm⟩
   · rintro ⟨⟨⟩,st'⟩ s' ⟨⟨tk,_,rfl⟩,p',F,hfl⟩;dsimp only;have Fl:=F.lt;have Fi:=F.inj;have Fs:=F.so;rw [pz] at Fl Fi Fs;refine yB (s:={ s with heap:=s.heap,toks:=tk }) hk ha hne hz (by rw [F.sz,pz]; exact gM h64) hfl ?_;refine h p' ((OT st').map (·.2)) tk (by rw [MZ,F.sz,pz]) (fun k hk=>?_) (nk O Fl Fi Fs) Fl;rw [RH,F.at' k (by rw [pz]; exact hk),pat _ (Fl k hk)];simp [Fl k hk,N2]
end
end TS
namespace FD
open PySem PySem.Spec PyProof.Rows L2 TS
def hJ (F:List Dv→Option (Rs Dv)):List Dv→Option (List Int)
 | []=>a_ []
 | d :: r=>match F [d],hJ F r with
  | some (.ok (.int k)),a_ ks=>a_ (k :: ks)
  | _,_=>ck
def iJ (ks:List Int) (ds:List Dv):List Dv:=(cm (fun a b=>!u_ (b.1 < a.1)) (ks.zip ds)).map Prod.snd
def rn (F:List Dv→Option (Rs Dv)):List Dv→Option (Rs Dv)
 | [.lst ds]=>match hJ F ds with
  | some ks=>if ks.length < 64∧imms ds=d_ then a_ (.ok (.lst (iJ ks ds))) else ck
  | none=>ck
 | _=>ck
theorem jH {F:List Dv→Option (Rs Dv)}:∀ {ds:List Dv} {ks:List Int},hJ F ds=a_ ks→ks.length=ds.length∧∀ (i:Nat) (d:Dv),ds[i]?=a_ d→∃ k,ks[i]?=a_ k∧F [d]=a_ (.ok (.int k))
 | [],ks,h=>by cases h; exact ⟨rfl,fun i d e=>by simp at e⟩
 | d :: ds,ks,h=>by
  unfold hJ at h;split at h
  · rename_i k rs h1 h2;cases h;obtain ⟨g1,g2⟩:=jH h2;refine ⟨by simp [g1],fun i d' e=>?_⟩;cases i with
    | zero=>simp at e; subst e; exact ⟨k,rfl,h1⟩
    | succ i=>exact g2 i d' (by simpa using e)
  · cases h
def vM (ks:List Int) (i j:Nat):Bool:=u_ (ks.getD i 0 < ks.getD j 0)
theorem Aq (ks:List Int):Od (vM ks) where
 ir:=fun a=>by simp [vM]
 tr:=fun a b c h h'=>by simp only [vM,decide_eq_true_eq] at *; omega
 nt:=fun a b c h=>by simp only [vM,decide_eq_true_eq] at *; omega
theorem rq {ks:List Int} {ds:List Dv} (hl:ks.length=ds.length):(cm (fun i j=>!vM ks j i) (o_ ds.length)).map (fun i=>ds.getD i .non)=iJ ks ds:=by
 have e:(o_ ds.length).map (fun i=>(ks.getD i 0,ds.getD i .non))=ks.zip ds:=by
  apply List.ext_getElem
  · simp [hl]
  · intro i h1 h2;simp only [KR,On] at h1;have h1':i < ks.length:=by omega
    simp [N2,h1,h1']
 unfold iJ;rw [← e,← l7 (le:=fun i j=>!vM ks j i) (fun i=>(ks.getD i 0,ds.getD i .non)) _ fun x _ y _=>rfl,Om];rfl
structure Gi (X:Cx) (A':E_) (f:l_) (pn:List (l_×Obj)) (H0:Hp) (F:List Dv→Option (Rs Dv)):Prop where
 run:∀ (j':List (l_×Obj)) (σ:L2.St) (H:Hp) (s:h_) (v:V) (u:g_) (d d':Dv) (E:g_→h_→Prop),(∀ p∈pn,p∈j')→Same H0 H→Inv X j' σ H s→RelV v u→Rep X.K H d v→F [d]=a_ (.ok d') →
  v_ (F_ X.prog X.w) A' (call (.ref f) [u]) (EP X j' σ fun v' H'=>Same H H'∧Rep X.K H' d' v') E s
theorem lw:∀ l:List Int,imms (l.map Dv.int)=d_
 | []=>rfl
 | i :: l=>by show (imm (.int i) && imms (l.map Dv.int))=d_; rw [lw l]; rfl
theorem kz:∀ l:List Int,fW (l.map Dv.int)=a_ l
 | []=>rfl
 | i :: l=>by
  show (fW (l.map Dv.int)).map (i :: ·)=_;rw [kz l];rfl
section
variable {X:Cx} {j' pn:List (l_×Obj)} {σ:L2.St} {H H0:Hp} {s:h_} {f:l_} {F:List Dv→Option (Rs Dv)} {A':E_} {E:g_→h_→Prop}
theorem Ec {a kS:l_} {e1:Nat} {vs:List g_} {ws:List V} {ds:List Dv} {ks:List Int} {P:Sa→h_→Prop} (R:Gi X A' f pn H0 F) (hpn:∀ p∈pn,p∈j') (hS:∀ b u,b≠kS→H0 b=a_ u→H b=a_ u) (h0k:H0 kS=ck)
 (I:Inv X (j' ++ [(a,LA "list" #[] e1)]) σ H s) (hk:H kS=a_ (.lst [])) (hne:kS≠a) (rv:Vals ws vs) (rw':Reps X.K H ds ws) (im:imms ds=d_)
 (hkey:∀ (i:Nat) (d:Dv),ds[i]?=a_ d→∃ k,ks[i]?=a_ k∧F [d]=a_ (.ok (.int k))) (hlen:ks.length=ds.length) (hok:ks.length < 64) (fpa:∀ H',H' a=ck→oG X j' H' a)
 (h:∀ (s':h_) (H':Hp) (p:Nat→Nat) (out:Array g_) (c:Nat),Inv X j' σ H' s'→H' a=ck→(∀ b u,b≠kS→H b=a_ u→H' b=a_ u)→s'.heap.get? a=a_ (LA "list" out c)→out.size=vs.length→(∀ k,k < vs.length→out[k]?=vs[p k]?) →
   (o_ vs.length).map p=cm (fun i j=>!vM ks j i) (o_ vs.length)→(∀ k,k < vs.length→p k < vs.length)→P (.done (.ret .none)) s') :
 v_ (F_ X.prog X.w) A' (ksk_rest a (.ref f) e_ vs.toArray e1 (.ref kS)) P E s:=by
 have hl2:ds.length=vs.length:=by have g1:=gC rw'; have g2:=rv.length; omega
 have h64:vs.length < 64:=by omega
 have imk:=lw ks;unfold ksk_rest;refine c_ (Ou ?_)
 first
  | rw [List.forIn_toArray]
  | (rw [← Mt]; simp only [Rf])
  | rw [← Mt]
 refine c_ (ksk_fold (fun i s'=>∃ H' zs,Inv X (j' ++ [(a,LA "list" #[] e1)]) σ H' s'∧H' kS=a_ (.lst zs)∧(∀ b u,b≠kS→H b=a_ u→H' b=a_ u)∧Reps X.K H' ((ks.map Dv.int).take i) zs) vs 0 s ⟨H,[],I,hk,fun _ _ _ e=>e,rfl⟩ ?step ?done)
 case step =>
  rintro j x s' hx ⟨H',zs,I',hk',sm,rz⟩;simp only [NG] at rz ⊢;have hj:j < vs.length:=(KQ.mp hx).1;have hjd:ds[j]?=a_ (ds[j]'(by omega)):=B_ (by omega);obtain ⟨es,er,eF⟩:=hkey j _ hjd;have hjw:ws[j]?=a_ (ws[j]'(by have:=rv.length; omega)):=B_ (by have:=rv.length; omega);have hjl:j < ws.length:=by have:=rv.length; omega
  have hjl2:j < ds.length:=by omega
  obtain ⟨u,eu,ru⟩:=rv.get hjw;rw [hx] at eu;cases eu;have tupk:∀ b ys,H b=a_ (.tup ys)→H' b=a_ (.tup ys):=fun b ys q=>sm b _ (fun z=>by rw [z,hk] at q; cases q) q;have rd:Rep X.K H' ds[j] ws[j]:=Rep.tups tupk _ _ (lZ im hjd) (pb rw' j _ _ hjd hjw);have hS':Same H0 H':=fun b u q=>sm b u (fun z=>by rw [z,h0k] at q; cases q) (hS b u (fun z=>by rw [z,h0k] at q; cases q) q);refine c_ (Pv (Lf (R.run _ _ _ _ _ _ _ _ (fun _ _=>False) (fun p hp=>G_ _ (hpn p hp)) hS' I' ru rd eF) (fun u' s2 he=>?_) fun _ _ z=>z.elim));obtain ⟨v',H2,I2,rv2,sm2,rp2⟩:=he;dsimp only;have hk2:H2 kS=a_ (.lst zs):=sm2 _ _ hk';obtain ⟨z,its,n,rvk,hlk,ek⟩:=I2.lstM hk2;have hzl:zs.length≤62:=by have:=gC rz; simp at this; omega
  have hil:its.length≤62:=by have:=rvk.length; omega
  refine c_ (OD ek rfl ?_ (by simp; exact gM (by omega)) (by simp; omega));have tup2:∀ b ys,H2 b=a_ (.tup ys)→(upd H2 kS (.lst (zs ++ [v']))) b=a_ (.tup ys):=fun b ys q=>by
   rw [ay (fun z=>by rw [z,hk2] at q; cases q)]; exact q
  obtain ⟨n2,ek2⟩:∃ n2,(s2.heap.update kS (K7 (·.push u'))).get? kS=a_ (LA "list" (its.toArray.push u') n2):=⟨_,NT (c:="list") ek (·.push u')⟩;refine j_ ⟨rfl,upd H2 kS (.lst (zs ++ [v'])),zs ++ [v'],?_,ax,fun b u hb q=>?_,?_⟩
  · refine I2.write (t':=s2.toks) (x:=kS) (e:=kS) (o:=.lst (zs ++ [v'])) (by rw [hk2]; trivial) (.inl rfl) (fun b u hb q=>?_) ⟨_,ek2⟩ ?_
    · rw [L1 _ _ _ _ hb]; exact q
    · refine ⟨by simp; exact gM (by omega),its ++ [u'],n2,rvk.append (.cons rv2 .nil),?_⟩;simpa [LA] using ek2
  · rw [ay hb];exact sm2 _ _ (sm b u hb q)
  · have hrow:(ks.map Dv.int).take (j + 1)=(ks.map Dv.int).take j ++ [.int es]:=by
     rw [List.take_add_one,La,er];rfl
    rw [hrow];have g1:Reps X.K (upd H2 kS (.lst (zs ++ [v']))) ((ks.map Dv.int).take j) zs:=Reps.tups tup2 _ _ (nq j imk) (Reps.mono sm2 _ _ rz);exact g1.append ⟨v',[],rfl,Rep.tups tup2 _ _ rfl rp2,rfl⟩
 case done =>
  rintro s' ⟨H',zs,I',hk',sm,rz⟩;have rz':Reps X.K H' (ks.map Dv.int) zs:=by
   rw [Ol (by simp; omega)] at rz;exact rz
  obtain ⟨z,its,n,rvk,hlk,ek⟩:=I'.lstM hk';have hzl:zs.length=vs.length:=by have:=gC rz'; simp at this; omega
  have hil:its.length=vs.length:=by have:=rvk.length; omega
  refine c_ (Qb ek rfl ?_);have hpa:=I'.pin (a,LA "list" #[] e1) (by simp);refine HR (blt:=vM ks) (c:=n) ek hpa.1 hne hil h64 (Aq ks) (j9 (kz ks) rz' rvk) (fun i j x y ex ey=>?_) fun p out tk o1 o2 o3 o4=>?_
  · simp [vM,N2,ex,ey]
  · obtain ⟨n2,ek2⟩:∃ n2,(s'.heap.update kS (K7 fun _=>#[])).get? kS=a_ (LA "list" #[] n2):=⟨_,NT (c:="list") ek (fun _=>(#[]:Array g_))⟩;have W:=I'.write (t':=tk) (h':=s'.heap.update kS (K7 fun _=>#[])) (x:=kS) (e:=kS) (o:=.lst []) (by rw [hk']; trivial) (.inl rfl) (fun b u hb q=>by rw [L1 _ _ _ _ hb]; exact q) ⟨_,ek2⟩ ⟨K3 _,[],n2,.nil,by simpa [LA] using ek2⟩;have W2:=W.unpinned;have hna:upd H' kS (.lst []) a=ck:=by rw [ay hne.symm]; exact hpa.2.1
    have ha2:(s'.heap.update kS (K7 fun _=>#[])).get? a=a_ (LA "list" #[] e1):=by rw [L1 _ _ _ _ hne.symm]; exact hpa.1
    obtain ⟨g0,g1,g2,g3⟩:=fpa _ hna;have T:=W2.turned (t':=tk) (h':=(s'.heap.update kS (K7 fun _=>#[])).update a (K7 fun _=>out)) (it:=a) (fun b o hb q=>by rw [L1 _ _ _ _ hb]; exact q) g0 g1 g3.1 g3.2.1 g3.2.2;exact h _ _ p out _ T hna (fun b u hb q=>by rw [ay hb]; exact sm b u hb q) (NT ha2 fun _=>out) o1 o2 o3 o4
end
section
variable {X:Cx} {j' pn:List (l_×Obj)} {σ:L2.St} {H H0:Hp} {s:h_} {f:l_} {F:List Dv→Option (Rs Dv)} {A':E_} {E:g_→h_→Prop}
theorem Ed {a:l_} {n:Nat} {vs:List g_} {ws:List V} {ds:List Dv} {ks:List Int} {P:Sa→h_→Prop}
 (R:Gi X A' f pn H0 F) (hpn:∀ p∈pn,p∈j') (hS:Same H0 H)
 (I:Inv X j' σ H s) (ho:s.heap.get? a=a_ (LA "list" vs.toArray n)) (hna:H a=ck) (fpa:∀ H',H' a=ck→oG X j' H' a) (rv:Vals ws vs) (rw':Reps X.K H ds ws) (im:imms ds=d_)
 (hkey:∀ (i:Nat) (d:Dv),ds[i]?=a_ d→∃ k,ks[i]?=a_ k∧F [d]=a_ (.ok (.int k))) (hlen:ks.length=ds.length) (hok:ks.length < 64)
 (h:∀ (s':h_) (H':Hp) (p:Nat→Nat) (out:Array g_) (c:Nat),Inv X j' σ H' s'→H' a=ck→Same H H'→s'.heap.get? a=a_ (LA "list" out c)→out.size=vs.length→(∀ k,k < vs.length→out[k]?=vs[p k]?) →
   (o_ vs.length).map p=cm (fun i j=>!vM ks j i) (o_ vs.length)→(∀ k,k < vs.length→p k < vs.length)→P (.done (.ret .none)) s') :
 v_ (F_ X.prog X.w) A' (ksk_tree a (.ref f) e_) P E s:=by
 have h64:vs.length < 64:=by
  have g1:=gC rw'; have g2:=rv.length;omega
 have ha:a < s.heap.objs.size:=w_ ho;obtain ⟨g0,g1,g2,g3⟩:=fpa _ hna;unfold ksk_tree;refine c_ (Qb ho rfl ?_);refine c_ (OD ho rfl ?_ (gM (by simpa using h64)));obtain ⟨e1,ho1⟩:∃ e1,(s.heap.update a (K7 fun _=>(#[]:Array g_))).get? a=a_ (LA "list" #[] e1):=⟨_,NT ho fun _=>#[]⟩;have I1:=I.turned (t':=s.toks) (h':=s.heap.update a (K7 fun _=>(#[]:Array g_))) (it:=a) (fun b o hb q=>by rw [L1 _ _ _ _ hb]; exact q) g0 g1 g3.1 g3.2.1 g3.2.2;refine c_ (seqEpoch_at ho1 rfl ?_);refine c_ (wpAny_newTuple ?_ (gM (by simpa using h64)));refine c_ (Rk ?_);refine Lp ?_;have I2:=I1.kept (t':=s.toks) (h':=(s.heap.update a (K7 fun _=>(#[]:Array g_))).push (LA "tuple" vs.toArray 0)) fun b u q=>i_ _ q;have sz2:((s.heap.update a (K7 fun _=>(#[]:Array g_))).push (LA "tuple" vs.toArray 0)).objs.size=s.heap.objs.size + 1:=by rw [size_push',R_]
 have fr:H ((s.heap.update a (K7 fun _=>(#[]:Array g_))).push (LA "tuple" vs.toArray 0)).objs.size=ck:=I2.hok.fresh (r_ _);have I3:=I2.laid (t':=s.toks) (h':=((s.heap.update a (K7 fun _=>(#[]:Array g_))).push (LA "tuple" vs.toArray 0)).push (LA "list" #[] 0)) (o:=.lst []) (fun b u q=>i_ _ q) (r_ _) ⟨K3 _,[],0,.nil,t_ _ rfl⟩;have ho3:(((s.heap.update a (K7 fun _=>(#[]:Array g_))).push (LA "tuple" vs.toArray 0)).push (LA "list" #[] 0)).get? a=a_ (LA "list" #[] e1):=i_ _ (i_ _ ho1);have hne:((s.heap.update a (K7 fun _=>(#[]:Array g_))).push (LA "tuple" vs.toArray 0)).objs.size≠a:=by rw [sz2]; exact M9 (Nq ha)
 have I4:=I3.pinned (fp:=[a]) (fun b hb=>by
  have:b=a:=by simpa using hb
  subst this;exact fpa _ (by rw [ay hne.symm]; exact hna)) (fun b hb=>by
  have:b=a:=by simpa using hb
  subst this;exact ⟨_,ho3,fun v z=>by cases z⟩)
 rw [pc ho3] at I4;refine Ec R hpn (fun b u hb q=>by rw [ay hb]; exact hS b u q) (hS.free fr) I4 ax hne rv (Reps.mono (aE fr _) _ _ rw') im hkey hlen hok fpa fun s' H' p out c J ja sm e o1 o2 o3 o4=>h s' H' p out c J ja (fun b u q=>sm b u (fun z=>?_) ?_) e o1 o2 o3 o4
 · rw [z,fr] at q; cases q
 · rw [ay (fun z=>by rw [z,fr] at q; cases q)]; exact q
theorem xb {l:l_} {vs:List g_} {ws:List V} {ds:List Dv} {ks:List Int} {Q:VK}
 (R:Gi X X.A.in1.in1 f pn H0 F) (hpn:∀ p∈pn,p∈j') (hS:Same H0 H)
 (I:Inv X j' σ H s) (hcol:∀ Q':List g_→h_→Prop,(∀ h' tk,(∀ b o,s.heap.get? b=a_ o→h'.get? b=a_ o)→s.heap.objs.size≤h'.objs.size→Q' vs { s with heap:=h',toks:=tk })→v_ (F_ X.prog X.w) X.A.in1 (collect (.ref l)) Q' E s) (rv:Vals ws vs) (rw':Reps X.K H ds ws)
 (hkr:hJ F ds=a_ ks) (hok:ks.length < 64) (im:imms ds=d_)
 (q:∀ (L:l_) (ws':List V) (H':Hp),Same H H'→H' L=a_ (.lst ws')→Reps X.K H' (iJ ks ds) ws'→Q (.ref L) H') :
 v_ (F_ X.prog X.w) X.A (call (.builtin "sorted") [.ref l] [(b_ "key",.ref f)]) (EP X j' σ Q) E s:=by
 obtain ⟨hlen,hkey⟩:=jH hkr;have hws:ds.length=ws.length:=gC rw';have hvs:ws.length=vs.length:=rv.length;have h64:vs.length < 64:=by
  omega
 refine call_function_entry_kw kind_sorted plain_sorted entry_sorted (ksk_s1 _ _) ?_;unfold NF.«sorted»;refine c_ (m:=checkCount "sorted" 1 1 _) (j_ ?_);refine c_ (hcol _ fun h1' tk1 up gr=>?_);refine c_ (Rk ?_ (gM h64));have I1:=I.kept (t':=tk1) (h':=h1'.push (LA "list" vs.toArray 0)) fun b u z=>i_ _ (up b u z);have hoL:(h1'.push (LA "list" vs.toArray 0)).get? h1'.objs.size=a_ (LA "list" vs.toArray 0):=t_ _ rfl;have hfr:H h1'.objs.size=ck:=I.hok.fresh (gr);have fpa:∀ H',H' h1'.objs.size=ck→oG X j' H' h1'.objs.size:=fun H' hn=>I.fpOk (gr) hn;refine c_ (Lp (wpAny_call_entry_kw slot_list_sort ⟨_,hoL,rfl⟩ entry_list_sort ?body (ksk_l1 _ _)))
 case body =>
  show v_ (F_ X.prog X.w) X.A.in1.in1 (NF.«list.sort» ⟨[.ref h1'.objs.size],[(b_ "key",.ref f)]⟩) _ _ _;rw [ksk_t1];refine Ed (s:={ s with heap:=h1'.push (LA "list" vs.toArray 0),toks:=tk1 }) R hpn hS I1 hoL hfr fpa rv rw' im hkey hlen hok fun s' H' p out cc J ja sm e o1 o2 o3 o4=>⟨_,rfl,?_⟩;refine j_ ⟨_,rfl,?_⟩;obtain ⟨g0,g1,g2,g3,g4,g5⟩:=fpa _ ja;have J2:=J.pinned (fp:=[h1'.objs.size]) (fun b hb'=>by
   have:b=h1'.objs.size:=by simpa using hb'
   subst this;exact fpa _ ja) (fun b hb'=>by
   have:b=h1'.objs.size:=by simpa using hb'
   subst this;exact ⟨_,e,fun v z=>by cases z⟩)
  rw [pc e] at J2;have hV:Vals ((o_ vs.length).map fun k=>ws.getD (p k) .non) out.toList:=by
   refine rm (by simp [o1]) fun i v u ev eu=>?_;have hi:i < vs.length:=by
    have:=(KQ.mp eu).1;simp [o1] at this;omega
   have eu':out[i]?=a_ u:=by simpa using eu
   rw [o2 i hi] at eu';rw [La,NN hi] at ev;simp only [Nb,Np] at ev;have hp:p i < ws.length:=by rw [hvs]; exact o4 i hi
   have e1:ws[p i]?=a_ v:=by rw [B_ hp,← ev]; simp [N2,hp]
   obtain ⟨u',e2,r2⟩:=rv.get e1;rw [e2] at eu';cases eu';exact r2
  have hR:Reps X.K H' (iJ ks ds) ((o_ vs.length).map fun k=>ws.getD (p k) .non):=by
   have hn:vs.length=ds.length:=by omega
   rw [← rq hlen,← hn,← o3,Om];refine rj (by simp) fun i d v ed ev=>?_;have hi:i < vs.length:=by
    have:=(KQ.mp ed).1;simpa using this
   rw [La,NN hi] at ed ev;simp only [Nb,Np,S5] at ed ev;have hp:p i < ws.length:=by rw [hvs]; exact o4 i hi
   have hp':p i < ds.length:=by omega
   refine pb (Reps.mono sm _ _ rw') (p i) d v ?_ ?_
   · rw [B_ hp',← ed]; simp [N2,hp']
   · rw [B_ hp,← ev]; simp [N2,hp]
  have e':(h1'.objs.size,LA "list" out cc)=(h1'.objs.size,zN out.toList cc):=by simp [LA,zN]
  rw [e'] at J2;obtain ⟨ha',J3⟩:=Inv.retrack J2 hV (gM (by simp; omega)) (fun o' z=>by
   exfalso;rcases g3 with g3 | g3
   · exact absurd (I.ok) (fun _=>by
      have:=OF (h:=X.s₀.heap) (a:=h1'.objs.size) (K5 I.sz (gr));rw [this] at z;cases z)
   · have:=OF (h:=X.s₀.heap) (a:=h1'.objs.size) g3;rw [this] at z;cases z) g5
  refine ⟨.ref h1'.objs.size,_,J3,rfl,q _ _ _ (fun b u z=>?_) ax (Reps.mono (aE ja _) _ _ hR)⟩;exact aE ja _ b u (sm b u z)
end
theorem qp {a b:Int} {t u:Tok} {c:g_}:∀ (l:List g_),R5 l→R5 (l ++ [.int a t,.int b u,c])
 | [],_=>trivial
 | .int _ _ :: .int _ _ :: _ :: rest,h=>qp rest h
theorem nv {pos:Pos} {v c:g_} {a b:Int} {t u:Tok}:∀ (l:List g_),R5 l→PF pos (l ++ [.int a t,.int b u,c])=a_ v→PF pos l=a_ v∨v=c
 | [],_,h=>by
  simp only [Ql,PF] at h;split at h
  · cases h; exact .inr rfl
  · cases h
 | .int x _ :: .int y _ :: z :: rest,hl,h=>by
  simp only [List.cons_append,PF] at h ⊢;split at h
  · rename_i hc;rw [if_pos hc];exact .inl h
  · rename_i hc;rw [if_neg hc];exact nv rest hl h
def TBL (P:l_) (q:Str) (H:Hp):Prop:=∃ ps t,H P=a_ (.tbl ps)∧ps[0]?=a_ (.str q t)
def Ee (oc:Obj) (q:Str):Prop:=∃ vs t,oc.data=.fields vs∧vs[1]?=a_ (.str q t)
abbrev FZ (oc:Obj):HO:=.frz oc (.ext fun _=>True)
def ny (K:f_) (cd:g_) (P:l_):Prop:=∃ cc o vs file tf flags tg inF text tt,cd=.ref cc∧K.lookup cc=a_ o∧o.cls=.type "code"∧o.data=.fields vs∧vs[11]?=a_ (.ref P)∧vs.getD 11 .none=.ref P∧vs.getD 18 .none=.str file tf ∧
 vs.getD 7 .none=.int flags tg∧vs.getD 9 .none=.bool inF∧vs.getD 10 .none=.int text tt∧cc≠P
def Ef (K:f_) (mg:Str→Option g_):Prop:=∃ bm o,mg "__builtins__"=a_ (.ref bm)∧bm≠builtinsNs∧bm≠z_∧K.lookup bm=a_ o∧o.cls=.type "module"∧o.dict=a_ builtinsNs∧o.data=.plain
section
variable {X:Cx} {j':List (l_×Obj)} {σ:L2.St} {H:Hp} {s:h_} {P:l_} {q:Str}
theorem TBL.now (h:TBL P q X.H₀) (I:Inv X j' σ H s):TBL P q H:=by
 obtain ⟨ps,t,h1,h2⟩:=h;obtain ⟨more,e⟩:=I.base.tbls P ps h1;refine ⟨ps ++ more,t,e,?_⟩;have:0 < ps.size:=(Lo.mp h2).1;rw [Array.getElem?_append_left this];exact h2
theorem Ar {c:l_} {ps:Array g_} {oc:Obj} {t':Nat} {h':KO} (I:Inv X j' σ H s) (hP:H P=a_ (.tbl ps)) (hx:∀ b o,b≠P→s.heap.get? b=a_ o→h'.get? b=a_ o) (hc:s.heap.objs.size≤c) (hoc:h'.get? c=a_ oc) (new:ObjOk X.prog X.w (upd H c (FZ oc)) h' P (.tbl ps)) :
 Inv X j' σ (upd H c (FZ oc)) { s with heap:=h',toks:=t' }:=by
 have fr:H c=ck:=I.hok.fresh hc;have nP:∀ b,H b=ck→b≠P:=fun b n z=>by rw [z,hP] at n; cases n
 have nc:∀ b o,s.heap.get? b=a_ o→b≠c:=fun b o e=>KP (J_ (w_ e) hc);refine I.step (g':=s.gens) (d':=s.drawn) (ch:=[]) (fun _ z=>nomatch z) (fun b o _ _ _ e n=>hx b o (nP b n) e) (fun b o _ _ _ e n=>⟨o.slots,hx b o (nP b n) e⟩) (fun b o _ e n=>by rw [ay (nc b o e)]; exact n) (fun b o _ e=>?_)
  (fun b xs e=>by rw [ay (ar e fr)]; exact e) (fun b o u e=>by rw [ay (ar e fr)]; exact e) (fun b qs e=>⟨#[],by rw [ay (ar e fr),e]; simp⟩) (fun m hm=>?_) (fun b u e=>?_) I.bare
 · by_cases hb:b=P
   · obtain ⟨qs,e2,_⟩:=new;exact ⟨_,by rw [hb]; exact e2⟩
   · exact ⟨o,hx b o hb e⟩
 · obtain ⟨o,es,ep,ho,r⟩:=hm;exact ⟨o,es,ep,hx _ o (nP _ I.free) ho,r⟩
 · by_cases hb:b=c
   · subst hb;rw [ax] at e;cases e;exact ⟨hoc,trivial,⟨oc,hoc⟩,fun _ _ _ _=>trivial⟩
   · rw [ay hb] at e;by_cases hbP:b=P
     · subst hbP;rw [hP] at e;cases e;exact new
     · refine (I.hok b u e).stay (fun d v hd z=>hx d v ?_ z) (fun d z=>by rw [ay (ar z fr)]; exact z) fun d xs z=>by rw [ay (ar z fr)]; exact z
       rcases hd with z | z
       · rw [z]; exact hbP
       · intro z2;rw [z2,hP] at z;cases z
theorem Eg {E:g_→h_→Prop} {Q:g_→h_→Prop} {args:Arguments} {body:H_} {scope:L6} {lpos:Pos} (I:Inv X j' σ H s) (hT:TBL P q X.H₀) (hC:ny X.K X.env.code P) (hB:Ef X.K X.mg) (hcl:M3 scope X.env=pure []) (hdef:defaultsOf args X.env=([],[])) (hq:X.env.qual ++ "<lambda>"=q)
 (h:∀ f c oc ctv pm H' s',Inv X j' σ H' s'→Same H H'→H' c=a_ (FZ oc)→Ee oc q→s'.heap.get? f=a_ (Na "<lambda>" q args body scope [] pm c ctv)→oG X j' H' f→Q (.ref f) s') :
 v_ (F_ X.prog X.w) X.A (eval (.Lambda args body scope lpos) X.env) Q E s:=by
 refine PySem.W.kla_eval hdef ?_;rw [hq];obtain ⟨ps,t0,hP,hp0⟩:=hT.now I;obtain ⟨qs,e,tr,ch⟩:=I.hok P _ hP;have KX:=I.kIn;obtain ⟨cc,o,vs,file,tf,flags,tg,inF,text,tt,ecd,lk,c1,c2,c3,c4,c5,c6,c7,c8,c9⟩:=hC;have C:PySem.W.CodeHd s.heap cc P:=⟨o,vs,file,tf,flags,tg,inF,text,tt,KX _ _ lk,c1,c2,c3,c4,c5,c6,c7,c8,c9⟩;have hg:s.heap.Ns z_ X.mg:=I.mod.glob.keeps I.bk;obtain ⟨bm,ob,b1,b2,b3,b4,b5,b6,b7⟩:=hB;have hgP:z_≠P:=fun z=>by
  obtain ⟨o,es,ep,e',hd,_⟩:=hg;rw [z,e] at e'; cases e'; cases hd
 have hbP:bm≠P:=fun z=>by
  have e':=KX _ _ b4;rw [z,e] at e'; cases e'; cases b5
 have hb:s.heap.BuiltinsAt X.mg P:=⟨bm,ob,b1,b2,b3,hbP,KX _ _ b4,b5,b6,b7⟩;cases hf:PF lpos qs.toList with
 | none =>
  refine PySem.W.kla_makeFunction (mg:=X.mg) hcl I.ok.glob hg ecd C e tr hf hgP hb fun c' ctv h' tk hx hge hlt hrec htb=>?_;obtain ⟨c2',oc,vs2,t,e2,hoc,hd,hv⟩:=hrec;cases e2;have fr:H c'=ck:=I.hok.fresh hge;have hl:(qs ++ #[Qx lpos.line,Qx lpos.col,q_ c']).toList=qs.toList ++ [Qx lpos.line,Qx lpos.col,.ref c']:=by simp
  have new:ObjOk X.prog X.w (upd H c' (FZ oc)) h' P (.tbl ps):=⟨_,htb,by rw [hl]; exact qp _ tr,fun pos v hv'=>by
   rw [hl] at hv';rcases nv _ tr hv' with z | z
   · obtain ⟨c3',oc3,vs3,q3,t3,t3',r1,r2,r3⟩:=ch pos v z;exact ⟨c3',oc3,vs3,q3,t3,t3',r1,by rw [ay (ar r2 fr)]; exact r2,r3⟩
   · exact ⟨c',oc,vs2,q,t,t0,z,ax,hd,hv,hp0⟩⟩
  have I':=Ar (t':=tk) I hP (fun b o hb' q'=>hx b o hb' q') hge hoc new;have I2:=I'.kept (t':=tk) (h':=h'.push (Na "<lambda>" q args body scope [] ((X.mg "__name__").getD .none) c' ctv)) fun b u z=>i_ _ z;exact h h'.objs.size c' oc ctv _ _ _ I2 (aE fr _) ax ⟨vs2,t,hd,hv⟩ (t_ _ rfl) (I'.fpOk (r_ _) (I'.hok.fresh (r_ _)))
 | some v =>
  obtain ⟨c3',oc3,vs3,q3,t3,t3',r1,r2,r3,r4,r5⟩:=ch lpos v hf;subst r1;rw [hp0] at r5;cases r5;refine PySem.W.kla_makeFunctionHit (mg:=X.mg) hcl I.ok.glob hg ecd C e tr hf hb fun ctv h' tk hk hsz=>?_;have I1:=I.kept (t':=tk) (h':=h') hk;have I2:=I1.kept (t':=tk) (h':=h'.push (Na "<lambda>" q args body scope [] ((X.mg "__name__").getD .none) c3' ctv)) fun b u z=>i_ _ z;exact h h'.objs.size c3' oc3 ctv _ _ _ I2 (.refl H) r2 ⟨vs3,t3,r3,r4⟩ (t_ _ rfl) (I1.fpOk (r_ _) (I1.hok.fresh (r_ _)))
theorem As {A':E_} {k:Nat} {f c:l_} {oc:Obj} {H0:Hp} {N ps:List Str} {args:Arguments} {body:H_} {scope:L6} {pm ctv:g_} {fb:FnE} {F:List Dv→Option (Rs Dv)} (hr:Room (k + 1) A') (hfr:A'.frames=X.A.frames) (S:eU N ps scope) (hps:ps.length=1)
 (hbd:∀ (pm ctv:g_) (c:l_) (u:g_),QF (QH "<lambda>" q args body scope [] pm (.ref c) ctv) ⟨[u],[]⟩=pure (ps.zip [u])) (hc:H0 c=a_ (FZ oc)) (hrec:Ee oc q)
 (hb:∀ (A:E_) (outer:List Env) (s:h_) (H:Hp) (E:XK),Room k (A.deeper (M8 q scope s.heap.objs.size f (.ref c)))→FE (lK CX0 X.prog X.w X.K X.mg X.base N q scope f (.ref c) A outer s H E) body fb)
 (hF:F=fun ds=>fb (ds.map a_ ++ y_ (N.length - ds.length) ck)):Gi X A' f [(f,Na "<lambda>" q args body scope [] pm c ctv)] H0 F:=by
 refine ⟨fun j' σ H s v u d d' E hpn hS I ru rd eF=>?_⟩;have e0:=I.env0;have e1:Env0 X.prog X.w X.K X.mg X.base A' X.stack s H:=⟨hfr.trans e0.frames,e0.mod,e0.bs,e0.bsz,e0.funs,e0.frf,e0.hok,e0.bare⟩;have hfo:=(I.pin (f,Na "<lambda>" q args body scope [] pm c ctv) (m_ _ (hpn _ (by simp)))).1;have hoc:s.heap.get? c=a_ oc:=(I.hok c _ (hS _ _ hc)).1;obtain ⟨vs,t,hd,hv⟩:=hrec;have lim:s.heap.NoLimit:=I.nolimit;have hkind:∀ y∈ps.zip [u],scope.names.lookup y.1=a_ .local∨(scope.names.lookup y.1=a_ .cell∧((Lh (s.heap.objs.size + 1) scope.names []).lookup y.1).isSome=d_):=fun ⟨n,v⟩ hy=>by
  rcases S.par n (OR hy).1 with q | q
  · exact .inl q
  · exact .inr ⟨q,N9 _ _ _ (.inl q)⟩
 refine Rt (M1 (R:=CR CX0 X.stack X.prog X.w H s (fun v' H'=>Same H H'∧Rep X.K H' d' v') E0) ?_ fun r s' hq=>?_)
 · refine PySem.W.kla_callFunE hr.depth hfo rfl S.co S.gen rfl ⟨c,oc,vs,t,rfl,hoc,hd,hv⟩ ?_;rw [hbd];refine j_ (O6 S.kind hkind fun env he s1 x=>?_);subst he;refine ⟨lim.keeps x.toInCall.keep,PySem.W.kla_codeExpr ?_⟩;have I1:Inv (lK CX0 X.prog X.w X.K X.mg X.base N q scope f (.ref c) A' X.stack s H E0) [] (start N [v]) H s1:=mM S hr.hd e1 (by simp [hps]) (.cons ru .nil) x;refine Lf ((hb A' X.stack s H E0 (hr.deeper _)).h [] s1 (start N [v]) H (fun v' H'=>Same H H'∧Rep X.K H' d' v') I1 ⟨_,fP (ds:=[d]) ⟨v,[],rfl,rd,rfl⟩,?_⟩) (fun v' s' hs=>?_) fun e s' hs=>hs
   · rw [hF] at eF;have eF':fb (List.map a_ [d] ++ y_ (N.length - [d].length) ck)=a_ (.ok d'):=eF;rw [eF'];exact fun v H' e r=>⟨e,r⟩
   · obtain ⟨v2,H2,J,rv2,q2⟩:=hs;exact ⟨v2,H2,J.os,J.bare,J.base,J.hok,rv2,q2⟩
 · cases r with
   | error e=>exact hq.elim
   | ok fl =>
    cases fl with
    | ret u=>exact I.after hq
    | next=>exact Lw hq
    | brk=>exact Lw hq
    | cont=>exact Lw hq
end
section
variable {X:Cx} {k' k:Nat} {p kp pos lpos:Pos} {e:H_} {g:FnA} {P:l_} {q:Str} {N ps:List Str} {args:Arguments} {body:H_} {scope:L6} {fb:FnE}
def BB (n:Nat) (fb:FnE):List Dv→Option (Rs Dv):=fun ds=>fb (ds.map a_ ++ y_ (n - ds.length) ck)
theorem xf (hT:TBL P q X.H₀) (hC:ny X.K X.env.code P) (hB:Ef X.K X.mg) (hr:Room k' X.A) (hk:k + 3≤k') (hg:Gl X "sorted") (hm:X.mg "sorted"=ck) (ha:FA X [e] g) (S:eU N ps scope) (hps:ps.length=1) (hN:N.length=1)
 (hb:∀ (f c:l_) (A:E_) (outer:List Env) (s:h_) (H:Hp) (E:XK),Room k (A.deeper (M8 q scope s.heap.objs.size f (.ref c)))→FE (lK CX0 X.prog X.w X.K X.mg X.base N q scope f (.ref c) A outer s H E) body fb)
 (hbd:∀ (pm ctv:g_) (c:l_) (u:g_),QF (QH "<lambda>" q args body scope [] pm (.ref c) ctv) ⟨[u],[]⟩=pure (ps.zip [u])) (hcl:M3 scope X.env=pure []) (hdef:defaultsOf args X.env=([],[])) (hq:X.env.qual ++ "<lambda>"=q)
 (he:Lc pos (k_ [e] X.env)=(e_,eval e X.env) :: Lc pos (k_ [] X.env):=by kernel_rfl)
 (hplain:(Lc pos (k_ [e] X.env)).any (·.1)=e_:=by kernel_rfl)
 (hall:(Nv pos (Mb [⟨a_ "key",.Lambda args body scope lpos,kp⟩] X.env)).all (·.1.isSome)=d_:=by kernel_rfl)
 (hkw:(Nv pos (Mb [⟨a_ "key",.Lambda args body scope lpos,kp⟩] X.env)).any (·.1.isNone)=e_:=by kernel_rfl)
 (hnm:(Nv pos (Mb [⟨a_ "key",.Lambda args body scope lpos,kp⟩] X.env)).filterMap (·.1)=[b_ "key"]:=by kernel_rfl) :
 FE X (.Call (.Name "sorted" p) [e] [⟨a_ "key",.Lambda args body scope lpos,kp⟩] pos) (fB1 (rn (BB 1 fb)) g):=⟨fun j' s σ H Q I ⟨ρ,E,o⟩=>by
 refine Ml (iC I hg hm (u:=.builtin "sorted") (by decide +kernel) ?_ (by decide) (by decide));refine callWith_kw (thn (ha.h pos j' s σ H _ I ⟨ρ,E,OutA.bind o fun ds vs H1 e1 rs o1=>(show ∃ ds,Reps X.K H1 ds vs∧Out X H1 (rn (BB 1 fb) ds) Q from ⟨ds,rs,o1⟩)⟩) fun us s1 ⟨vs,H1,I1,r1,ds,rs,o1⟩=>?_) he hplain hall hkw;refine kws_cons (Eg I1 hT hC hB hcl hdef hq fun f c oc ctv pm H2 s2 I2 sm hc hrec hfo hfp=>kws_nil ?_);rw [hnm];show v_ _ _ (call (.builtin "sorted") us [(b_ "key",.ref f)]) _ _ s2;unfold rn at o1;split at o1
 · rename_i es;obtain ⟨v,rfl,r⟩:=dO rs;obtain ⟨l,xs,rfl,hl,rx⟩:=r.lstE;obtain ⟨u,rfl,ru⟩:=eR r1;cases (show u=q_ l from ru);split at o1
   · rename_i ks hks;split at o1
     · rename_i hcond;obtain ⟨z,its,n,rv,hz,eh⟩:=I2.lstM (sm _ _ hl);have Ip:=I2.pinned (fp:=[f]) (fun b hb'=>by
        have:b=f:=by simpa using hb'
        subst this;exact hfp) (fun b hb'=>by
        have:b=f:=by simpa using hb'
        subst this;exact ⟨_,hfo,fun v z=>by cases z⟩)
       rw [pc hfo] at Ip;have hin:Room (k + 1) X.A.in1.in1:=(hr.mono hk).in1.in1;have R:=As (X:=X) (A':=X.A.in1.in1) (H0:=H2) (N:=N) (ps:=ps) (args:=args) (body:=body) (scope:=scope) (pm:=pm) (ctv:=ctv) (fb:=fb) (F:=BB 1 fb) hin rfl S hps hbd hc hrec (hb f c) (by rw [hN]; rfl);have hlen:its.length < 64:=by
        obtain ⟨g1,_⟩:=jH hks;have g2:=gC rx;have g3:=rv.length;omega
       refine thn (xb (Q:=Q) R (fun p hp=>by
        have:p=(f,Na "<lambda>" q args body scope [] pm c ctv):=by simpa using hp
        subst this;simp) (.refl H2) Ip (fun Q' hQ=>pj (M:=F_ X.prog X.w) eh rfl rfl rfl (fun h' up gr=>hQ h' s2.toks up (NH gr)) (gM hlen)) rv (Reps.mono sm _ _ rx) hks hcond.1 hcond.2 fun L ws' H' sm' hL rw'=>o1 _ _ (sm.trans sm') ⟨L,ws',rfl,hL,rw'⟩) fun u s3 ⟨v,H3,I3,rv3,q3⟩=>⟨v,H3,I3.unpinned,rv3,q3⟩
     · exact o1.elim
   · exact o1.elim
 · exact o1.elim⟩
end
def spT (Pt:l_) (q:Str) (K:f_) (F:List Dv→Option (Rs Dv)) (n:Nat):Sp:=fun vs H Q E=>TBL Pt q H∧spF K F n vs H Q E
def Kh (P:rl) (w:C_) (K:f_) (mg:Str→Option g_) (base:KO) (Pt:l_) (q:Str) (x:Str) (k:Nat) (ps:List Str) (F:List Dv→Option (Rs Dv)):Prop :=
 ∃ f fd,FnOk P w K mg base CX0 k f fd ps (spT Pt q K F ps.length)∧mg x=a_ (.ref f)∧LK K (.ref f)=d_∧Binds K fd ps []
structure HAT (P:rl) (w:C_) (K:f_) (mg:Str→Option g_) (base:KO) (Pt:l_) (q:Str) (T:bX):Prop where
 h:∀ x e,T.lookup x=a_ e→Kh P w K mg base Pt q x e.1 e.2.1 e.2.2
section
variable {P:rl} {w:C_} {K:f_} {mg:Str→Option g_} {base h:KO} {Pt:l_} {q:Str} {T:bX} {y x:Str} {k n:Nat} {ps:List Str} {F:List Dv→Option (Rs Dv)} {st:L3} {f:l_}
theorem Au:HAT P w K mg base Pt q []:=⟨fun _ _ h=>by cases h⟩
theorem TBL.mono {H H':Hp} (e:Same H H') (h:TBL Pt q H):TBL Pt q H':=let ⟨ps,t,h1,h2⟩:=h; ⟨ps,t,e _ _ h1,h2⟩
theorem Eh {fd:Lv} {qual:Str} {CT:g_→Prop} (N ps:List Str) (fb:FnS) (hF:F=bu N.length fb) (hn:n=ps.length) (Fn:Fun K x qual st f fd) (S:eU N ps (aI st)) (hct:CT fd.code)
 (hb:∀ (cdv:g_) (A:E_) (outer:List Env) (s:h_) (H:Hp) (E:XK),CT cdv→TBL Pt q H→Room k (A.deeper (M8 qual (aI st) s.heap.objs.size f cdv))→FSs (lK CX0 P w K mg base N qual (aI st) f cdv A outer s H E).nox (dc st) fb) :
 FnOk P w K mg base CX0 (k + 1) f fd ps (spT Pt q K F n):=by
 subst hF hn;obtain ⟨oc,od,kV,doc,pm,an,cdv,ct,osl,rfl,lk,hcd⟩:=Fn.ex;refine v7 lk hcd S (fun vs H Q E h=>?_) fun A outer s H vs Q E hr h=>?_
 · obtain ⟨_,ds,r,hl,_⟩:=h;rw [r.length,hl]
 · obtain ⟨ht,ds,r,hl,z⟩:=h;refine ⟨_,(hb cdv A outer s H E hct ht hr).h.nox,ds.map a_ ++ y_ (N.length - ds.length) ck,fP r,?_⟩;unfold bu at z
   match hf:fb (ds.map a_ ++ y_ (N.length - ds.length) ck) with
   | none=>rw [hf] at z; exact z.elim
   | some (.exc c)=>rw [hf] at z; exact z.elim
   | some (.rt d)=>rw [hf] at z; exact fun v H' e r'=>z v H' e r'
   | some (.nx ρ)=>rw [hf] at z; exact fun σ' H' e _=>z .non H' e rfl
def ctB (K:f_) (f Pt:l_):Bool:=match K.lookup f with
 | some ⟨_,_,.func fd,_⟩=>(match fd.code with
  | .ref cc=>(match K.lookup cc with
   | some ⟨.type "code",_,.fields vs,_⟩=>(match (vs[11]?:Option g_),vs.getD 11 .none,vs.getD 18 .none,vs.getD 7 .none,vs.getD 9 .none,vs.getD 10 .none with
    | some (.ref p),.ref p',.str _ _,.int _ _,.bool _,.int _ _=>NI p Pt && NI p' Pt && !NI cc Pt
    | _,_,_,_,_,_=>e_)
   | _=>e_)
  | _=>e_)
 | _=>e_
theorem HS {fd:Lv} (h:ctB K f Pt=d_) (Fn:Fun K x x st f fd):ny K fd.code Pt:=by
 obtain ⟨oc,od,kV,doc,pm,an,cdv,ct,osl,e,lk,hcd⟩:=Fn.ex;unfold ctB at h;rw [lk] at h;dsimp only at h;split at h
 · rename_i cc hcc;split at h
   · rename_i dd vs sl hlk;split at h
     · rename_i p p' a1 a2 a3 a4 a5 a6 a7 e1 e2 e3 e4 e5 e6;simp only [pi,L0] at h;have h1:p=Pt:=Lb h.1.1;have h2:p'=Pt:=Lb h.1.2;subst h1;subst h2;exact ⟨cc,_,vs,_,_,_,_,_,_,_,hcc,hlk,rfl,rfl,e1,e2,e3,e4,e5,e6,Mi h.2⟩
     · cases h
   · cases h
 · cases h
theorem ctB_tab {h:KO} (XI:K.In h) (hc:ctB K f Pt=d_):QC h Pt:=by
 unfold ctB at hc;split at hc
 · split at hc
   · rename_i cc hcc;split at hc
     · rename_i dd vs sl hlk;split at hc
       · rename_i p p' a1 a2 a3 a4 a5 a6 a7 e1 e2 e3 e4 e5 e6;simp only [pi,L0] at hc;have h1:p=Pt:=Lb hc.1.1;subst h1;exact ⟨cc,_,vs,XI _ _ hlk,rfl,rfl,e1⟩
       · cases hc
     · cases hc
   · cases hc
 · cases hc
def bmB (K:f_):Bool:=match L9 K z_ "__builtins__" with
 | some (a_ (.ref bm))=>(match K.lookup bm with
  | some ⟨.type "module",a_ d,.plain,_⟩=>NI d builtinsNs && !NI bm builtinsNs && !NI bm z_
  | _=>e_)
 | _=>e_
theorem HU (XI:K.In h) (Gn:h.Ns z_ mg) (hb:bmB K=d_):Ef K mg:=by
 unfold bmB at hb;split at hb
 · rename_i bm e1;split at hb
   · rename_i d sl e2;simp only [pi,L0] at hb;have h1:d=builtinsNs:=Lb hb.1.1;subst h1;exact ⟨bm,_,Nf XI Gn e1,Mi hb.1.2,Mi hb.2,e2,rfl,rfl,rfl⟩
   · cases hb
 · cases hb
end
section
variable {X:Cx} {T:bX} {C:Bz} {k' n:Nat} {Pt:l_} {q x:Str} {p pos kp lpos:Pos} {e:H_} {es:List H_} {F:List Dv→Option (Rs Dv)} {g:FnA} {N ps:List Str} {args:Arguments} {body:H_} {scope:L6} {fb:FnE}
theorem uQ (hT:TBL Pt q X.H₀) (hC:ny X.K X.env.code Pt) (hB:Ef X.K X.mg) (hM:MA X.mg C) (hr:Room k' X.A) (ha:FA X [e] g)
 (hb:∀ (f c:l_) (A:E_) (outer:List Env) (s:h_) (H:Hp) (E:XK),Room 1 (A.deeper (M8 q scope s.heap.objs.size f (.ref c)))→FE (lK CX0 X.prog X.w X.K X.mg X.base N q scope f (.ref c) A outer s H E) body fb)
 (hk:SE 4 k'=d_:=by kernel_rfl) (hg:X.env.kindOf (b_ "sorted")=a_ .globalImplicit:=by kernel_rfl) (hm:C.lookup (b_ "sorted")=a_ ck:=by kernel_rfl) (hs:fnB N N scope=d_:=by kernel_rfl) (hN:NI N.length 1=d_:=by kernel_rfl)
 (hbd:∀ (pm ctv:g_) (c:l_) (u:g_),QF (QH "<lambda>" q args body scope [] pm (.ref c) ctv) ⟨[u],[]⟩=pure (N.zip [u]):=by intros; kernel_rfl) (hcl:M3 scope X.env=pure []:=by kernel_rfl) (hdef:defaultsOf args X.env=([],[]):=by kernel_rfl) (hq:X.env.qual ++ "<lambda>"=q:=by kernel_rfl)
 (he:Lc pos (k_ [e] X.env)=(e_,eval e X.env) :: Lc pos (k_ [] X.env):=by kernel_rfl)
 (hplain:(Lc pos (k_ [e] X.env)).any (·.1)=e_:=by kernel_rfl)
 (hall:(Nv pos (Mb [⟨a_ "key",.Lambda args body scope lpos,kp⟩] X.env)).all (·.1.isSome)=d_:=by kernel_rfl)
 (hkw:(Nv pos (Mb [⟨a_ "key",.Lambda args body scope lpos,kp⟩] X.env)).any (·.1.isNone)=e_:=by kernel_rfl)
 (hnm:(Nv pos (Mb [⟨a_ "key",.Lambda args body scope lpos,kp⟩] X.env)).filterMap (·.1)=[b_ "key"]:=by kernel_rfl) :
 FE X (.Call (.Name "sorted" p) [e] [⟨a_ "key",.Lambda args body scope lpos,kp⟩] pos) (fB1 (rn (BB 1 fb)) g) :=
 xf hT hC hB hr (Mu hk) hg (hM.no hm) ha (Eb hs) (Lb hN) (Lb hN) hb hbd hcl hdef hq he hplain hall hkw hnm
end
def HV (Pt:l_) (q:Str) (K:f_) (F:List Dv→Option (Rs Dv)) (n:Nat):Sp:=fun vs H Q E=>TBL Pt q H∧spE K F n vs H Q E
def xg (P:rl) (w:C_) (K:f_) (mg:Str→Option g_) (base:KO) (Pt:l_) (q:Str) (x:Str) (k:Nat) (ps:List Str) (F:List Dv→Option (Rs Dv)):Prop :=
 ∃ f fd,FnOk P w K mg base (CXE P w) k f fd ps (HV Pt q K F ps.length)∧mg x=a_ (.ref f)∧LK K (.ref f)=d_∧Binds K fd ps []
structure vN (P:rl) (w:C_) (K:f_) (mg:Str→Option g_) (base:KO) (Pt:l_) (q:Str) (T:bX):Prop where
 h:∀ x e,T.lookup x=a_ e→xg P w K mg base Pt q x e.1 e.2.1 e.2.2
section
variable {P:rl} {w:C_} {K:f_} {mg:Str→Option g_} {base h:KO} {Pt:l_} {q:Str} {T:bX} {y x:Str} {k n:Nat} {ps:List Str} {F:List Dv→Option (Rs Dv)} {st:L3} {f:l_}
theorem xh:vN P w K mg base Pt q []:=⟨fun _ _ h=>by cases h⟩
theorem nA (h:xg P w K mg base Pt q y k ps F) (t:vN P w K mg base Pt q T):vN P w K mg base Pt q ((y,k,ps,F) :: T):=⟨fun x e z=>by
 rcases jd z with ⟨rfl,rfl⟩ | z
 · exact h
 · exact t.h x e z⟩
theorem Av {fd:Lv} {qual:Str} {CT:g_→Prop} (N ps:List Str) (fb:FnS) (hF:F=eV N.length fb) (hn:n=ps.length) (Fn:Fun K x qual st f fd) (S:eU N ps (aI st)) (hct:CT fd.code)
 (hb:∀ (cdv:g_) (A:E_) (outer:List Env) (s:h_) (H:Hp) (E:XK),CT cdv→TBL Pt q H→Room k (A.deeper (M8 qual (aI st) s.heap.objs.size f cdv))→FSs (lK (CXE P w) P w K mg base N qual (aI st) f cdv A outer s H E) (dc st) fb) :
 FnOk P w K mg base (CXE P w) (k + 1) f fd ps (HV Pt q K F n):=by
 subst hF hn;obtain ⟨oc,od,kV,doc,pm,an,cdv,ct,osl,rfl,lk,hcd⟩:=Fn.ex;refine v7 lk hcd S (fun vs H Q E h=>?_) fun A outer s H vs Q E hr h=>?_
 · obtain ⟨_,ds,r,hl,_⟩:=h;rw [r.length,hl]
 · obtain ⟨ht,ds,r,hl,q⟩:=h;refine ⟨_,(hb cdv A outer s H E hct ht hr).h,ds.map a_ ++ y_ (N.length - ds.length) ck,fP r,?_⟩;unfold eV at q
   match hf:fb (ds.map a_ ++ y_ (N.length - ds.length) ck) with
   | none=>rw [hf] at q; exact q.elim
   | some (.exc c)=>rw [hf] at q; exact Ds q
   | some (.rt d)=>rw [hf] at q; exact fun v H' e r'=>q v H' e r'
   | some (.nx ρ)=>rw [hf] at q; exact fun σ' H' e _=>q .non H' e rfl
theorem qr {CT:g_→Prop} (XI:K.In h) (Gn:h.Ns z_ mg) (N ps:List Str) (fb:FnS) (A:Af K x st f) (hbd:HQ x st ps) (hct:∀ fd,Fun K x x st f fd→CT fd.code)
 (hb:∀ (cdv:g_) (A:E_) (outer:List Env) (s:h_) (H:Hp) (E:XK),CT cdv→TBL Pt q H→Room k (A.deeper (M8 x (aI st) s.heap.objs.size f cdv))→FSs (lK (CXE P w) P w K mg base N x (aI st) f cdv A outer s H E) (dc st) fb) (hF:F=eV N.length fb:=by kernel_rfl) (hs:fnB N ps (aI st)=d_:=by kernel_rfl):xg P w K mg base Pt q x (k + 1) ps F :=
 let ⟨_,Fn⟩:=A.F
 ⟨_,_,Av N ps fb hF rfl Fn (Eb hs) (hct _ Fn) hb,Nf XI Gn A.a,A.k,Fn.binds hbd⟩
end
section
variable {X:Cx} {T:bX} {k' n:Nat} {Pt:l_} {q x:Str} {p pos:Pos} {e:H_} {es:List H_} {F:List Dv→Option (Rs Dv)} {g:FnA}
theorem rA (k:Nat) (ps:List Str) (F:List Dv→Option (Rs Dv)) (h:xg X.prog X.w X.K X.mg X.base Pt q x k ps F) (hT:TBL Pt q X.H₀) (hr:Room k' X.A) (hk:k≤k') (hex:X.ex=[]) (hg:Gl X x) (ha:FA X (e :: es) g) (hn:n=ps.length:=by kernel_rfl) (hdb:(x == ("__debug__":Str))=e_:=by kernel_rfl)
 (he:k_ (e :: es) X.env=(e_,eval e X.env) :: k_ es X.env:=by kernel_rfl) (hpl:(Lc pos (k_ es X.env)).any (·.1)=e_:=by kernel_rfl) :
 FE X (.Call (.Name x p) (e :: es) [] pos) (am F n g):=by
 subst hn;obtain ⟨f,fd,G,hm,hkp,hb⟩:=h;refine ⟨fun j' s σ H Q I ⟨ρ,E,o⟩=>lJ (G.mono hk) hr hg hm hkp hb .nil (Do hex) ha.h hdb he hpl j' s σ H Q I ⟨ρ,E,OutA.bind o fun ds vs H' e rs o1=>?_⟩⟩;show HV Pt q X.K F ps.length (vs ++ []) H' Q (EX X);rw [LD];refine ⟨(hT.now I).mono e,?_⟩;by_cases hl:ds.length=ps.length
 · rw [if_pos hl] at o1;refine ⟨ds,rs,hl,?_⟩
   match hF:F ds with
   | none=>rw [hF] at o1; exact o1.elim
   | some (.ok d)=>rw [hF] at o1; exact o1
   | some (.exc c)=>rw [hF] at o1; exact fun C H1 hC e1=>⟨c,C,rfl,hC,XW.mono o1 e1⟩
 · rw [if_neg hl] at o1;exact o1.elim
theorem lx (hT:vN X.prog X.w X.K X.mg X.base Pt q T) (hB:TBL Pt q X.H₀) (hr:Room k' X.A) (hF:(T.lookup x).map (fun q=>q.2.2)=a_ F) (hex:X.ex=[]) (ha:FA X (e :: es) g) (hk:((T.lookup x).all fun q=>SE q.1 k' && NI n q.2.1.length)=d_:=by kernel_rfl) (hg:X.env.kindOf x=a_ .globalImplicit:=by kernel_rfl) (hdb:(x == ("__debug__":Str))=e_:=by kernel_rfl)
 (he:k_ (e :: es) X.env=(e_,eval e X.env) :: k_ es X.env:=by kernel_rfl) (hpl:(Lc pos (k_ es X.env)).any (·.1)=e_:=by kernel_rfl) :
 FE X (.Call (.Name x p) (e :: es) [] pos) (am F n g):=by
 cases hq:T.lookup x with
 | none=>rw [hq] at hF; cases hF
 | some q =>
  rw [hq] at hF hk;cases hF;rw [OQ,pi] at hk;exact rA q.1 q.2.1 q.2.2 (hT.h x q hq) hB hr (Mu hk.1) hex hg ha (Lb hk.2) hdb he hpl
end
section
variable {X:Cx} {T:bX} {k' n:Nat} {Pt:l_} {q x1 x2 x3:Str} {p1 p2 p3 lp sp pos:Pos} {ix e:H_} {es:List H_} {F1 F2 F3:List Dv→Option (Rs Dv)} {fi:FnE} {g:FnA}
end
end FD
namespace FD
open PySem PySem.Spec PyProof.Rows L2
section
variable {X:Cx} {Pt:l_} {q x:Str} {elt iter:H_} {ifs:List H_} {scope:L6} {pos px:Pos} {src:FnA} {tst:Option FnB} {fe:FnE} {cs:List (Str×Nat)}
end
end FD
namespace SM
open PySem PySem.SetTable
abbrev Mx:=Option (Int ⊕ Str)
def bi (b:Bool):Int:=if b then 1 else 0
def mxIs:Mx→g_→Bool
 | none,.none=>d_
 | some (.inl i),.int j _=>j == i
 | some (.inl i),.bool b=>bi b == i
 | some (.inr x),.str y _=>y == x
 | _,_=>e_
def Sc (v:g_):Prop:=v=.none∨(∃ b,v=.bool b)∨(∃ i t,v=.int i t)∨∃ x t,v=.str x t
theorem fD {k:Mx} {v:g_} (h:mxIs k v=d_):(k=ck∧v=.none)∨(∃ b,k=a_ (.inl (bi b))∧v=.bool b)∨(∃ i t,k=a_ (.inl i)∧v=.int i t)∨∃ x t,k=a_ (.inr x)∧v=.str x t:=by
 unfold mxIs at h;split at h
 · exact .inl ⟨rfl,rfl⟩
 · rename_i i j t; have e:j=i:=by simpa using h
   subst e; exact .inr (.inr (.inl ⟨_,_,rfl,rfl⟩))
 · rename_i i b; have e:bi b=i:=by simpa using h
   subst e; exact .inr (.inl ⟨_,rfl,rfl⟩)
 · rename_i x y t; have e:y=x:=by simpa using h
   subst e; exact .inr (.inr (.inr ⟨_,_,rfl,rfl⟩))
 · cases h
def Ei (w:C_):Mx→Int
 | none=>reduceHash 0xFCA86420
 | some (.inl i)=>hashInt i
 | some (.inr x)=>hashStr w x
def mxKind (prog:rl) (w:C_):KeyKind prog w Mx where
 is:=mxIs
 hash:=Ei w
 inj:=fun v a b ha hb=>by
  rcases fD ha with ⟨rfl,rfl⟩ | ⟨c,rfl,rfl⟩ | ⟨i,t,rfl,rfl⟩ | ⟨x,t,rfl,rfl⟩ <;> rcases fD hb with ⟨rfl,h⟩ | ⟨c',rfl,h⟩ | ⟨i',t',rfl,h⟩ | ⟨x',t',rfl,h⟩ <;> first | rfl | (cases h; rfl) | cases h
 byValue:=fun k v h=>by
  rcases fD h with ⟨rfl,rfl⟩ | ⟨c,rfl,rfl⟩ | ⟨i,t,rfl,rfl⟩ | ⟨x,t,rfl,rfl⟩ <;> rfl
 pyHash:=fun {A E s k v Q} hv h=>by
  rcases fD hv with ⟨rfl,rfl⟩ | ⟨c,rfl,rfl⟩ | ⟨i,t,rfl,rfl⟩ | ⟨x,t,rfl,rfl⟩
  · exact Q2 (T:="NoneType") rfl F.slot_NoneType_hash F.entry_NoneType_hash (F.args_NoneType_hash_1 _) (beq_builtin_none _) (.inl rfl) (c_ (j_ (c_ (Sj (j_ ⟨_,_,rfl,h⟩)))))
  · refine Q2 (T:="bool") rfl F.slot_bool_hash entry_int_hash (args_int_hash _) (beq_builtin_none _) (.inl rfl) ?_;cases c
    · exact (show v_ _ _ (do ret (← mkInt 0)) _ _ s from c_ (Sj (j_ ⟨_,_,rfl,(show reduceHash 0=hashInt (bi e_) by kernel_rfl) ▸ h⟩)))
    · exact (show v_ _ _ (do ret (← mkInt 1)) _ _ s from c_ (Sj (j_ ⟨_,_,rfl,(show reduceHash 1=hashInt (bi d_) by kernel_rfl) ▸ h⟩)))
  · exact wpAny_pyHash_int h
  · exact wpAny_pyHash_str h
 eqBool:=fun {A E s a b u v Q} hu hv h=>by
  rcases fD hu with ⟨rfl,rfl⟩ | ⟨c,rfl,rfl⟩ | ⟨i,t,rfl,rfl⟩ | ⟨x,t,rfl,rfl⟩ <;> rcases fD hv with ⟨rfl,rfl⟩ | ⟨c',rfl,rfl⟩ | ⟨i',t',rfl,rfl⟩ | ⟨x',t',rfl,rfl⟩
  · exact Sv _ prog w E Q (by simpa using h)
  · exact QJ _ prog w E Q (by simpa using h)
  · exact Q8 _ _ prog w E Q (by simpa using h)
  · exact Q7 _ _ prog w E Q (by simpa using h)
  · exact QK _ prog w E Q (by simpa using h)
  · exact QL _ _ prog w E Q (by revert h; cases c <;> cases c' <;> exact id)
  · exact Rb _ _ _ prog w E Q (by rw [show ((if c=d_ then 1 else 0) == i')=u_ ((a_ (.inl (bi c)):Mx)=a_ (.inl i')) from by simp [bi,Nm]]; exact h)
  · exact Ra _ _ _ prog w E Q (by simpa using h)
  · exact Q9 _ _ prog w E Q (by simpa using h)
  · exact Q_ _ _ _ prog w E Q (by rw [show (i == (if c'=d_ then 1 else 0))=u_ ((a_ (.inl i):Mx)=a_ (.inl (bi c'))) from by simp [bi,Nm]]; exact h)
  · exact Rw _ _ _ _ prog w E Q (by rw [show (i == i')=u_ ((a_ (.inl i):Mx)=a_ (.inl i')) from by simp [Nm]]; exact h)
  · exact Pc _ _ _ _ prog w E Q (by simpa using h)
  · exact Q5 _ _ prog w E Q (by simpa using h)
  · exact Q6 _ _ _ prog w E Q (by simpa using h)
  · exact Pb _ _ _ _ prog w E Q (by simpa using h)
  · exact Rv _ _ _ _ prog w E Q (by rw [show (x == x')=u_ ((a_ (.inr x):Mx)=a_ (.inr x')) from by simp [Nm]]; exact h)
 «strs»:=fun k x t v h=>by
  rcases fD h with ⟨rfl,h2⟩ | ⟨c,rfl,h2⟩ | ⟨i,t,rfl,h2⟩ | ⟨x',t',rfl,h2⟩
  · cases h2
  · cases h2
  · cases h2
  · injection h2 with h1 _;subst h1;cases v <;> rfl
end SM
namespace SM
open PySem PySem.SetTable ST
section
variable {prog:rl} {w:C_} {A:E_} {E:g_→h_→Prop} {s:h_}
abbrev TK (prog:rl) (w:C_) (h:KO) (k:List Mx) (a:l_):Prop:=IsTupleKey (mxKind prog w) h k a
abbrev hsh (prog:rl) (w:C_) (k:List Mx):Int:=tupleKeyHash (mxKind prog w) k
theorem gY {k:List Mx} {vs:List g_} (h:ItemsAre (mxKind prog w) k vs):∀ v∈vs,Sc v:=by
 induction h with
 | nil=>intro v hv; simp at hv
 | @cons k' v' ks vs h1 _ ih =>
  intro v hv;rcases s_.mp hv with rfl | hv
  · rcases fD h1 with ⟨_,rfl⟩ | ⟨_,_,rfl⟩ | ⟨_,_,_,rfl⟩ | ⟨_,_,_,rfl⟩
    · exact .inl rfl
    · exact .inr (.inl ⟨_,rfl⟩)
    · exact .inr (.inr (.inl ⟨_,_,rfl⟩))
    · exact .inr (.inr (.inr ⟨_,_,rfl⟩))
  · exact ih v hv
theorem kq {k:List Mx} {a:l_} {Q:Bool→h_→Prop} (hk:TK prog w s.heap k a) (h:Q e_ s):v_ (F_ prog w) A (N7 8 (.ref a)) Q E s:=by
 have hT:=hk.typeIs;obtain ⟨o,items,n,ho,_,hd,hi⟩:=hk;unfold N7;refine c_ (N4 hT ?_);show v_ _ _ ((if ("tuple" == "tuple")=d_ then pure d_ else isSubtype (.type "tuple") (.type "tuple")) >>= _) _ _ s;rw [if_pos (by decide)];refine c_ (j_ ?_);simp only [LM,p_,if_false];refine c_ (LJ ho hd ?_);refine c_ ?_;show v_ _ _ (S2 items _ _) _ _ s;rw [← Mt];refine MR _ (fun rest r s'=>r.1=ck∧s'=s∧∀ v∈rest,Sc v) _ ?_ ?_ _ _ ⟨rfl,rfl,gY hi⟩
 · rintro v rest r s' ⟨hr,rfl,hall⟩;rcases hall v on with rfl | ⟨_,rfl⟩ | ⟨_,_,rfl⟩ | ⟨_,_,rfl⟩
   all_goals
    refine c_ (j_ ?_);simp only [p_,if_false];exact j_ ⟨rfl,rfl,fun u hu'=>hall u (n_ _ hu')⟩
 · rintro ⟨r1,r2⟩ s' ⟨hr,rfl,_⟩;simp only at hr;subst hr;exact j_ h
theorem ul {k:List Mx} {b:l_} (hk:TK prog w s.heap k b) {l:List g_} (hl:∀ v∈l,∃ k' a,v=.ref a∧TK prog w s.heap k' a) {Q:Bool→h_→Prop} (h:Q e_ s):v_ (F_ prog w) A (N6 (.ref b) l) Q E s:=by
 unfold N6;refine c_ ?_;refine MR _ (fun rest r s'=>r.1=ck∧s'=s∧∀ v∈rest,∃ k' a,v=q_ a∧TK prog w s.heap k' a) _ ?_ ?_ _ _ ⟨rfl,rfl,hl⟩
 · rintro v rest r s' ⟨hr,rfl,hall⟩;obtain ⟨k',a,rfl,ha⟩:=hall v on;have hrest:∀ v∈rest,∃ k' a,v=q_ a∧TK prog w s'.heap k' a:=fun u hu'=>hall u (n_ _ hu');dsimp only;split
   · exact j_ ⟨rfl,rfl,hrest⟩
   · refine c_ (Ni hk ?_);simp only [LM,p_,if_false];refine c_ (Ni ha ?_);simp only [LM,p_,if_false];refine c_ (kq hk ?_);simp only [p_,if_false];refine c_ (kq ha ?_);simp only [p_,if_false];exact j_ ⟨rfl,rfl,hrest⟩
 · rintro ⟨r1,r2⟩ s' ⟨hr,rfl,_⟩;simp only at hr;subst hr;exact j_ h
def Ent (prog:rl) (w:C_) (h:KO) (ks:List (List Mx)) (es:List (Int×g_)):Prop:=∀ e∈es,∃ k a,k∈ks∧e.2=.ref a∧TK prog w h k a
theorem gy {t:SetTable} {n:Nat} (T:Tb t n):t.fits n=d_:=by
 unfold S4 Pz;rw [T.size,T.dm];simp [T.room]
theorem kr {S b:l_} {o:Obj} {es:Array (Int×g_)} {ep:Nat} {t:SetTable} {ks:List (List Mx)} {k:List Mx} {h:Int} {adding:Bool} {Q:SetFound→h_→Prop} (hu:A.units < cLine)
 (ho:s.heap.get? S=a_ o) (hd:o.data=.set es ep t) (T:Tb t es.size) (hm:t.mask % 2=1) (hE:Ent prog w s.heap ks es.toList) (hx:TK prog w s.heap k b) (hk:k ∉ ks) :
 ∀ (N fuel:Nat) (st:Option Probe),(∀ p,st=a_ p→Vp t p)→N < fuel→t.slot (advN t N (st.getD (t.probeStart h))).j=.empty→(∀ m,m < N→t.slot (advN t m (st.getD (t.probeStart h))).j≠.empty)→N < 10 * Qj t.mask →
  (∀ j,Q (.free j e_) s)→v_ (F_ prog w) A (ML S (.ref b) h adding fuel st) Q E s:=by
 intro N
 induction N using Nat.strongRecOn with
 | _ N ih =>
  intro fuel st hv hf he hn hN hQ;cases fuel with
  | zero=>exact absurd hf (Nc _)
  | succ fuel =>
   have hfit:=gy T;have v:Vp t (st.getD (t.probeStart h)):=by
    cases st with
    | none=>exact l3 h
    | some p=>exact hv p rfl
   unfold ML;refine c_ (Lx ho hd hfit ?_);dsimp only;have hgw:t.gaveWay=e_:=by unfold R7; rw [hm]; rfl
   rw [hgw];simp only [p_,if_false];unfold SX;rcases ug T _ h N _ (st.getD (t.probeStart h)) v hN he hn with q | ⟨m,i,hmN,q1,q2,q3,q5⟩
   · rw [q];dsimp only;exact j_ (hQ _)
   · rw [q5];dsimp only;have hi:i < es.size:=by
      have:=(Lo.mp q2).1;rw [T.size] at this;exact this
     obtain ⟨k',a,hk',ea,ta⟩:=hE es[i] (LB.mpr (RY hi));have hg:es[i]?=a_ (es[i].1,.ref a):=by rw [Pp hi,← ea]
     have rest:v_ (F_ prog w) A (do
      let a_ (_,y):=es[i]? | NV "internal:set-entry"
      let equal ← N8 [y] (eqBool y (.ref b))
      let (es',_,t') ← setState S
      if (adding && equal)=d_ then return SZ ck
      let a_ same:=t'.sameMemory t.moves t.mask | NV "set.changed-during-lookup:is-the-new-block-at-the-old-address"
      let still ← match (if same then t'.slot (advN t m (st.getD (t.probeStart h))).j else .empty) with
       | .live i'=>match es'[i']? with
        | some (_,y')=>do pure (if ← SI y' y then a_ i' else ck)
        | none=>pure ck
       | _=>pure ck
      match still with
      | none=>rule "set.search.anew"; ML S (.ref b) h adding fuel ck
      | some i'=>if equal then return .there (a_ i') else ML S (.ref b) h adding fuel (a_ (advN t (m + 1) (st.getD (t.probeStart h))))) Q E s:=by
      rw [hg];dsimp only;refine c_ (Lp (wpAny_eqBool_tuple hu ta hx ?_));have hne:u_ (k'=k)=e_:=decide_eq_false fun z=>hk (z ▸ hk');rw [hne];refine c_ (Lx ho hd hfit ?_);dsimp only;rw [Op];simp only [p_,if_false];have hsm:t.sameMemory t.moves t.mask=a_ d_:=by unfold Q4; simp
      rw [hsm];dsimp only;rw [if_pos rfl,q1];dsimp only;rw [hg];dsimp only;have hsame:SI (q_ a) (q_ a)=pure d_:=by
       unfold SI;dsimp only;rw [if_pos (by simp)]
      rw [hsame];refine c_ (c_ (j_ (j_ ?_)));rw [if_pos rfl];refine ih (N - (m + 1)) (by omega) fuel (a_ (advN t (m + 1) (st.getD (t.probeStart h)))) (fun p hp=>by cases hp; exact Vp.advN (m + 1) v) (by omega) ?_ ?_ (by omega) hQ
      · show t.slot (advN t (N - (m + 1)) (advN t (m + 1) (st.getD (t.probeStart h)))).j=.empty;rw [← gu,show m + 1 + (N - (m + 1))=N by omega];exact he
      · intro x hx';show t.slot (advN t x (advN t (m + 1) (st.getD (t.probeStart h)))).j≠.empty;rw [← gu];exact hn _ (by omega)
     by_cases hled:t.led=d_
     · rw [hled];simp only [LM,p_,if_false];exact rest
     · have hled':t.led=e_:=by simpa using hled
       rw [hled'];simp only [Ms,if_true];refine c_ (ul hx (fun v hv=>?_) ?_)
       · obtain ⟨e,he',rfl⟩:=KY.mp hv;have hem:e∈es.toList:=by
          have:=LB.mp he';rw [Sh] at this;exact LB.mpr this.1
         obtain ⟨k2,a2,_,e2,t2⟩:=hE e hem;exact ⟨k2,a2,e2,t2⟩
       · simp only [p_,if_false];exact rest
end
section
variable {prog:rl} {w:C_} {A:E_} {E:g_→h_→Prop} {s:h_}
abbrev byT (w:C_):Bool:=w.params.followText "set-order"
def NE (_:List Mx):Prop:=False
def SetT (prog:rl) (w:C_) (h:KO) (S:l_) (ks:List (List Mx)) (vs:List g_) (n:Nat):Prop :=
 ∃ o es ep t,h.get? S=a_ o∧o.ExactSet∧o.data=.set es ep t∧es.size=n∧Tb t n∧((t.mask=7∧n≤4)∨(t.mask=31∧n≤18))∧Ent prog w h ks es.toList∧(es.toList.map (·.2)).Perm vs∧t.led=(!byT w)∧((∀ k∈ks,NE k)→n≠0→t.plain=e_)
theorem iH {k:List Mx} {a:l_} {Q:Bool→h_→Prop} (hk:TK prog w s.heap k a) (h:∀ b,(NE k→b=e_)→Q b s):v_ (F_ prog w) A (QD 8 (.ref a)) Q E s:=by
 have hT:=hk.typeIs;obtain ⟨o,items,n,ho,_,hd,hi⟩:=hk;unfold QD;refine c_ (wpAny_specialOf hT F.slot_tuple_hash.lookup ?_);dsimp only;refine c_ (LJ ho hd ?_);refine c_ ?_;show v_ _ _ (S2 items _ _) _ _ s;rw [← Mt];refine MR _ (fun rest r s'=>r.1=ck∧s'=s∧(∀ v∈rest,Sc v)) _ ?_ ?_ _ _ ⟨rfl,rfl,gY hi⟩
 · rintro v rest r s' ⟨hr,rfl,hall⟩;have hr':∀ u∈rest,Sc u:=fun u hu'=>hall u (n_ _ hu');rcases hall v on with rfl | ⟨_,rfl⟩ | ⟨_,_,rfl⟩ | ⟨_,_,rfl⟩
   · refine c_ (j_ ?_);simp only [LM,p_,if_false];exact j_ ⟨rfl,rfl,hr'⟩
   · refine c_ (j_ ?_);simp only [LM,p_,if_false];exact j_ ⟨rfl,rfl,hr'⟩
   · refine c_ (j_ ?_);simp only [LM,p_,if_false];exact j_ ⟨rfl,rfl,hr'⟩
   · refine c_ (j_ ?_);simp only [Ms,if_true];refine j_ ?_;exact j_ (h _ fun z=>z.elim)
 · rintro ⟨r1,r2⟩ s' ⟨hr,rfl,_⟩;simp only at hr;subst hr;exact j_ (h _ fun z=>z.elim)
theorem TK.keeps {h h':KO} {k:List Mx} {a S:l_} {o:Obj} {es ep t} (x:TK prog w h k a) (ho:h.get? S=a_ o) (hd:o.data=.set es ep t) (hs:ME S h h'):TK prog w h' k a:=by
 obtain ⟨o',items,n,ho',hc,hd',hi⟩:=x;have hne:a≠S:=by
  rintro rfl;obtain rfl:o'=o:=KZ (ho'.symm.trans ho);rw [hd] at hd'; exact nomatch hd'
 exact ⟨o',items,n,(hs.2 a hne).trans ho',hc,hd',hi⟩
theorem Ent.keeps {h h':KO} {ks:List (List Mx)} {l:List (Int×g_)} {S:l_} {o:Obj} {es ep t} (x:Ent prog w h ks l) (ho:h.get? S=a_ o) (hd:o.data=.set es ep t) (hs:ME S h h'):Ent prog w h' ks l:=fun e he=>by
 obtain ⟨k,a,h1,h2,h3⟩:=x e he;exact ⟨k,a,h1,h2,h3.keeps ho hd hs⟩
theorem g7 {h:KO} {S:l_} {o:Obj} {es es':Array (Int×g_)} {ep:Nat} {t t':SetTable} (ho:h.get? S=a_ o) (hd:o.data=.set es ep t):(h.update S (Mm es' t')).get? S=a_ { o with data:=.set es' (ep + 1) t' }:=by
 have:=Nj (Mm es' t') ho (by rw [R0 es' t' hd]; rfl);rw [R0 es' t' hd] at this; exact this
theorem Ent.insert {h:KO} {ks:List (List Mx)} {es:Array (Int×g_)} {k:List Mx} {b:l_} {p:Nat} {x:Int} (hE:Ent prog w h ks es.toList) (hb:TK prog w h k b):Ent prog w h (k :: ks) (uk es p (x,.ref b)).toList:=fun e he=>by
 have he':=(M6 es p (x,q_ b)).mem_iff.mp he;rw [Oq] at he';rcases D_.mp he' with q | q
 · obtain ⟨k',a,h1,h2,h3⟩:=hE e q;exact ⟨k',a,n_ _ h1,h2,h3⟩
 · rw [KN] at q;subst q;exact ⟨k,b,on,rfl,hb⟩
theorem ku {t:SetTable} {n:Nat} (T:Tb t n):t.fill=n:=by unfold Pz; rw [T.size,T.dm]; simp
theorem fV {n:Nat} (h:n≤18):n≤sizeLine:=by rw [Nt]; omega
theorem l4 {α:Type} (es:Array α):(o_ es.size).filterMap (fun i=>es[i]?)=es.toList:=by
 apply RV;intro i;have:(o_ es.size).filterMap (fun i=>es[i]?)=(o_ es.size).pmap (fun i h=>es[i]) (fun i h=>Lk.mp h):=by
  rw [PU,← Qu]
  conv=>lhs; rw [← O2 (o_ es.size)]
  rw [NU];congr 1;funext ⟨i,hi⟩;simp [Lk.mp hi]
 rw [this];simp [RD,NN];by_cases hi:i < es.size
 · simp [hi]
 · simp [hi]
theorem o6 {m finger moves:Nat} {led plain:Bool} {hs:Array Int} {t:SetTable} {order:Array Nat} (e:laid m finger moves led plain hs=a_ (t,order)):t.led=led∧t.plain=plain:=by
 unfold laid at e;cases hc:SY m hs with
 | none=>rw [hc] at e; cases e
 | some o=>rw [hc] at e; cases e; exact ⟨rfl,rfl⟩
theorem um {S b:l_} {ks:List (List Mx)} {vs:List g_} {n:Nat} {k:List Mx} {Q:Bool→h_→Prop} (hu:A.units < cLine) (hS:SetT prog w s.heap S ks vs n) (hx:TK prog w s.heap k b) (hk:k ∉ ks) (hn:n + 1≤18)
 (h:∀ h',ME S s.heap h'→SetT prog w h' S (k :: ks) (.ref b :: vs) (n + 1)→Q d_ { s with heap:=h' }):v_ (F_ prog w) A (P0 S (.ref b) (hsh prog w k)) Q E s:=by
 obtain ⟨o,es,ep,t,ho,hex,hd,hsz,T,hm,hE,hpm,hled,hpl0⟩:=hS;have hfit:=gy T;have hfit':t.fits es.size=d_:=by rw [hsz]; exact hfit
 have hodd:t.mask % 2=1:=by rcases hm with ⟨e,_⟩ | ⟨e,_⟩ <;> rw [e]
 have hroom:n + 1≤t.mask:=by rcases hm with ⟨e,q⟩ | ⟨e,q⟩ <;> omega
 unfold P0 setAddHashedIn;refine Lp (c_ (Lx ho hd hfit' ?_));dsimp only;have hbs:byScan (q_ b) es=e_:=by unfold byScan; rfl
 rw [hbs];simp only [p_,if_false];unfold setSearch;obtain ⟨N,h1,h2,h3⟩:=yx T (l3 (t:=t) (hsh prog w k));have hmk:t.mask≤31:=by rcases hm with ⟨e,_⟩ | ⟨e,_⟩ <;> omega
 refine c_ (kr (ks:=ks) hu ho hd (by rw [hsz]; exact T) hodd hE hx hk N 100000 ck (fun p hp=>by cases hp) (by unfold Qj at h1; omega) h2 h3 h1 fun j=>?_);dsimp only;refine c_ (Lx ho hd hfit' ?_);dsimp only;obtain ⟨P1,P2,P3,P4,P5⟩:=yz T hroom j;have hpm1:((uk es (t.put j).2 (hsh prog w k,q_ b)).toList.map (·.2)).Perm (.ref b :: vs):=by
  refine ((M6 es (t.put j).2 (hsh prog w k,q_ b)).map (·.2)).trans ?_;rw [Oq,LP];exact (hpm.append_right _).trans (NA _ _)
 have go:∀ bv:Bool,((∀ x∈k :: ks,NE x)→(if bv then (t.put j).1 else { (t.put j).1 with plain:=e_ }).plain=e_)→v_ (F_ prog w) A (do
  SG S (uk es (t.put j).2 (hsh prog w k,.ref b)) (if bv then (t.put j).1 else { (t.put j).1 with plain:=e_ })
  if (!e_ && (if bv then (t.put j).1 else { (t.put j).1 with plain:=e_ }).tooFull)=d_ then SH S (Ny (es.size + 1))
  return d_) Q E s:=by
  intro bv hbv;have T2:∃ t2,(if bv then (t.put j).1 else { (t.put j).1 with plain:=e_ })=t2∧Tb t2 (n + 1)∧t2.mask=t.mask∧t2.led=t.led:=by
   cases bv with
   | true=>exact ⟨_,rfl,P1,P3,rfl⟩
   | false=>exact ⟨_,rfl,⟨P1.size,P1.dm,P1.cyc,P1.room⟩,P3,rfl⟩
  obtain ⟨t2,e2,T2,M2,L2⟩:=T2;rw [e2] at hbv ⊢;have hsz2:(uk es (t.put j).2 (hsh prog w k,q_ b)).size=n + 1:=by
   rw [gx _ _ _ (by rw [hsz]; exact P2),hsz]
  refine c_ (N5 ho hd ?_ (by rw [hsz2]; exact fV hn));have hsb:=Mh s.heap S (Mm (uk es (t.put j).2 (hsh prog w k,q_ b)) t2);have hg:=g7 (es':=uk es (t.put j).2 (hsh prog w k,q_ b)) (t':=t2) ho hd;have hE2:Ent prog w (s.heap.update S (Mm (uk es (t.put j).2 (hsh prog w k,q_ b)) t2)) (k :: ks) (uk es (t.put j).2 (hsh prog w k,q_ b)).toList:=(hE.insert hx).keeps ho hd hsb;by_cases hf:t2.tooFull=d_
  · rw [hf];simp only [Ms,Rr,if_true];have hfl:t2.fill * 5 ≥ t2.mask * 3:=by unfold Ow at hf; simpa using hf
    rw [ku T2,M2] at hfl;have h5:n + 1=5∧t.mask=7:=by rcases hm with ⟨e,q⟩ | ⟨e,q⟩ <;> rw [e] at hfl <;> omega
    have hn4:n=4:=by omega
    unfold SH;refine c_ (c_ (Lx hg rfl (by rw [hsz2]; exact gy T2) ?_));dsimp only;rw [hsz,hn4];rw [if_neg (by rw [Nt]; decide)];have hrl:t2.relaid ((uk es (t.put j).2 (hsh prog w k,q_ b)).map (·.1)) (Ny (4 + 1))=laid 31 t2.finger (t2.movedTo 31) t2.led t2.plain ((uk es (t.put j).2 (hsh prog w k,q_ b)).map (·.1)):=by
     unfold Su;rw [show sizeAbove (Ny (4 + 1)) - 1=31 by decide]
    obtain ⟨t3,order,r1,r2,r3,r4,r5,r6,r7⟩:=uj (finger:=t2.finger) (moves:=t2.movedTo 31) (led:=t2.led) (plain:=t2.plain) DM ((uk es (t.put j).2 (hsh prog w k,q_ b)).map (·.1)) (by rw [MZ,hsz2]; omega);have r8:t3.led=t2.led∧t3.plain=t2.plain:=o6 r1;rw [hrl,r1];rw [MZ,hsz2] at r6 r7;have hperm:(order.filterMap (fun i=>(uk es (t.put j).2 (hsh prog w k,q_ b))[i]?)).toList.Perm (uk es (t.put j).2 (hsh prog w k,q_ b)).toList:=by
     rw [Qf];refine (r7.filterMap _).trans ?_;rw [← hsz2,l4]
    have hsz3:(order.filterMap (fun i=>(uk es (t.put j).2 (hsh prog w k,q_ b))[i]?)).size=n + 1:=by
     rw [← K4,hperm.length_eq,K4,hsz2]
    show v_ (F_ prog w) A ((if ((order.filterMap (fun i=>(uk es (t.put j).2 (hsh prog w k,q_ b))[i]?)).size != (uk es (t.put j).2 (hsh prog w k,q_ b)).size)=d_ then (NV "internal:set-table-lost-an-element":Sem _) else pure (order.filterMap (fun i=>(uk es (t.put j).2 (hsh prog w k,q_ b))[i]?),t3)) >>= fun x=>SG S x.1 x.2) _ _ _;rw [if_neg (by rw [hsz3,hsz2]; simp)];refine c_ (j_ ?_);refine N5 hg rfl ?_ (by rw [hsz3]; exact fV hn);have hsb2:=Mh (s.heap.update S (Mm (uk es (t.put j).2 (hsh prog w k,q_ b)) t2)) S (Mm (order.filterMap (fun i=>(uk es (t.put j).2 (hsh prog w k,q_ b))[i]?)) t3);refine j_ (h _ (hsb.trans hsb2) ⟨_,_,_,t3,g7 hg rfl,hex,rfl,hsz3,r6,.inr ⟨r2,hn⟩,?_,(hperm.map (·.2)).trans hpm1,r8.1.trans (L2.trans hled),fun z _=>r8.2.trans (hbv z)⟩);have hE3:=hE2.keeps hg rfl hsb2;exact fun e he=>hE3 e (hperm.mem_iff.mp he)
  · have hf':t2.tooFull=e_:=by simpa using hf
    rw [hf'];simp only [Ms,Op,p_,if_false];have hfl:¬ (t2.fill * 5 ≥ t2.mask * 3):=by unfold Ow at hf'; simpa using hf'
    rw [ku T2,M2] at hfl;refine j_ (h _ hsb ⟨_,_,_,t2,hg,hex,rfl,hsz2,T2,?_,hE2,hpm1,L2.trans hled,fun z _=>hbv z⟩);rw [M2];rcases hm with ⟨e,q⟩ | ⟨e,q⟩
    · exact .inl ⟨e,by omega⟩
    · exact .inr ⟨e,hn⟩
 cases hpl:(t.put j).1.plain with
 | true =>
  simp only [if_true];refine c_ (iH hx fun bv hb=>?_);refine go bv fun z=>?_;rw [hb (z k on)];rfl
 | false =>
  simp only [p_,if_false];refine c_ (j_ ?_);exact go d_ fun _=>hpl
end
end SM
namespace SM
open PySem PySem.SetTable PyProof.Rows
section
variable {prog:rl} {w:C_} {A:E_} {R:QM→h_→Prop} {I:l_} {fp wr:List l_} {G:Array Oc→Array Oc→Prop} {n:Nat} {P:Nat→g_→Prop} {St:Nat→h_→Prop}
theorem TK.moved {h h':KO} {k:List Mx} {a:l_} (x:TK prog w h k a) (hm:∀ o,h.get? a=a_ o→h'.get? a=a_ o):TK prog w h' k a:=by
 obtain ⟨o',items,n,ho',hc,hd',hi⟩:=x;exact ⟨o',items,n,hm _ ho',hc,hd',hi⟩
theorem SetT.moved {h h':KO} {S:l_} {ks:List (List Mx)} {vs:List g_} {n:Nat} (x:SetT prog w h S ks vs n) (hS:∀ o,h.get? S=a_ o→h'.get? S=a_ o) (hm:∀ k∈ks,∀ a,TK prog w h k a→TK prog w h' k a):SetT prog w h' S ks vs n:=by
 obtain ⟨o,es,ep,t,ho,hex,hd,hsz,T,hmk,hE,hr⟩:=x;exact ⟨o,es,ep,t,hS _ ho,hex,hd,hsz,T,hmk,fun e he=>let ⟨k,a,h1,h2,h3⟩:=hE e he; ⟨k,a,h1,h2,hm k h1 a h3⟩,hr⟩
theorem z0 (W:WalksS prog w A.in1 I fp wr G n P St) (S:l_) (hSf:S ∉ fp) (hu:A.in1.units < cLine) (hwr:wr=[I]) (hI:∀ i s,St i s→∃ o vs,s.heap.get? I=a_ o∧o.data=.fields vs)
 (adr:Nat→l_) (key:Nat→List Mx) (hval:∀ i v,P i v→v=.ref (adr i)) (hn:n≤18) (hdist:∀ i j,i < n→j < n→key i=key j→i=j) :
 ∀ (k i:Nat) (s:h_),n - i=k→i≤n→St i s→(∀ j,j < n→TK prog w s.heap (key j) (adr j)) →
  SetT prog w s.heap S (((o_ i).map key).reverse) (((o_ i).map fun j=>q_ (adr j)).reverse) i →
  (∀ s',Moved (S :: wr) G s s'→SetT prog w s'.heap S (((o_ n).map key).reverse) (((o_ n).map fun j=>q_ (adr j)).reverse) n→R (.ok (.ret .none)) s') →
  NC (F_ prog w) A (.builtin "set.update.loop" ⟨[.ref S,.ref I],[]⟩) R s:=by
 have hSw:S ∉ wr:=fun h=>hSf (W.sub _ h);have hsub:∀ b∈wr,b∈S :: wr:=fun b hb=>n_ _ hb;have notI:∀ {i:Nat} {s:h_} {k:List Mx} {a:l_},St i s→TK prog w s.heap k a→a ∉ wr:=fun {i s k a} hst x hm=>by
  rw [hwr,KN] at hm;subst hm;obtain ⟨o',items,n,ho',hc,hd',hi⟩:=x;obtain ⟨o,vs,ho,hd⟩:=hI _ _ hst;rw [ho] at ho';cases ho';rw [hd] at hd';cases hd'
 intro k
 induction k with
 | zero =>
  intro i s hk hi hst hT hS hR;have hin:i=n:=by omega
  subst hin;refine LN MV ?_;rw [Md LV _];show v_ _ A.in1 (Pw (.ref I) >>= _) _ _ s;refine c_ (W.done s _ _ hst fun s' hm=>?_);show v_ _ A.in1 (ret KW) _ _ s';exact j_ (hR s' (hm.mono hsub) (hS.moved (fun o ho=>hm.heap S _ hSw ho) fun k' _ a x=>x.moved fun o ho=>hm.heap a _ (notI hst x) ho))
 | succ k ih =>
  intro i s hk hi hst hT hS hR;have hlt:i < n:=by omega
  refine LN MV ?_;rw [Md LV _];show v_ _ A.in1 (Pw (.ref I) >>= _) _ _ s;refine c_ (W.item i s _ _ hlt hst fun v s' hP hst' hm=>?_);have hv:=hval i v hP;subst hv;have hT':∀ j,j < n→TK prog w s'.heap (key j) (adr j):=fun j hj=>(hT j hj).moved fun o ho=>hm.heap _ _ (notI hst (hT j hj)) ho;have hS':SetT prog w s'.heap S (((o_ i).map key).reverse) (((o_ i).map fun j=>q_ (adr j)).reverse) i:=hS.moved (fun o ho=>hm.heap S _ hSw ho) fun k' _ a x=>x.moved fun o ho=>hm.heap a _ (notI hst x) ho;show v_ _ A.in1 (N8 [q_ (adr i)] (setAdd S (.ref (adr i))) >>= _) _ _ s';refine c_ (Lp ?_);unfold setAdd;refine Lp ?_;refine c_ (wpAny_pyHash_tuple hu (hT' i hlt) ?_);have hnew:key i ∉ ((o_ i).map key).reverse:=fun hm=>by
   rw [Sf] at hm;obtain ⟨j,hj,e⟩:=KY.mp hm;have hj':=Lk.mp hj;have:=hdist j i (by omega) hlt e;omega
  refine um (s:={ s' with toks:=s'.toks + ((key i).length + 1) }) hu hS' (hT' i hlt) hnew (by omega) fun h' hsb hS2=>?_;obtain ⟨oS,esS,epS,tS,hoS,_,hdS,_⟩:=hS';have hS3:SetT prog w h' S (((o_ (i + 1)).map key).reverse) (((o_ (i + 1)).map fun j=>q_ (adr j)).reverse) (i + 1):=by
   rw [Qk,LP,NM,LP,NM];exact hS2
  refine j_ ⟨Px LV _,ih (i + 1) _ (by omega) hlt (W.frame _ s' _ _ hst' (by simp) fun b hb o e=>?_) (fun j hj=>(hT' j hj).keeps hoS hdS hsb) hS3 fun s'' hm'' hS''=>?_⟩
  · rw [hsb.2 b (fun h:b=S=>hSf (by rw [← h]; exact hb))]; exact e
  · refine hR s'' (Moved.trans W.gtrans ((hm.mono hsub).then_heap (by simp) fun b o hb e=>?_) hm'') hS'';rw [hsb.2 b (fun h:b=S=>hb (by rw [h]; exact on))]; exact e
end
end SM
namespace SM
open PySem PySem.SetTable PyProof.Rows ST
section
variable {prog:rl} {w:C_} {A:E_} {E:g_→h_→Prop} {s:h_}
abbrev i5 (led:Bool):Obj:={ cls:=.type "set",dict:=ck,data:=.set #[] 0 (.fresh 0 0 led) }
theorem o7 {h:KO} {S:l_} (e:h.get? S=a_ (i5 (!byT w))):SetT prog w h S [] [] 0 :=
 ⟨_,#[],0,_,e,⟨rfl,rfl,rfl⟩,rfl,rfl,⟨rfl,rfl,Jq,K3 _⟩,.inl ⟨rfl,by omega⟩,(fun e he=>by simp at he),.refl _,rfl,fun _ z=>absurd rfl z⟩
theorem o8 (a:g_) {Q₁:g_→h_→Prop} (h:Q₁ (.ref s.heap.objs.size) { s with heap:=s.heap.push (i5 (!byT w)) }):NC (F_ prog w) A (.call (.builtin "set.__new__") ⟨[.type "set",a],[]⟩) (wants Q₁ E) s:=by
 refine OK ?_; show v_ _ A.in1 (do checkBuiltinCall "set.__new__" ⟨[.type "set",a],[]⟩; again (.builtin "set.__new__" ⟨[.type "set",a],[]⟩)) _ _ s
 refine c_ (Si (F.newCall_set_1 a) (j_ ⟨Px ON _,LN F.entry_set_new ?_⟩)); rw [Md ON _];unfold NF.«set.__new__» Pj; have hsub:=sub_set_self; obtain ⟨hp,g,d,tk,os⟩:=s;dsimp only; wp_walk; refine wpAny_askSetting (j_ ?_);dsimp only; simp only [newObj]; exact c_ (Sl (j_ (j_ h)))
theorem uo {l:l_} {items:Array g_} {key:Nat→List Mx} {adr:Nat→l_} {R:QM→h_→Prop} (hh:A.handled=ck) (hu:A.units + 8 < cLine) (hl:s.heap.IsList l items)
 (hk:∀ i,i < items.size→items[i]?=a_ (.ref (adr i))∧TK prog w s.heap (key i) (adr i)) (hn:items.size≤18) (hdist:∀ i j,i < items.size→j < items.size→key i=key j→i=j)
 (hR:∀ (h':KO) (tk:Nat),SetT prog w h' s.heap.objs.size (((o_ items.size).map key).reverse) (((o_ items.size).map fun j=>q_ (adr j)).reverse) items.size→(∀ b o,b < s.heap.objs.size→s.heap.get? b=a_ o→h'.get? b=a_ o)→R (.ok (.ret .none)) { s with heap:=h',toks:=tk }) :
 NC (F_ prog w) A (.call (.builtin "set.__init__") ⟨[.ref s.heap.objs.size,.ref l],[]⟩) R { s with heap:=s.heap.push (i5 (!byT w)) }:=by
 have hS:(s.heap.push (i5 (!byT w))).get? s.heap.objs.size=a_ (i5 (!byT w)):=t_ _ rfl;have hT:Py { s with heap:=s.heap.push (i5 (!byT w)) } (.ref s.heap.objs.size) "set":=⟨_,hS,rfl⟩;refine QE Ls.init.plain F.entry_set_init (check_set_init_1 hT ?_);obtain ⟨ol,hol,hcl,nl,hdl⟩:=hl;obtain ⟨ocls,odict,odata,oslots⟩:=ol;simp only at hcl hdl;subst hcl; subst hdl;have hol':(s.heap.push (i5 (!byT w))).get? l=a_ { cls:=.type "list",dict:=odict,data:=.seq items nl,slots:=oslots }:=i_ _ hol;have s1:=F.sub_list_set;have s2:=QO;have s3:(x_ "list" == x_ "dict")=e_:=by decide
 have hl1:(s.heap.push (i5 (!byT w))).IsList l items:=⟨_,hol',rfl,nl,rfl⟩;unfold NF.«set.__init__» noKeywords OP;generalize hPI:pyIter=PI
 wp_walk
 subst hPI;refine Nn hl1 (c_ (Qw ?_));have hlS:l < s.heap.objs.size:=w_ hol;have hneI:l≠(s.heap.push (i5 (!byT w))).objs.size:=by rw [K8]; exact KP (Nq hlS)
 have hSf:s.heap.objs.size ∉ [(s.heap.push (i5 (!byT w))).objs.size,l]:=by
  rw [K8];simp only [s_,I_,or_false,not_or];exact ⟨KP (Oy _),M9 hlS⟩
 have up:∀ {k:List Mx} {a:l_},TK prog w s.heap k a→TK prog w ((s.heap.push (i5 (!byT w))).push { cls:=.type "list_iterator",data:=.fields #[.ref l,.int 0 0] }) k a:=fun x=>x.moved fun o e=>i_ _ (i_ _ e);refine z0 ((Ru (by simp [hh]) _ l hneI items).toS) s.heap.objs.size hSf (by show A.units + 1 + 1 < cLine; omega) rfl (fun i s' st=>by
  obtain ⟨⟨o,ho,_,hd⟩,_⟩:=st;exact ⟨o,_,ho,hd⟩) adr key (fun i v hv=>?_) hn hdist (items.size - 0) 0 _ (by omega) (K3 _) ⟨⟨_,t_ _ rfl,rfl,rfl⟩,(hl1.push _)⟩ (fun j hj=>up (hk j hj).2) ?_ ?_
 · have hi:i < items.size:=(Lo.mp hv).1;have:=(hk i hi).1;rw [this] at hv;exact (KZ hv).symm
 · exact o7 (i_ _ hS)
 · intro s' hm hS';obtain ⟨h',g',d',tk',os'⟩:=s';have eg:g'=s.gens:=hm.gens;have ed:d'=s.drawn:=hm.drawn;have eo:os'=s.os:=hm.os;subst eg; subst ed; subst eo;show v_ _ _ _ _ _ _;refine j_ ?_;show v_ _ _ (ret KW) _ _ _;refine j_ (hR h' tk' hS' fun b o hb e=>?_);have hb1:b≠s.heap.objs.size:=KP hb;have hb2:b≠(s.heap.push (i5 (!byT w))).objs.size:=by rw [K8]; exact KP (Nq hb)
   exact hm.heap b o (by simp only [s_,I_,or_false,not_or]; exact ⟨hb1,hb2⟩) (i_ _ (i_ _ e))
theorem call_set_T {l:l_} {items:Array g_} {key:Nat→List Mx} {adr:Nat→l_} {Q:g_→h_→Prop} (hh:A.handled=ck) (hu:A.units + 16 < cLine) (hl:s.heap.IsList l items)
 (hk:∀ i,i < items.size→items[i]?=a_ (.ref (adr i))∧TK prog w s.heap (key i) (adr i)) (hn:items.size≤18) (hdist:∀ i j,i < items.size→j < items.size→key i=key j→i=j)
 (h:∀ (h':KO) (tk:Nat),SetT prog w h' s.heap.objs.size (((o_ items.size).map key).reverse) (((o_ items.size).map fun j=>q_ (adr j)).reverse) items.size→(∀ b o,b < s.heap.objs.size→s.heap.get? b=a_ o→h'.get? b=a_ o)→Q (.ref s.heap.objs.size) { s with heap:=h',toks:=tk }) :
 v_ (F_ prog w) A (call (.type "set") [.ref l]) Q E s:=by
 obtain ⟨c,tl,hmro⟩:=Ls.mro;have hmade:=Ls.made;have hsub:=Ls.sub;refine Rt (OK ?_);show v_ _ _ (callAny (.type "set") _) _ _ _;refine j_ ⟨Pf _ (by decide +kernel),LN F.entry_type_call ?_⟩;rw [RC (Qq "set" [.ref l] []) rfl];have h1:=Ls.notType;have h2:=Ls.canCreate;have hct:=F.typeCall_set_1 (.ref l)
 repeat (any_goals (first | assumption | wp_step))
 refine M1 (o8 (.ref l) (E:=E) (Q₁:=fun obj s₁=>obj=.ref s.heap.objs.size∧s₁={ s with heap:=s.heap.push (i5 (!byT w)) }) ⟨rfl,rfl⟩) fun r s₁ hr=>?_;cases r with
 | error e=>exact hr
 | ok fl =>
  cases fl with
  | ret obj =>
   obtain ⟨rfl,rfl⟩:=hr;have hT:Py { s with heap:=s.heap.push (i5 (!byT w)) } (.ref s.heap.objs.size) "set":=⟨_,t_ _ rfl,rfl⟩;have hli:=Ls.init.lookup;have hbi:=Ls.init.bind (.ref s.heap.objs.size)
   repeat (any_goals (first | assumption | wp_step))
   refine M1 (uo (R:=wants (fun r s₂=>r=.none∧∃ h' tk,s₂={ s with heap:=h',toks:=tk }∧SetT prog w h' s.heap.objs.size (((o_ items.size).map key).reverse) (((o_ items.size).map fun j=>q_ (adr j)).reverse) items.size ∧
    (∀ b o,b < s.heap.objs.size→s.heap.get? b=a_ o→h'.get? b=a_ o)) E) (by simp [hh]) (by show A.units + 1 + 8 < cLine; omega) hl hk hn hdist fun h' tk q1 q2=>⟨rfl,h',tk,rfl,q1,q2⟩) fun r₂ s₂ hr₂=>?_
   cases r₂ with
   | error e=>exact hr₂
   | ok fl₂ =>
    cases fl₂ with
    | ret r =>
     obtain ⟨rfl,h',tk,rfl,hS',hk'⟩:=hr₂
     repeat (any_goals (first | assumption | wp_step))
     exact h _ _ hS' hk'
    | _=>exact hr₂.elim
  | _=>exact hr.elim
theorem len_T {S:l_} {ks:List (List Mx)} {vs:List g_} {n:Nat} {Q:g_→h_→Prop} (hS:SetT prog w s.heap S ks vs n) (hn:n≤18) (h:∀ t tk,Q (.int n t) { s with toks:=tk }):v_ (F_ prog w) A (call (.builtin "len") [.ref S]) Q E s:=by
 obtain ⟨o,es,ep,t,ho,hex,hd,hsz,T,hm,hE,hr⟩:=hS;subst hsz;exact call_len_set ho hex hd (gy T) (RG (show ((es.size:Nat):Int)≤18 by omega) (by decide)) (h _ _)
end
end SM
namespace FD
open PySem PySem.Spec PyProof.Rows L2
def Jw:Dv→Option SM.Mx
 | .non=>a_ ck
 | .bl b=>a_ (a_ (.inl (SM.bi b)))
 | .int i=>a_ (a_ (.inl i))
 | .str x=>a_ (a_ (.inr x))
 | _=>ck
def rB:List Dv→Option (List SM.Mx)
 | []=>a_ []
 | d :: r=>match Jw d,rB r with
  | some k,a_ ks=>a_ (k :: ks)
  | _,_=>ck
def pk:List Dv→Option (List (List SM.Mx))
 | []=>a_ []
 | .tup ds :: r=>match rB ds,pk r with
  | some k,a_ ks=>a_ (k :: ks)
  | _,_=>ck
 | _=>ck
def kA:List Dv→Option (Rs Dv)
 | [.lst ds]=>match pk ds with
  | some ks=>if ks.Nodup∧ks.length≤18 then a_ (.ok (.int ks.length)) else ck
  | none=>ck
 | _=>ck
section
variable {X:Cx} {j':List (l_×Obj)} {σ:L2.St} {H:Hp} {s:h_}
theorem nB {prog:rl} {w:C_}:∀ {ds:List Dv} {k:List SM.Mx} {ys:List V} {its:List g_},rB ds=a_ k→Reps X.K H ds ys→Vals ys its→PySem.ItemsAre (SM.mxKind prog w) k its
 | [],k,ys,its,h,r,v=>by
  cases h;cases (show ys=[] from r);cases v;exact .nil
 | d :: ds,k,ys,its,h,r,v=>by
  obtain ⟨y,us,rfl,r1,r2⟩:∃ v us,ys=v :: us∧Rep X.K H d v∧Reps X.K H ds us:=r;unfold rB at h;split at h
  · rename_i m ms h1 h2;cases h;cases v with
    | cons v1 v2 =>
     refine .cons ?_ (nB h2 r2 v2);show SM.mxIs m _=d_;unfold Jw at h1;split at h1
     · cases h1;cases (show y=.non from r1);cases v1;rfl
     · cases h1;rename_i b;cases (show y=.bl b from r1);cases v1;simp [SM.mxIs]
     · cases h1;rename_i i;cases (show y=.int i from r1);obtain ⟨t,rfl⟩:=v1;simp [SM.mxIs]
     · cases h1;rename_i x;cases (show y=.str x from r1);obtain ⟨t,rfl⟩:=v1;simp [SM.mxIs]
     · cases h1
  · cases h
theorem Ej (I:Inv X j' σ H s) {ds:List Dv} {k:List SM.Mx} {v:V} {u:g_} (h:rB ds=a_ k) (r:Rep X.K H (.tup ds) v) (q:RelV v u):∃ a,u=.ref a∧SM.TK X.prog X.w s.heap k a:=by
 obtain ⟨a,xs,rfl,hH,rs⟩:=r.tupE;cases (show u=q_ a from q);obtain ⟨its,rv,⟨o,e,c,n,d⟩,hz⟩:=I.tuple (SqT.of hH);exact ⟨a,rfl,o,its.toArray,_,e,c,d,by simpa using nB h rs rv⟩
theorem qt (I:Inv X j' σ H s):∀ {ds:List Dv} {ks:List (List SM.Mx)} {xs:List V} {its:List g_},pk ds=a_ ks→Reps X.K H ds xs→Vals xs its→ks.length=its.length∧∀ i,i < its.length→∃ a,its[i]?=a_ (.ref a)∧SM.TK X.prog X.w s.heap (ks.getD i []) a
 | [],ks,xs,its,h,r,v=>by
  cases h;cases (show xs=[] from r);cases v;exact ⟨rfl,fun i hi=>absurd hi (Nc _)⟩
 | .tup es :: ds,ks,xs,its,h,r,v=>by
  obtain ⟨y,us,rfl,r1,r2⟩:∃ v us,xs=v :: us∧Rep X.K H (.tup es) v∧Reps X.K H ds us:=r;unfold pk at h;split at h
  · rename_i k ks' h1 h2;cases h;cases v with
    | cons v1 v2 =>
     obtain ⟨a,rfl,ta⟩:=Ej I h1 r1 v1;obtain ⟨q1,q2⟩:=qt I h2 r2 v2;refine ⟨by simp [q1],fun i hi=>?_⟩;cases i with
     | zero=>exact ⟨a,rfl,ta⟩
     | succ i =>
      obtain ⟨a',e1,e2⟩:=q2 i (by simpa using hi);exact ⟨a',by simpa using e1,by simpa using e2⟩
  · cases h
 | .non :: ds,ks,xs,its,h,r,v=>by cases h
 | .bl _ :: ds,ks,xs,its,h,r,v=>by cases h
 | .int _ :: ds,ks,xs,its,h,r,v=>by cases h
 | .str _ :: ds,ks,xs,its,h,r,v=>by cases h
 | .lst _ :: ds,ks,xs,its,h,r,v=>by cases h
 | .scr _ :: ds,ks,xs,its,h,r,v=>by cases h
 | .exn _ :: ds,ks,xs,its,h,r,v=>by cases h
end
section
variable {X:Cx} {p p2 pos pos2:Pos} {e:H_} {ga:FnA}
theorem rD (hu:X.A.units + 64 < cLine) (hc:X.calm=d_) (hg:Gl X "len") (hm:X.mg "len"=ck) (hg2:Gl X "set") (hm2:X.mg "set"=ck) (ha:FA X [e] ga)
 (he:k_ [.Call (.Name "set" p2) [e] [] pos2] X.env=(e_,eval (.Call (.Name "set" p2) [e] [] pos2) X.env) :: k_ [] X.env:=by kernel_rfl) (hpl:(Lc pos (k_ [] X.env)).any (·.1)=e_:=by kernel_rfl)
 (he2:k_ [e] X.env=(e_,eval e X.env) :: k_ [] X.env:=by kernel_rfl) (hpl2:(Lc pos2 (k_ [] X.env)).any (·.1)=e_:=by kernel_rfl) :
 FE X (.Call (.Name "len" p) [.Call (.Name "set" p2) [e] [] pos2] [] pos) (fB1 kA ga):=⟨fun j' s σ H Q I ⟨ρ,E,o⟩=>by
 refine Ml (iC I hg hm SN ?_ (by decide) (by decide));refine Ox ?_ he hpl;rw [he];show v_ _ _ (spliced ((e_,eval (.Call (.Name "set" p2) [e] [] pos2) X.env) :: Lc pos (k_ [] X.env))) _ _ s;refine Rz ?_;refine Ml (iC I hg2 hm2 (u:=.type "set") (by decide +kernel) ?_ (by decide) (by decide));refine Lz (thn (ha.h pos2 j' s σ H _ I ⟨ρ,E,OutA.bind o fun ds vs H1 e1 rs o1=>(show ∃ ds,Reps X.K H1 ds vs∧Out X H1 (kA ds) Q from ⟨ds,rs,o1⟩)⟩) fun us s1 ⟨vs,H1,I1,r1,ds,rs,o1⟩=>?_) he2 hpl2;unfold kA at o1;split at o1
 · rename_i es;obtain ⟨v,rfl,r⟩:=dO rs;obtain ⟨l,xs,rfl,hl,rx⟩:=r.lstE;obtain ⟨u,rfl,ru⟩:=eR r1;cases (show u=q_ l from ru);split at o1
   · rename_i ks hks;split at o1
     · rename_i hnd;obtain ⟨z,its,n,rv,hz,eh⟩:=I1.lstM hl;obtain ⟨q1,q2⟩:=qt I1 hks rx rv;have hsz:its.toArray.size=ks.length:=by simp [q1]
       refine SM.call_set_T (items:=its.toArray) (key:=fun i=>ks.getD i []) (adr:=fun i=>match its[i]? with | some (.ref a)=>a | _=>0) (I1.ok.hd hc) (by omega) ⟨_,eh,rfl,n,rfl⟩ (fun i hi=>?_) (by rw [hsz]; exact hnd.2) (fun i j hi hj eij=>?_) fun h' tk hS hkp=>?_
       · obtain ⟨a,e1,e2⟩:=q2 i (by simpa using hi);simp only [List.getElem?_toArray,e1];exact ⟨trivial,e2⟩
       · exact q8 hnd.1 (by rw [← hsz]; exact hi) (by rw [← hsz]; exact hj) eij
       · refine RN ?_;refine SM.len_T hS (by rw [hsz]; exact hnd.2) fun t tk2=>⟨.int (ks.length:Nat),H1,?_,⟨t,by rw [hsz]⟩,o1 _ H1 (.refl H1) rfl⟩;exact I1.kept (t':=tk2) fun b u q=>hkp b u (w_ q) q
     · exact o1.elim
   · exact o1.elim
 · exact o1.elim⟩
end
end FD
namespace FD
open PySem PySem.Spec PyProof.Rows L2 PySem.W
section
variable {X:Cx} {ex hx:H_} {f g:FnE} {J:Str} {CJ:l_} {np rp rp2 hpos pos:Pos}
end
end FD
namespace FD
open PySem PySem.Spec PyProof.Rows L2
theorem FE.weak {X:Cx} {e:H_} {f f':FnE} (h:FE X e f) (hw:∀ ρ,f' ρ=ck∨f' ρ=f ρ):FE X e f':=⟨fun j' s σ H Q I ⟨ρ,E,o⟩=>h.h j' s σ H Q I ⟨ρ,E,by
 rcases hw ρ with z | z
 · rw [z] at o; exact o.elim
 · rw [z] at o; exact o⟩⟩
theorem uR (F:List Dv→Option (Rs Dv)) (n:Nat) (g:FnA) (ρ:Ev):ag F n g ρ=ck∨ag F n g ρ=am F n g ρ:=by
 unfold ag am
 match g ρ with
 | none=>exact .inl rfl
 | some (.exc c)=>exact .inr rfl
 | some (.ok ds) =>
  by_cases h:ds.length=n
  · match hF:F ds with
    | none=>exact .inl (by show (if ds.length=n then _ else ck)=ck; rw [if_pos h,hF])
    | some (.exc c)=>exact .inl (by show (if ds.length=n then _ else ck)=ck; rw [if_pos h,hF])
    | some (.ok d)=>exact .inr (by show (if ds.length=n then _ else ck)=(if ds.length=n then F ds else ck); rw [if_pos h,if_pos h,hF])
  · exact .inl (by show (if ds.length=n then _ else ck)=ck; rw [if_neg h])
theorem FE.callN {X:Cx} {e:H_} {F:List Dv→Option (Rs Dv)} {n:Nat} {g:FnA} (h:FE X e (am F n g)):FE X e (ag F n g):=h.weak (uR F n g)
theorem HW {X:Cx}:mH (CXE X.prog X.w) X E0:=by
 intro j' σ H s ev s' I ⟨e,cls,H',he,os,bare,un,hok,F,h⟩;exact h.elim
theorem uS {X:Cx} {k' n:Nat} {x:Str} {p pos:Pos} {e:H_} {es:List H_} {g:FnA} (k:Nat) (ps:List Str) (F:List Dv→Option (Rs Dv)) (h:Dr X.prog X.w X.K X.mg X.base x k ps F) (hr:Room k' X.A) (hk:k≤k') (hg:Gl X x) (ha:FA X (e :: es) g) (hn:n=ps.length:=by kernel_rfl) (hdb:(x == ("__debug__":Str))=e_:=by kernel_rfl)
 (he:k_ (e :: es) X.env=(e_,eval e X.env) :: k_ es X.env:=by kernel_rfl) (hpl:(Lc pos (k_ es X.env)).any (·.1)=e_:=by kernel_rfl) :
 FE X (.Call (.Name x p) (e :: es) [] pos) (ag F n g):=by
 subst hn;obtain ⟨f,fd,G,hm,hkp,hb⟩:=h;refine de (lJ (G.mono hk) hr hg hm hkp hb .nil HW ha.h hdb he hpl) fun σ H Q ρ E o=>⟨ρ,E,OutA.bind o fun ds vs H' e rs o1=>?_⟩;show spE X.K F ps.length (vs ++ []) H' Q E0;rw [LD];by_cases hl:ds.length=ps.length
 · rw [if_pos hl] at o1;refine ⟨ds,rs,hl,?_⟩
   match hF:F ds with
   | none=>rw [hF] at o1; exact o1.elim
   | some (.ok d)=>rw [hF] at o1; exact o1
   | some (.exc c)=>rw [hF] at o1; exact o1.elim
 · rw [if_neg hl] at o1;exact o1.elim
theorem uT {X:Cx} {T:bX} {k' n:Nat} {x:Str} {p pos:Pos} {e:H_} {es:List H_} {F:List Dv→Option (Rs Dv)} {g:FnA} (hT:HAE X.prog X.w X.K X.mg X.base T) (hr:Room k' X.A) (hF:(T.lookup x).map (fun q=>q.2.2)=a_ F) (ha:FA X (e :: es) g) (hk:((T.lookup x).all fun q=>SE q.1 k' && NI n q.2.1.length)=d_:=by kernel_rfl) (hg:X.env.kindOf x=a_ .globalImplicit:=by kernel_rfl) (hdb:(x == ("__debug__":Str))=e_:=by kernel_rfl)
 (he:k_ (e :: es) X.env=(e_,eval e X.env) :: k_ es X.env:=by kernel_rfl) (hpl:(Lc pos (k_ es X.env)).any (·.1)=e_:=by kernel_rfl) :
 FE X (.Call (.Name x p) (e :: es) [] pos) (ag F n g):=by
 cases hq:T.lookup x with
 | none=>rw [hq] at hF; cases hF
 | some q =>
  rw [hq] at hF hk;cases hF;rw [OQ,pi] at hk;exact uS q.1 q.2.1 q.2.2 (hT.h x q hq) hr (Mu hk.1) hg ha (Lb hk.2) hdb he hpl
def BC:List Dv→Option (Rs Dv)
 | [.tup ds]=>if (bW (.tup ds)).canLay0=d_∧(bW (.tup ds)).depth≤60∧(bW (.tup ds)).showable=d_∧(bW (.tup ds)).hasDict=e_∧(bW (.tup ds)).shown.length≤100000 then a_ (.ok (.str (bW (.tup ds)).shown)) else ck
 | _=>ck
section
variable {X:Cx} {p pos:Pos} {e:H_} {es:List H_} {ga:FnA}
theorem uU (hg:X.A.guards=a_ []) (hu:X.A.units + 64 < cLine):CallR X (.type "str") (fun xs H Q=>∃ a ds,xs=[.ref a]∧Rep X.K H (.tup ds) (.ref a)∧(bW (.tup ds)).canLay0=d_∧(bW (.tup ds)).depth≤60∧(bW (.tup ds)).showable=d_∧(bW (.tup ds)).hasDict=e_∧(bW (.tup ds)).shown.length≤100000∧Q (.str (bW (.tup ds)).shown) H):=by
 intro j' s σ H xs us Q I r h;obtain ⟨a,ds,rfl,rp,h1,h2,h3,h5,h4,q⟩:=h;obtain ⟨u,rfl,ru⟩:=eR r;cases (show u=q_ a from ru);obtain ⟨as,rd⟩:=Rep.reads I (.tup ds) (.ref a) (.ref a) rp rfl h1;exact str_of_reads rd h3 (fun z=>by rw [h5] at z; cases z) hg (by omega) (fun b o e=>e) (fun h' u tk hk=>⟨.str _,H,I.kept (t':=tk) (fun b o q=>hk b o q),⟨u,rfl⟩,q⟩) (cA h4)
theorem Aw {k:Nat} (hr:Room k X.A) (hg:Gl X "str") (hm:X.mg "str"=ck) (ha:FA X (e :: es) ga) (he:k_ (e :: es) X.env=(e_,eval e X.env) :: k_ es X.env:=by kernel_rfl) (hpl:(Lc pos (k_ es X.env)).any (·.1)=e_:=by kernel_rfl):FE X (.Call (.Name "str" p) (e :: es) [] pos) (fB1 BC ga) :=
 de (gS (uU hr.gd hr.units) hg hm (by decide +kernel) ha.h (by decide) (by decide) he hpl) fun σ H Q ρ E o=>⟨ρ,E,OutA.bind o fun ds vs H1 e1 rs o1=>by
  unfold BC at o1;split at o1
  · rename_i xs;split at o1
    · rename_i hc;obtain ⟨v,rfl,r⟩:=dO rs;obtain ⟨a,ws,rfl,h1,h2⟩:=r.tupE;exact ⟨a,xs,rfl,r,hc.1,hc.2.1,hc.2.2.1,hc.2.2.2.1,hc.2.2.2.2,o1 _ H1 (.refl H1) rfl⟩
    · exact o1.elim
  · exact o1.elim⟩
end
theorem uV {P:rl} {w:C_} {K:f_} {mg mb:Str→Option g_} {CX:CXT} {k:Nat} {fa a Pt:l_} {qn:Str} {fd:Lv} {x:Str} {sp:Sp} {s₁:h_} {vs:List g_} {ns:List Int}
 (KX:K.In s₁.heap) (hns:s₁.heap.Ns z_ mg) (hb:s₁.heap.Ns builtinsNs mb) (hbb:∀ x:Str,x≠"__name__"→mb x=LO x) (hlim:s₁.heap.NoLimit) (hg:s₁.gens=#[])
 (ha:s₁.heap.get? a=a_ { cls:=.type "list",data:=.seq vs.toArray }) (hi:Qc vs ns) (hl:ns.length≤sizeLine) (hr:Room k QZ)
 (hPt:s₁.heap.get? Pt=a_ { cls:=.none,data:=.fields #[] }) (hct:QC s₁.heap Pt) (hKP:K.lookup Pt=ck)
 (F:∀ base:KO,K.In base→base.Ns z_ mg→FnOk P w K mg base CX k fa fd [x] sp) (hbind:∀ (s:h_) (u:g_),Q0 s fd ⟨[u],[]⟩ [(x,u)])
 (hsp:∀ H:Hp,SqL K H a (ns.map V.int)→TBL Pt qn H→sp [.ref a] H (fun v _=>v=.bl d_) fun _ _ _=>False)
 (hCX:∀ H e s',CX [] H s₁ (fun _ _ _=>False) e s'→False) :
 NC (F_ P w) QZ (.call (.ref fa) ⟨[.ref a],[]⟩) (fun r s'=>r=.ok (.ret (.bool d_))∧OldK s₁.heap s'.heap∧s'.os=s₁.os∧OZ s'.gens) s₁:=by
 have rv:=gT hi;have lenV:=hi.length;have haP:a≠Pt:=fun z=>by rw [z,hPt] at ha; cases ha
 have core:∀ H:Hp,H Pt=a_ (.tbl #[.str qn 0])→(∀ b,b≠Pt→H b=ck∨∃ o xs,H b=a_ (.frz o (.lst xs)))→SqL K H a (ns.map V.int)→HOk P w H s₁.heap→(∀ b,H b≠ck→b=a∨b=Pt)→(H a≠ck→K.lookup a=ck) →
  NC (F_ P w) QZ (.call (.ref fa) ⟨[.ref a],[]⟩) (fun r s'=>r=.ok (.ret (.bool d_))∧OldK s₁.heap s'.heap∧s'.os=s₁.os∧OZ s'.gens) s₁:=by
  intro H hT hO hS hok hA hK;have base_of:∀ {b:l_} {o:Obj},s₁.heap.get? b=a_ o→H b=ck→(vS s₁.heap H).get? b=a_ o:=fun e n=>vT e n;have noA:∀ {b:l_} {o:Obj} {es:Array DictEntry} {ep:Nat},s₁.heap.get? b=a_ o→o.data=.dict es ep→H b=ck:=fun {b o es ep} e d=>by
   cases q:H b with
   | none=>rfl
   | some u =>
    rcases hA b (by rw [q]; simp) with rfl | rfl
    · rw [ha] at e; cases e;have d':Data.seq vs.toArray _=Ng es ep:=d;cases d'
    · rw [hPt] at e; cases e;have d':QQ #[]=Ng es ep:=d;cases d'
  have nsK:∀ {b:l_} {m:Str→Option g_},s₁.heap.Ns b m→(vS s₁.heap H).Ns b m:=fun {b m} ⟨o,es,ep,e,d,r⟩=>⟨o,es,ep,base_of e (noA e d),d,r⟩;have hKb:K.In (vS s₁.heap H):=fun b o e=>base_of (KX b o e) (by
   cases q:H b with
   | none=>rfl
   | some u =>
    rcases hA b (by rw [q]; simp) with rfl | rfl
    · rw [hK (by rw [q]; simp)] at e; cases e
    · rw [hKP] at e; cases e)
  have hM:Mod K mg (vS s₁.heap H):=⟨hKb,nsK hns,⟨mb,nsK hb,hbb⟩,let ⟨mc,h1,h2⟩:=hlim; ⟨mc,nsK h1,h2⟩⟩;have e0:Env0 P w K mg (vS s₁.heap H) QZ [] s₁ H:=⟨rfl,hM,fun b o e=>yT e,Oj (rZ _ _),trivial,fun b hb=>absurd (show b∈([]:List l_) from hb) (by simp),hok,.of_eq hg⟩;refine M1 ((F _ hKb (nsK hns)).run QZ [] s₁ H ⟨[.ref a],[]⟩ [.ref a] [.ref a] _ _ hr e0 (hbind s₁ (.ref a)) (.cons rfl .nil) (hsp H hS ⟨_,0,hT,rfl⟩)) fun r s' h=>?_;cases r with
  | error e=>exact (hCX H e s' h).elim
  | ok fl =>
   cases fl with
   | next=>exact Lw h
   | brk=>exact Lw h
   | cont=>exact Lw h
   | ret u =>
    obtain ⟨v,H',os,bare,un,hok',r',q⟩:=h;have q':v=.bl d_:=q;subst q';obtain rfl:u=Lj d_:=r';have kp:∀ b o,b≠Pt→s₁.heap.get? b=a_ o→s'.heap.get? b=a_ o:=fun b o hbP e=>by
     cases q:H b with
     | none=>exact un.keep b o e q (by intro z; exact absurd (show b∈([]:List l_) from z) (by simp)) (by simp)
     | some u =>
      rcases hO b hbP with z | ⟨ob,xs,z⟩
      · rw [q] at z; cases z
      · have z2:=un.frzs b ob _ z;obtain ⟨e1,_⟩:=hok b _ z;obtain ⟨e2,_⟩:=hok' b _ z2;rw [e] at e1; cases e1;exact e2
    obtain ⟨more,hT'⟩:=un.tbls Pt _ hT;obtain ⟨qs,eq',_⟩:=hok' Pt _ hT';refine ⟨rfl,⟨fun b o e=>?_,fun b o e=>?_⟩,os,bare⟩
    · by_cases hbP:b=Pt
      · subst hbP;rw [hPt] at e;cases e;exact .inr (.inl ⟨hct,rfl,#[],qs,rfl,by rw [eq']; simp⟩)
      · exact .inl (kp b o hbP e)
    · by_cases hbP:b=Pt
      · subst hbP;exact ⟨_,eq'⟩
      · exact ⟨o,kp b o hbP e⟩
 have okT:∀ H:Hp,ObjOk P w H s₁.heap Pt (.tbl #[.str qn 0]):=fun H=>⟨#[],hPt,trivial,fun pos v hv=>by cases hv⟩;cases hk:K.lookup a with
 | some o =>
  have e:=KX a o hk;rw [ha] at e;cases e;refine core (fun b=>if b=Pt then a_ (.tbl #[.str qn 0]) else ck) (if_pos rfl) (fun b hb=>.inl (if_neg hb)) (.inr ⟨_,vs.toArray,_,hk,rfl,rfl,rfl,by rw [A_,lenV]; exact hl,by simpa using rv⟩) (fun b u z=>?_) (fun b z=>?_) fun z=>absurd (if_neg haP) z
  · by_cases hb:b=Pt
    · have z':=(if_pos hb).symm.trans z;cases z';subst hb;exact okT _
    · have z':=(if_neg hb).symm.trans z;cases z'
  · by_cases hb:b=Pt
    · exact .inr hb
    · exact absurd (if_neg hb) z
 | none =>
  refine core (fun b=>if b=Pt then a_ (.tbl #[.str qn 0]) else if b=a then a_ (.frz { cls:=.type "list",data:=.seq vs.toArray } (.lst (ns.map V.int))) else ck) (if_pos rfl) (fun b hb=>?_) (.inl (.inr ⟨{ cls:=.type "list",data:=.seq vs.toArray },(if_neg haP).trans (if_pos rfl)⟩)) (fun b u z=>?_) (fun b z=>?_) fun _=>hk
  · by_cases hba:b=a
    · exact .inr ⟨_,_,by rw [if_neg hb,if_pos hba]⟩
    · exact .inl (by rw [if_neg hb,if_neg hba])
  · by_cases hb:b=Pt
    · have z':=(if_pos hb).symm.trans z;cases z';subst hb;exact okT _
    · have z1:=(if_neg hb).symm.trans z;by_cases hba:b=a
      · have z':=(if_pos hba).symm.trans z1;cases z';subst hba;exact ⟨ha,by rw [KR]; exact hl,vs,_,rv,ha⟩
      · have z':=(if_neg hba).symm.trans z1;cases z'
  · by_cases hb:b=Pt
    · exact .inr hb
    · by_cases hba:b=a
      · exact .inl hba
      · exact absurd (by rw [if_neg hb,if_neg hba]) z
theorem xi {l:Qi} {n k:Nat} {q:rl} {loose:List Str} {XP:(Str→Option g_)→KO→Prop} {YP:C_→KO→Prop} {d:DefRec} {K:OL→f_} {CX:C_→CXT} {sp:C_→Sp} {x:Str} {Pt:l_} {qn:Str}
 (hn:l.most=a_ n) (hn2:n≤sizeLine) (hdf:d.params.defaults=[]) (hr:Room k QZ)
 (hY:∀ (w:C_) (h:KO),YP w h→(K w.params).In h) (hYT:∀ (w:C_) (h:KO),YP w h→h.get? Pt=a_ { cls:=.none,data:=.fields #[] }∧QC h Pt∧(K w.params).lookup Pt=ck)
 (F:∀ (w:C_) (mg:Str→Option g_) (fa:l_) (h:KO),(K w.params).In h→h.Ns z_ mg→mg d.name=a_ (.ref fa) →
   ∃ fd:Lv,(∀ (s:h_) (u:g_),Q0 s fd ⟨[u],[]⟩ [(x,u)]) ∧
    ∀ base:KO,(K w.params).In base→base.Ns z_ mg→FnOk l.prog w (K w.params) mg base (CX w) k fa fd [x] (sp w))
 (hsp:∀ (w:C_) (H:Hp) (a:l_) (ns:List Int),ns.length≤n→SqL (K w.params) H a (ns.map V.int)→TBL Pt qn H→sp w [.ref a] H (fun v _=>v=.bl d_) fun _ _ _=>False)
 (hCX:∀ (w:C_) (H:Hp) (s:h_) (e:g_) (s':h_),CX w [] H s (fun _ _ _=>False) e s'→False) :
 S3 q loose XP YP l.row.toRowW d [] (fun f vs=>SL f vs):=by
 refine Att.attach_call hn hdf fun w s₀ s₁ mg mb fa o pm cd doc a vs ns G Y ho hd hcd hmg hobj hints hlen hg=>?_;have KX:=hY w _ Y;obtain ⟨fd,hb,hF⟩:=F w mg fa _ KX G.T.g hmg;obtain ⟨t1,t2,t3⟩:=hYT w _ Y;exact uV KX G.T.g G.T.b G.T.builtins G.T.nolimit hg hobj hints (K5 hlen hn2) hr t1 t2 t3 hF hb (fun H hS hT=>hsp w H a ns hlen hS hT) fun H e s'=>hCX w H s₁ e s'
theorem xl {c:FnB} {f g:FnS} {ρ:Ev} (h:c ρ=a_ (.ok d_)):aR c f g ρ=f ρ:=by
 unfold aR; rw [h]; rfl
theorem aP {α:Type} {p:α→Bool} {l:List α} (h:l.all p=d_) {x:α} (hx:x∈l):p x=d_:=LF.mp h x hx
end FD
namespace G
open PySem PySem.Spec PyProof.Rows L2 FD
def top (i:Nat):L3:=PySem.Challenge.pw_notejar_k53_whole_taken.main.body.getD i (.Pass ⟨0,0,0,0⟩)
section
variable {X:Cx} {a b c o e:H_} {es:List H_} {fa fb fc fo:FnE} {ga:FnA} {pos p pt apos cpos:Pos}
theorem Ek (ha:FE X a fa) (hb:FE X b fb):FE X (.BinOp a .Add b pos) (f2 df fa fb):=oO o_add CM ha hb
theorem El (ha:FE X a fa) (hb:FE X b fb):FE X (.BinOp a .Add b pos) (f2 ci fa fb):=oO Dy Dz ha hb
theorem Em (ha:FE X a fa) (hb:FE X b fb):FE X (.BinOp a .Sub b pos) (f2 zo fa fb):=oO BX G3 ha hb
theorem Eo (ha:FE X a fa) (hb:FE X b fb):FE X (.BinOp a .Mult b pos) (f2 jx fa fb):=oO xT CN ha hb
theorem Ep (ha:FE X a fa) (hb:FE X b fb):FE X (.BinOp a .Mod b pos) (f2 iP fa fb):=oO BY G4 ha hb
theorem Ax (ha:FE X a fa) (hb:FE X b fb):FE X (.BinOp a .FloorDiv b pos) (f2 iU fa fb):=oO yY CO ha hb
theorem Er (ha:FE X a fa) (hb:FE X b fb):FE X (.BinOp a .Mult b pos) (f2 Gg fa fb):=oO DQ DR ha hb
theorem Es (hu:X.A.units + 64 < cLine) (ha:FE X a fa) (hb:FE X b fb) (hm:KT .Eq b=e_:=by kernel_rfl):FT X (.Compare a [.Eq] [b] pos) (fB (f2 eqX fa fb)):=iS (C9 hu) Da ha hb hm
theorem Et (hu:X.A.units + 64 < cLine) (ha:FE X a fa) (hb:FE X b fb) (hm:KT .NotEq b=e_:=by kernel_rfl):FT X (.Compare a [.NotEq] [b] pos) (fB (f2 neX fa fb)):=iS (Hd hu) He ha hb hm
theorem Eu (ha:FE X a fa) (hb:FE X b fb) (hm:KT .Lt b=e_:=by kernel_rfl):FT X (.Compare a [.Lt] [b] pos) (fB (f2 ltX fa fb)):=iS Db Dc ha hb hm
theorem Ew (ha:FE X a fa) (hb:FE X b fb) (hm:KT .Gt b=e_:=by kernel_rfl):FT X (.Compare a [.Gt] [b] pos) (fB (f2 gtD fa fb)):=iS B0 (CQ _) ha hb hm
theorem Ex (ha:FE X a fa) (hb:FE X b fb) (hm:KT .Is b=e_:=by kernel_rfl):FT X (.Compare a [.Is] [b] pos) (fB (f2 isN fa fb)):=iS xU CS ha hb hm
theorem Ay (ha:FE X a fa) (hb:FE X b fb) (hm:KT .IsNot b=e_:=by kernel_rfl):FT X (.Compare a [.IsNot] [b] pos) (fB (f2 dz fa fb)):=iS sL yf ha hb hm
theorem Az (hu:X.A.units < cLine) (ha:FE X a fa) (hb:FE X b fb) (hm:KT .Eq b=e_:=by kernel_rfl):FT X (.Compare a [.Eq] [b] pos) (fB (f2 Ga fa fb)):=iS (Hb hu) Hc ha hb hm
theorem Ey (ha:FE X a fa) (hb:FE X b fb) (hm:KT .In b=e_:=by kernel_rfl):FT X (.Compare a [.In] [b] pos) (fB (f2 inD fa fb)):=iS o_in G7 ha hb hm
theorem uW (hu:X.A.units + 64 < cLine) (ha:FE X a fa) (hb:FE X b fb) (hm:KT .NotIn b=e_:=by kernel_rfl):FT X (.Compare a [.NotIn] [b] pos) (fB (f2 dk fa fb)):=iS (wK hu) wL ha hb hm
theorem Ez (hu:X.A.units + 64 < cLine) (ha:FE X a fa) (hb:FE X b fb) (hm:KT .Eq b=e_:=by kernel_rfl):FE X (.Compare a [.Eq] [b] pos) (f2 eqX fa fb):=iR (C9 hu) Da ha hb hm
theorem EA (ha:FE X a fa) (hb:FE X b fb) (hm:KT .Lt b=e_:=by kernel_rfl):FE X (.Compare a [.Lt] [b] pos) (f2 ltX fa fb):=iR Db Dc ha hb hm
theorem EB (ha:FE X a fa) (hb:FE X b fb) (hm:KT .LtE b=e_:=by kernel_rfl):FE X (.Compare a [.LtE] [b] pos) (f2 leX fa fb):=iR Hx Hy ha hb hm
theorem EC (ha:FE X a fa) (hb:FE X b fb) (hm:KT .Gt b=e_:=by kernel_rfl):FE X (.Compare a [.Gt] [b] pos) (f2 gtD fa fb):=iR B0 (CQ _) ha hb hm
theorem ED (ha:FE X a fa) (hb:FE X b fb) (hm:KT .Is b=e_:=by kernel_rfl):FE X (.Compare a [.Is] [b] pos) (f2 isN fa fb):=iR xU CS ha hb hm
theorem AA (ha:FE X a fa) (hb:FE X b fb) (hm:KT .IsNot b=e_:=by kernel_rfl):FE X (.Compare a [.IsNot] [b] pos) (f2 dz fa fb):=iR sL yf ha hb hm
theorem EE (ha:FE X a fa) (hb:FE X b fb) (hm:KT .In b=e_:=by kernel_rfl):FE X (.Compare a [.In] [b] pos) (f2 inD fa fb):=iR o_in G7 ha hb hm
theorem uX (ha:FE X a fa) (hb:FE X b fb) (hm:KT .NotIn b=e_:=by kernel_rfl):FE X (.Compare a [.NotIn] [b] pos) (f2 mT fa fb):=iR o_notIn tH ha hb hm
theorem EF (hu:X.A.units + 64 < cLine) (ha:FE X a fa) (hb:FE X b fb) (hm:KT .In b=e_:=by kernel_rfl):FE X (.Compare a [.In] [b] pos) (f2 inX fa fb):=iR (Ho hu) Hq ha hb hm
theorem EG (hm:X.mg "isinstance"=ck) (hn:X.mg "int"=ck) (ha:FE X a fa) (hg:X.env.kindOf (b_ "isinstance")=a_ .globalImplicit:=by kernel_rfl) (hg2:X.env.kindOf (b_ "int")=a_ .globalImplicit:=by kernel_rfl) (hs1:k_ [a,.Name (b_ "int") pt] X.env=(e_,eval a X.env) :: k_ [.Name (b_ "int") pt] X.env:=by kernel_rfl) (hs2:k_ [.Name (b_ "int") pt] X.env=(e_,eval (.Name (b_ "int") pt) X.env) :: k_ [] X.env:=by kernel_rfl) (hpl:(Lc pos (k_ [.Name (b_ "int") pt] X.env)).any (·.1)=e_:=by kernel_rfl):FE X (.Call (.Name "isinstance" p) [a,.Name (b_ "int") pt] [] pos) (f1 (cO bM) fa):=pY (T:="int") zV DJ (by decide +kernel) (by kernel_rfl) hg hm hg2 hn ha hs1 hs2 hpl
theorem EH (hm:X.mg "isinstance"=ck) (hn:X.mg "str"=ck) (ha:FE X a fa) (hg:X.env.kindOf (b_ "isinstance")=a_ .globalImplicit:=by kernel_rfl) (hg2:X.env.kindOf (b_ "str")=a_ .globalImplicit:=by kernel_rfl) (hs1:k_ [a,.Name (b_ "str") pt] X.env=(e_,eval a X.env) :: k_ [.Name (b_ "str") pt] X.env:=by kernel_rfl) (hs2:k_ [.Name (b_ "str") pt] X.env=(e_,eval (.Name (b_ "str") pt) X.env) :: k_ [] X.env:=by kernel_rfl) (hpl:(Lc pos (k_ [.Name (b_ "str") pt] X.env)).any (·.1)=e_:=by kernel_rfl):FE X (.Call (.Name "isinstance" p) [a,.Name (b_ "str") pt] [] pos) (f1 (cO bH) fa):=pY (T:="str") zv C0 (by decide +kernel) (by kernel_rfl) hg hm hg2 hn ha hs1 hs2 hpl
theorem xm (hm:X.mg "isinstance"=ck) (hn:X.mg "tuple"=ck) (ha:FE X a fa) (hg:X.env.kindOf (b_ "isinstance")=a_ .globalImplicit:=by kernel_rfl) (hg2:X.env.kindOf (b_ "tuple")=a_ .globalImplicit:=by kernel_rfl) (hs1:k_ [a,.Name (b_ "tuple") pt] X.env=(e_,eval a X.env) :: k_ [.Name (b_ "tuple") pt] X.env:=by kernel_rfl) (hs2:k_ [.Name (b_ "tuple") pt] X.env=(e_,eval (.Name (b_ "tuple") pt) X.env) :: k_ [] X.env:=by kernel_rfl) (hpl:(Lc pos (k_ [.Name (b_ "tuple") pt] X.env)).any (·.1)=e_:=by kernel_rfl):FE X (.Call (.Name "isinstance" p) [a,.Name (b_ "tuple") pt] [] pos) (f1 (cO bK) fa):=pY (T:="tuple") zw wo (by decide +kernel) (by kernel_rfl) hg hm hg2 hn ha hs1 hs2 hpl
theorem AB (hm:X.mg "isinstance"=ck) (hn:X.mg "bool"=ck) (ha:FE X a fa) (hg:X.env.kindOf (b_ "isinstance")=a_ .globalImplicit:=by kernel_rfl) (hg2:X.env.kindOf (b_ "bool")=a_ .globalImplicit:=by kernel_rfl) (hs1:k_ [a,.Name (b_ "bool") pt] X.env=(e_,eval a X.env) :: k_ [.Name (b_ "bool") pt] X.env:=by kernel_rfl) (hs2:k_ [.Name (b_ "bool") pt] X.env=(e_,eval (.Name (b_ "bool") pt) X.env) :: k_ [] X.env:=by kernel_rfl) (hpl:(Lc pos (k_ [.Name (b_ "bool") pt] X.env)).any (·.1)=e_:=by kernel_rfl):FE X (.Call (.Name "isinstance" p) [a,.Name (b_ "bool") pt] [] pos) (f1 (cO aH) fa):=pY (T:="bool") wm zz (by decide +kernel) (by kernel_rfl) hg hm hg2 hn ha hs1 hs2 hpl
theorem l8 (ho:FE X o fo) (ha:FA X (e :: es) ga) (h:SmL X o "startswith" e es apos cpos:=by exact ⟨by kernel_rfl,by kernel_rfl,by kernel_rfl,by kernel_rfl,by kernel_rfl⟩):FE X (.Call (.Attribute o "startswith" apos) (e :: es) [] cpos) (fM (mU K1) fo ga):=nu PySem.F.slot_str_startswith PySem.F.type_str_startswith G9 yj ho ha h
theorem pq (ho:FE X o fo) (ha:FA X (e :: es) ga) (h:SmL X o "endswith" e es apos cpos:=by exact ⟨by kernel_rfl,by kernel_rfl,by kernel_rfl,by kernel_rfl,by kernel_rfl⟩):FE X (.Call (.Attribute o "endswith" apos) (e :: es) [] cpos) (fM (mU OW) fo ga):=nu PySem.F.slot_str_endswith PySem.F.type_str_endswith Ha yj ho ha h
theorem xn (ho:FE X o fo) (ha:FA X (e :: es) ga) (h:SmL X o "split" e es apos cpos:=by exact ⟨by kernel_rfl,by kernel_rfl,by kernel_rfl,by kernel_rfl,by kernel_rfl⟩):FE X (.Call (.Attribute o "split" apos) (e :: es) [] cpos) (fM (gK) fo ga):=nu N3 PySem.F.type_str_split wp zC ho ha h
theorem AC (ho:FE X o fo) (ha:FA X (e :: es) ga) (h:SmL X o "join" e es apos cpos:=by exact ⟨by kernel_rfl,by kernel_rfl,by kernel_rfl,by kernel_rfl,by kernel_rfl⟩):FE X (.Call (.Attribute o "join" apos) (e :: es) [] cpos) (fM (wq) fo ga):=nu PySem.F.slot_str_join PySem.F.type_str_join zD De ho ha h
theorem nF (ho:FE X o fo) (ha:FA X (e :: es) ga) (h:SmL X o "partition" e es apos cpos:=by exact ⟨by kernel_rfl,by kernel_rfl,by kernel_rfl,by kernel_rfl,by kernel_rfl⟩):FE X (.Call (.Attribute o "partition" apos) (e :: es) [] cpos) (fM (lU) fo ga):=nu PJ PySem.F.type_str_partition zE Dg ho ha h
theorem xo (ho:FE X o fo) (ha:FA X (e :: es) ga) (h:SmL X o "strip" e es apos cpos:=by exact ⟨by kernel_rfl,by kernel_rfl,by kernel_rfl,by kernel_rfl,by kernel_rfl⟩):FE X (.Call (.Attribute o "strip" apos) (e :: es) [] cpos) (fM (ko) fo ga):=nu PySem.F.slot_str_strip PySem.F.type_str_strip wG zL ho ha h
theorem xp (ho:FE X o fo) (ha:FA X (e :: es) ga) (h:SmL X o "rfind" e es apos cpos:=by exact ⟨by kernel_rfl,by kernel_rfl,by kernel_rfl,by kernel_rfl,by kernel_rfl⟩):FE X (.Call (.Attribute o "rfind" apos) (e :: es) [] cpos) (fM (F9 S7) fo ga):=nu PySem.F.slot_str_rfind PySem.F.type_str_rfind wn CZ ho ha h
theorem EI (ho:FE X o fo) (ha:FA X (e :: es) ga) (h:SmL X o "index" e es apos cpos:=by exact ⟨by kernel_rfl,by kernel_rfl,by kernel_rfl,by kernel_rfl,by kernel_rfl⟩):FE X (.Call (.Attribute o "index" apos) (e :: es) [] cpos) (fM DC fo ga):=nu PySem.F.slot_str_index PySem.F.type_str_index DD Hr ho ha h
theorem dN {x:Str} (h:FE X (.Name x p) fa):FE X (.Name x p) fa:=h
theorem dC {k:Const} {n:Nat} (h:FE X (.Constant k n p) fa):FE X (.Constant k n p) fa:=h
theorem dA (h:FA X es ga):FA X es ga:=h
theorem dK {x:Str} {ks:List No} (h:FE X (.Call (.Name x p) es ks pos) fa):FE X (.Call (.Name x p) es ks pos) fa:=h
theorem dM {x:Str} {ks:List No} (h:FE X (.Call (.Attribute o x p) es ks pos) fa):FE X (.Call (.Attribute o x p) es ks pos) fa:=h
theorem dB {op:Operator} (h:FE X (.BinOp a op b pos) fa):FE X (.BinOp a op b pos) fa:=h
theorem dQ {ops:List CmpOp} (h:FE X (.Compare a ops es pos) fa):FE X (.Compare a ops es pos) fa:=h
theorem dT {fb:FnB} (h:FT X a fb):FT X a fb:=h
theorem dW {fb:FnB} (h:FW X a fb):FW X a fb:=h
theorem dE (h:FE X a fa):FE X a fa:=h
theorem dSs {st:List L3} {f:FnS} (h:FSs X st f):FSs X st f:=h
theorem dS {st:L3} {f:FnS} (h:FS X st f):FS X st f:=h
end
local macro_rules | `(tactic| walk_at "x")=>`(tactic| (first
 | with_reducible (refine dN ?_; first
  | exact GU _ (by kernel_rfl) (by kernel_rfl!)
  | exact GV _ (by kernel_rfl) (by kernel_rfl!)
  | exact HI (by with_unfolding_all assumption) (by kernel_rfl!)
  | exact HJ (by with_unfolding_all assumption) (by kernel_rfl!))
 | with_reducible (refine dC ?_; first
  | exact Cg
  | exact Ci
  | exact GW
  | exact Ch)
 | with_reducible (refine dA ?_; first
  | exact tq
  | refine oQ ?_ ?_)
 | with_reducible (refine dK ?_; first
  | refine uQ (N:=["note"]) (by with_unfolding_all assumption) (by with_unfolding_all assumption) (by with_unfolding_all assumption) (by with_unfolding_all assumption) (by with_unfolding_all assumption) ?_ ?_
  | refine wZ (by with_unfolding_all assumption) (by with_unfolding_all assumption) (by kernel_rfl!) ?_
  | refine uM (by with_unfolding_all assumption) (by with_unfolding_all assumption) (by kernel_rfl!) (by kernel_rfl) ?_
  | refine lx (by with_unfolding_all assumption) (by with_unfolding_all assumption) (by with_unfolding_all assumption) (by kernel_rfl!) (by kernel_rfl) ?_
  | refine rD ?_ (by kernel_rfl) (glb (by kernel_rfl)) ?_ (glb (by kernel_rfl)) ?_ ?_
  | refine Aw (by with_unfolding_all assumption) (glb (by kernel_rfl)) ?_ ?_
  | refine uT (by with_unfolding_all assumption) (by with_unfolding_all assumption) (by kernel_rfl!) ?_
  | refine FE.callN (lx (by with_unfolding_all assumption) (by with_unfolding_all assumption) (by with_unfolding_all assumption) (by kernel_rfl!) (by kernel_rfl) ?_)
  | refine CV (glb (by kernel_rfl)) ?_ ?_
  | refine wt (glb (by kernel_rfl)) ?_ ?_
  | refine uz (glb (by kernel_rfl)) ?_ ?_
  | refine wV (glb (by kernel_rfl)) ?_ ?_
  | refine z8 (glb (by kernel_rfl)) ?_ ?_
  | refine zW (glb (by kernel_rfl)) ?_ ?_
  | refine CW (by kernel_rfl) (glb (by kernel_rfl)) ?_ ?_
  | refine Ab (by kernel_rfl) (glb (by kernel_rfl)) ?_ ?_
  | refine DU (by kernel_rfl) (glb (by kernel_rfl)) ?_ ?_
  | refine DK (by kernel_rfl) (glb (by kernel_rfl)) ?_ ?_
  | refine EG ?_ ?_ ?_
  | refine EH ?_ ?_ ?_
  | refine xm ?_ ?_ ?_
  | refine AB ?_ ?_ ?_)
 | with_reducible (refine dM ?_; first
  | refine l8 ?_ ?_
  | refine pq ?_ ?_
  | refine xn ?_ ?_
  | refine AC ?_ ?_
  | refine nF ?_ ?_
  | refine xo ?_ ?_
  | refine xp ?_ ?_
  | refine EI ?_ ?_
  | refine ww ?_ ?_)
 | with_reducible (refine dB ?_; first
  | refine Ek ?_ ?_
  | refine El ?_ ?_
  | refine Em ?_ ?_
  | refine Eo ?_ ?_
  | refine Ep ?_ ?_
  | refine Ax ?_ ?_
  | refine Er ?_ ?_)
 | with_reducible (refine dQ ?_; first
  | refine Ez ?_ ?_ ?_
  | refine EA ?_ ?_
  | refine EB ?_ ?_
  | refine EC ?_ ?_
  | refine ED ?_ ?_
  | refine AA ?_ ?_
  | refine EE ?_ ?_
  | refine uX ?_ ?_
  | refine EF ?_ ?_ ?_)
 | with_reducible (refine dT ?_; first
  | refine Es ?_ ?_ ?_
  | refine Et ?_ ?_ ?_
  | refine Eu ?_ ?_
  | refine Ew ?_ ?_
  | refine Ex ?_ ?_
  | refine Ay ?_ ?_
  | refine Az ?_ ?_ ?_
  | refine Ey ?_ ?_
  | refine uW ?_ ?_ ?_
  | refine FW.ft (ya ?_ ?_)
  | refine FW.ft (Co ?_ ?_)
  | refine Cp ?_
  | refine Cj ?_)
 | with_reducible (refine dW ?_; first
  | refine ya ?_ ?_
  | refine Co ?_ ?_
  | refine zg ?_
  | refine Ck ?_)
 | with_reducible (refine dE ?_; first
  | refine Ea ?_ ?_
  | refine Cw ?_
  | refine Cv ?_
  | refine Cq ?_
  | refine Cr ?_ ?_
  | refine GX ?_ ?_
  | refine Ct ?_
  | refine CP ?_
  | refine GY ?_ ?_ ?_
  | refine CU ?_ ?_ ?_
  | refine zM ?_ ?_ ?_
  | refine HK ?_ ?_ ?_
  | refine HN ?_ ?_ ?_)
 | with_reducible (refine dSs ?_; first
  | exact zh
  | refine zi ?_
  | refine w6 ?_ ?_
  | refine we ?_ ?_)
 | with_reducible (refine dS ?_; first
  | refine Cy ?_
  | refine GZ ?_ ?_ ?_
  | refine zj ?_
  | refine HM ?_ ?_ ?_ (by kernel_rfl!)
  | refine Al ?_
  | refine Dl (by kernel_rfl) ?_ ?_
  | refine An ?_ ?_ ?_
  | refine w8 ?_ ?_ ?_
  | refine wE _ (by with_unfolding_all exact XAllS.xc (by assumption) _ (by decide)) (by kernel_rfl) (by with_unfolding_all exact CA.c (by assumption) (by decide) rfl) (by kernel_rfl) (by kernel_rfl) (glb (by kernel_rfl)) ?_)
 | with_reducible exact zq
 | with_reducible refine zr ?_
 | with_reducible exact w4
 | with_reducible refine w5 ?_
 | with_reducible intro _ _ _ _
 | with_reducible refine tx (glb (by kernel_rfl)) ?_ ?_
 | with_reducible refine tz (glb (by kernel_rfl)) ?_ ?_
 | with_reducible refine CG ?_
 | with_reducible refine wz (glb (by kernel_rfl)) ?_ ?_
 | with_reducible refine z4 (glb (by kernel_rfl)) ?_ ?_
 | with_reducible refine FI.toG ?_
 | with_reducible refine w9 ?_
 | with_reducible exact Dj
 | with_reducible exact zS
 | with_reducible refine Ag ?_
 | with_reducible refine zT ?_
 | with_reducible refine wM ?_ ?_
 | with_reducible refine DG ?_
 | with_reducible refine DF ?_ ?_ ?_
 | with_reducible refine Hw (by kernel_rfl) ?_ ?_ ?_
 | with_reducible refine Ap ?_ (uP (by kernel_rfl) (by kernel_rfl) (by kernel_rfl) (by kernel_rfl))
 | with_reducible refine wU (by kernel_rfl) (uP (by kernel_rfl) (by kernel_rfl) (by kernel_rfl) (by kernel_rfl)) ?_ ?_
 | with_reducible refine Am ?_
 | with_reducible refine Ao ?_ ?_ ?_
 | assumption
 | exact MA.no (by assumption) (by kernel_rfl)
 | exact Room.units (by assumption)
 | exact Room.units0 (by assumption)
 | exact PassesOwn.never
 | exact PassesOwn.leaving) <;> walk_at "x")
local macro_rules | `(tactic| walk_at "b")=>`(tactic| (intros; (conv=>arg 2; whnf); walk_at "x"))
local macro_rules | `(tactic| walk_at "d")=>`(tactic| (intro _ _ _ _ _ _ us hl; rcases us with _ | ⟨_,_ | ⟨_,_ | ⟨_,_ | ⟨_,_ | ⟨_,_ | ⟨_,_ | ⟨_,_ | ⟨_,us⟩⟩⟩⟩⟩⟩⟩⟩ <;> first | rfl | cases hl))
def CC:Bz:=[cN "all",cN "any",cN "bool",cN "enumerate",cN "int",cN "isinstance",cN "len",cN "max",cN "min",cN "range",cN "set",cN "sorted",cN "str",cN "tuple",cN "zip",cI "ASK_HOUSE" 1,cI "ASK_ORIGIN" 3,cI "ASK_PARTS" 4,cI "ASK_PATH" 2,cI "ASK_SAFE" 0,cS "FIGURES" "0123456789",cI "GIVEN_HOUSE" 2,cI "GIVEN_LASTS" 5,cI "GIVEN_NAME" 0,cI "GIVEN_PARTS" 8,cI "GIVEN_PATH" 3,cI "GIVEN_REACH" 7,cI "GIVEN_SAFE" 6,cI "GIVEN_UNTIL" 4,cI "GIVEN_WORTH" 1,cS "LABEL_SIGNS" "abcdefghijklmnopqrstuvwxyz0123456789-",cI "LAST_MOMENT" 9999,cI "LONGEST_LABEL" 8,cI "LONGEST_NOTE_NAME" 10,cI "LONGEST_PATH" 20,cI "LONGEST_WORTH" 12,cI "MOST_FIGURES" 4,cI "MOST_LABELS" 5,cI "MOST_NOTES" 20,cI "MOST_RULES" 8,cI "NOTE_ENDS" 5,cI "NOTE_EXACT" 3,cI "NOTE_HOUSE" 2,cI "NOTE_MADE" 8,cI "NOTE_NAME" 0,cS "NOTE_NAME_SIGNS" "abcdefghijklmnopqrstuvwxyzABCDEFGHIJKLMNOPQRSTUVWXYZ0123456789-_",cI "NOTE_PARTS" 10,cI "NOTE_PATH" 4,cI "NOTE_REACH" 7,cI "NOTE_SAFE" 6,cI "NOTE_USED" 9,cI "NOTE_WORTH" 1,cS "NO_WORTH_SIGNS" ";,=",cS "PATH_SIGNS" "abcdefghijklmnopqrstuvwxyz0123456789-_./"]
def qL:Str:="sent.<locals>.<lambda>"
section
variable {P:rl} {w:C_} {K:f_} {mg:Str→Option g_} {base h:KO} {f:l_} {Pt:l_} {cls:Nat→l_} {CJ:l_} (XI:K.In h) (Gn:h.Ns z_ mg) (M:MA mg CC) (bi:Ef K mg) (xa:XAllS K [1,2,3,4,5,6] cls CJ) (ca:CA K mg cls CJ [1,2,3,4,5,6] 7)
include XI Gn M bi xa ca
def T0:bX:=[]
def TE0:bX:=[]
def TL0:bX:=[]
def TU0:bX:=[]
def hU:FnS:=(av (aR (br (fB (f1 (cO bH) (ae 0)))) (aA (fC (.bl e_))) (fun ρ=>a_ (.nx ρ))) (av (aR (bOr (fB (f2 ltX (fB1 gU (ac (ae 0) ah)) (ae 2))) (fB (f2 gtD (fB1 gU (ac (ae 0) ah)) (ae 3)))) (aA (fC (.bl e_))) (fun ρ=>a_ (.nx ρ))) (aA (fB1 iW (ac (cF [("signs",1)] (dR (ae 0)) ck (f2 inD (ae 0) (ae 1))) ah)))))
def dq:List Dv→Option (Rs Dv):=bu 4 hU
def T1:bX:=("is_text_of",1,["thing","signs","least","most"],dq) :: T0
theorem mf (A:Af K "is_text_of" (top 9) f) (t:HA P w K mg base T0):HA P w K mg base T1 :=
 az (aO XI Gn ["thing","signs","least","most"] ["thing","signs","least","most"] hU A (by walk_at "d") (by delta hU; walk_at "b")) t
def jI:FnS:=(av (aR (br (fB (ag dq 4 (ac (ae 0) (ac (fC (.str "abcdefghijklmnopqrstuvwxyz0123456789-")) (ac (fC (.int 1)) (ac (fC (.int 8)) ah))))))) (aA (fC (.bl e_))) (fun ρ=>a_ (.nx ρ))) (aA (c0 (fw (fM (mU K1) (ae 0) (ac (fC (.str "-")) ah))) (fw (fM (mU OW) (ae 0) (ac (fC (.str "-")) ah))))))
def ly:List Dv→Option (Rs Dv):=bu 1 jI
def T2:bX:=("is_label",2,["thing"],ly) :: T1
theorem pv (A:Af K "is_label" (top 18) f) (t:HA P w K mg base T1):HA P w K mg base T2 :=
 az (aO XI Gn ["thing"] ["thing"] jI A (by walk_at "d") (by delta jI; walk_at "b")) t
def kB:FnS:=(av (aR (br (fB (f1 (cO bH) (ae 0)))) (aA (fC (.bl e_))) (fun ρ=>a_ (.nx ρ))) (av (bc 1 (fM (gK) (ae 0) (ac (fC (.str ".")) ah))) (av (aR (bOr (fB (f2 gtD (fB1 gU (ac (ae 1) ah)) (fC (.int 5)))) (br (fB (fB1 iW (ac (cF [] (dR (ae 1)) ck (ag ly 1 (ac (ae 0) ah))) ah))))) (aA (fC (.bl e_))) (fun ρ=>a_ (.nx ρ))) (aA (fw (ag dq 4 (ac (f2 ixD (ae 1) (f1 yc (fC (.int 1)))) (ac (fC (.str "0123456789")) (ac (fC (.int 1)) (ac (fC (.int 8)) ah))))))))))
def bS:List Dv→Option (Rs Dv):=bu 2 kB
def T3:bX:=("is_name",3,["thing"],bS) :: T2
theorem rE (A:Af K "is_name" (top 19) f) (t:HA P w K mg base T2):HA P w K mg base T3 :=
 az (aO XI Gn ["thing","parts"] ["thing"] kB A (by walk_at "d") (by delta kB; walk_at "b")) t
def kG:FnS:=(aA (c0 (ag dq 4 (ac (ae 0) (ac (fC (.str "abcdefghijklmnopqrstuvwxyz0123456789-_./")) (ac (fC (.int 1)) (ac (fC (.int 20)) ah))))) (fM (mU K1) (ae 0) (ac (fC (.str "/")) ah))))
def bZ:List Dv→Option (Rs Dv):=bu 1 kG
def T4:bX:=("is_path",2,["thing"],bZ) :: T3
theorem rF (A:Af K "is_path" (top 32) f) (t:HA P w K mg base T3):HA P w K mg base T4 :=
 az (aO XI Gn ["thing"] ["thing"] kG A (by walk_at "d") (by delta kG; walk_at "b")) t
def gD:FnS:=(aA (c0 (f1 (cO bK) (ae 0)) (f2 eqX (fB1 gU (ac (ae 0) ah)) (ae 1))))
def ce:List Dv→Option (Rs Dv):=bu 2 gD
def T5:bX:=("is_tuple_of",1,["thing","parts"],ce) :: T4
theorem kZ (A:Af K "is_tuple_of" (top 11) f) (t:HA P w K mg base T4):HA P w K mg base T5 :=
 az (aO XI Gn ["thing","parts"] ["thing","parts"] gD A (by walk_at "d") (by delta gD; walk_at "b")) t
def gE:FnS:=(av (aR (br (fB (ag ce 2 (ac (ae 0) (ac (fC (.int 4)) ah))))) (aA (fC (.bl e_))) (fun ρ=>a_ (.nx ρ))) (aA (fB1 iW (ac (bJ (ac (f1 (cO aH) (f2 ixD (ae 0) (fC (.int 0)))) (ac (ag bS 1 (ac (f2 ixD (ae 0) (fC (.int 1))) ah)) (ac (ag bZ 1 (ac (f2 ixD (ae 0) (fC (.int 2))) ah)) (ac (vOr (f2 isN (f2 ixD (ae 0) (fC (.int 3))) (fC .non)) (ag bS 1 (ac (f2 ixD (ae 0) (fC (.int 3))) ah))) ah))))) ah))))
def el:List Dv→Option (Rs Dv):=bu 1 gE
def T6:bX:=("is_ask",4,["thing"],el) :: T5
theorem uY (A:Af K "is_ask" (top 47) f) (t:HA P w K mg base T5):HA P w K mg base T6 :=
 az (aO XI Gn ["thing"] ["thing"] gE A (by walk_at "d") (by delta gE; walk_at "b")) t
def gF:FnS:=(aR (br (fB (ag el 1 (ac (ae 0) ah)))) (aG 3 (fC (.str "this is no ask"))) (fun ρ=>a_ (.nx ρ)))
def cB:List Dv→Option (Rs Dv):=eV 1 gF
def TE1:bX:=("need_ask",5,["thing"],cB) :: TE0
theorem pw (A:Af K "need_ask" (top 48) f) (t:HA P w K mg base T6) (te:HAE P w K mg base TE0):HAE P w K mg base TE1 :=
 bz (cg XI Gn ["thing"] ["thing"] gF A (by walk_at "d") (by delta gF; walk_at "b")) te
def xq:FnS:=(aA (cx (ac (f2 ixD (ae 0) (fC (.int 0))) (ac (f2 ixD (ae 0) (fC (.int 2))) (ac (f2 ixD (ae 0) (fC (.int 4))) ah)))))
def dw:List Dv→Option (Rs Dv):=bu 1 xq
def T7:bX:=("key",1,["note"],dw) :: T6
theorem EJ (A:Af K "key" (top 94) f) (t:HA P w K mg base T6):HA P w K mg base T7 :=
 az (aO XI Gn ["note"] ["note"] xq A (by walk_at "d") (by delta xq; walk_at "b")) t
def cf:FnS:=(av (bc 1 (cp 1 [] (dR (ae 0)) (gN 0) ck (ag dw 1 (ac (ae 0) ah)))) (aA (f2 eqX (fB1 kA (ac (ae 1) ah)) (fB1 gU (ac (ae 1) ah)))))
def cL:List Dv→Option (Rs Dv):=bu 2 cf
def T8:bX:=("has_no_key_twice",2,["notes"],cL) :: T7
theorem iK (A:Af K "has_no_key_twice" (top 102) f) (t:HA P w K mg base T7):HA P w K mg base T8 :=
 az (aO XI Gn ["notes","keys"] ["notes"] cf A (by walk_at "d") (by delta cf; walk_at "b")) t
def hZ:FnS:=(aA (fB1 iW (ac (cF [("notes",0)] (fun ρ=>bnd ((ac (fC (.int 1)) (ac (fB1 gU (ac (ae 0) ah)) ah)) ρ) vK) ck (f2 leX (f2 ixD (f2 ixD (ae 1) (f2 zo (ae 0) (fC (.int 1)))) (fC (.int 8))) (f2 ixD (f2 ixD (ae 1) (ae 0)) (fC (.int 8))))) ah)))
def fE:List Dv→Option (Rs Dv):=bu 1 hZ
def T9:bX:=("is_by_made",1,["notes"],fE) :: T8
theorem mh (A:Af K "is_by_made" (top 101) f) (t:HA P w K mg base T8):HA P w K mg base T9 :=
 az (aO XI Gn ["notes"] ["notes"] hZ A (by walk_at "d") (by delta hZ; walk_at "b")) t
def bd:FnS:=(av (aR (bOr (br (fB (f1 (cO bM) (ae 0)))) (fB (f1 (cO aH) (ae 0)))) (aA (fC (.bl e_))) (fun ρ=>a_ (.nx ρ))) (aA (c0 (f2 leX (ae 1) (ae 0)) (f2 leX (ae 0) (ae 2)))))
def aQ:List Dv→Option (Rs Dv):=bu 3 bd
def T10:bX:=("is_whole_number",1,["thing","least","most"],aQ) :: T9
theorem jf (A:Af K "is_whole_number" (top 10) f) (t:HA P w K mg base T9):HA P w K mg base T10 :=
 az (aO XI Gn ["thing","least","most"] ["thing","least","most"] bd A (by walk_at "d") (by delta bd; walk_at "b")) t
def dU:FnS:=(aA (ag aQ 3 (ac (ae 0) (ac (fC (.int 0)) (ac (fC (.int 9999)) ah)))))
def bj:List Dv→Option (Rs Dv):=bu 1 dU
def T11:bX:=("is_moment",2,["thing"],bj) :: T10
theorem nG (A:Af K "is_moment" (top 44) f) (t:HA P w K mg base T10):HA P w K mg base T11 :=
 az (aO XI Gn ["thing"] ["thing"] dU A (by walk_at "d") (by delta dU; walk_at "b")) t
def aT:FnS:=(aA (vOr (f2 isN (ae 0) (fC .non)) (ag bj 1 (ac (ae 0) ah))))
def au:List Dv→Option (Rs Dv):=bu 1 aT
def T12:bX:=("is_moment_or_none",3,["thing"],au) :: T11
theorem iA (A:Af K "is_moment_or_none" (top 45) f) (t:HA P w K mg base T11):HA P w K mg base T12 :=
 az (aO XI Gn ["thing"] ["thing"] aT A (by walk_at "d") (by delta aT; walk_at "b")) t
def fI:FnS:=(aA (ag dq 4 (ac (ae 0) (ac (fC (.str "abcdefghijklmnopqrstuvwxyzABCDEFGHIJKLMNOPQRSTUVWXYZ0123456789-_")) (ac (fC (.int 1)) (ac (fC (.int 10)) ah))))))
def aF:List Dv→Option (Rs Dv):=bu 1 fI
def T13:bX:=("is_note_name",2,["thing"],aF) :: T12
theorem kH (A:Af K "is_note_name" (top 65) f) (t:HA P w K mg base T12):HA P w K mg base T13 :=
 az (aO XI Gn ["thing"] ["thing"] fI A (by walk_at "d") (by delta fI; walk_at "b")) t
def jJ:FnS:=(aA (vOr (f2 eqX (ae 0) (fC (.str "any"))) (f2 eqX (ae 0) (fC (.str "near")))))
def eQ:List Dv→Option (Rs Dv):=bu 1 jJ
def T14:bX:=("is_reach",1,["thing"],eQ) :: T13
theorem pA (A:Af K "is_reach" (top 67) f) (t:HA P w K mg base T13):HA P w K mg base T14 :=
 az (aO XI Gn ["thing"] ["thing"] jJ A (by walk_at "d") (by delta jJ; walk_at "b")) t
def jK:FnS:=(av (aR (bOr (br (fB (f1 (cO bH) (ae 0)))) (fB (f2 gtD (fB1 gU (ac (ae 0) ah)) (fC (.int 12))))) (aA (fC (.bl e_))) (fun ρ=>a_ (.nx ρ))) (aA (fB1 iW (ac (cF [] (dR (ae 0)) ck (c0 (f2 leX (fC (.str "!")) (ae 0)) (c0 (f2 leX (ae 0) (fC (.str "~"))) (f2 mT (ae 0) (fC (.str ";,=")))))) ah))))
def bw:List Dv→Option (Rs Dv):=bu 1 jK
def T15:bX:=("is_worth",1,["thing"],bw) :: T14
theorem pB (A:Af K "is_worth" (top 66) f) (t:HA P w K mg base T14):HA P w K mg base T15 :=
 az (aO XI Gn ["thing"] ["thing"] jK A (by walk_at "d") (by delta jK; walk_at "b")) t
def jg:FnS:=(av (aR (br (fB (ag ce 2 (ac (ae 0) (ac (fC (.int 10)) ah))))) (aA (fC (.bl e_))) (fun ρ=>a_ (.nx ρ))) (av (aR (bOr (br (fB (ag bj 1 (ac (f2 ixD (ae 0) (fC (.int 8))) ah)))) (br (fB (ag bj 1 (ac (f2 ixD (ae 0) (fC (.int 9))) ah))))) (aA (fC (.bl e_))) (fun ρ=>a_ (.nx ρ))) (aA (fB1 iW (ac (bJ (ac (ag aF 1 (ac (f2 ixD (ae 0) (fC (.int 0))) ah)) (ac (ag bw 1 (ac (f2 ixD (ae 0) (fC (.int 1))) ah)) (ac (ag bS 1 (ac (f2 ixD (ae 0) (fC (.int 2))) ah)) (ac (f1 (cO aH) (f2 ixD (ae 0) (fC (.int 3)))) (ac (ag bZ 1 (ac (f2 ixD (ae 0) (fC (.int 4))) ah)) (ac (ag au 1 (ac (f2 ixD (ae 0) (fC (.int 5))) ah)) (ac (f1 (cO aH) (f2 ixD (ae 0) (fC (.int 6)))) (ac (ag eQ 1 (ac (f2 ixD (ae 0) (fC (.int 7))) ah)) (ac (f2 leX (f2 ixD (ae 0) (fC (.int 8))) (f2 ixD (ae 0) (fC (.int 9)))) ah)))))))))) ah)))))
def eY:List Dv→Option (Rs Dv):=bu 1 jg
def T16:bX:=("is_note",4,["thing"],eY) :: T15
theorem rG (A:Af K "is_note" (top 89) f) (t:HA P w K mg base T15):HA P w K mg base T16 :=
 az (aO XI Gn ["thing"] ["thing"] jg A (by walk_at "d") (by delta jg; walk_at "b")) t
def jh:FnS:=(av (aR (bOr (br (fB (f1 (cO bK) (ae 0)))) (fB (f2 gtD (fB1 gU (ac (ae 0) ah)) (fC (.int 20))))) (aA (fC (.bl e_))) (fun ρ=>a_ (.nx ρ))) (av (aR (br (fB (fB1 iW (ac (cF [] (dR (ae 0)) ck (ag eY 1 (ac (ae 0) ah))) ah)))) (aA (fC (.bl e_))) (fun ρ=>a_ (.nx ρ))) (aA (c0 (ag fE 1 (ac (ae 0) ah)) (ag cL 1 (ac (ae 0) ah))))))
def eK:List Dv→Option (Rs Dv):=bu 1 jh
def T17:bX:=("is_jar",5,["thing"],eK) :: T16
theorem uZ (A:Af K "is_jar" (top 100) f) (t:HA P w K mg base T16):HA P w K mg base T17 :=
 az (aO XI Gn ["thing"] ["thing"] jh A (by walk_at "d") (by delta jh; walk_at "b")) t
def gG:FnS:=(aR (br (fB (ag eK 1 (ac (ae 0) ah)))) (aG 5 (fC (.str "this is no jar"))) (fun ρ=>a_ (.nx ρ)))
def cC:List Dv→Option (Rs Dv):=eV 1 gG
def TE2:bX:=("need_jar",6,["thing"],cC) :: TE1
theorem pC (A:Af K "need_jar" (top 103) f) (t:HA P w K mg base T17) (te:HAE P w K mg base TE1):HAE P w K mg base TE2 :=
 bz (cg XI Gn ["thing"] ["thing"] gG A (by walk_at "d") (by delta gG; walk_at "b")) te
def ez:FnS:=(aR (br (fB (ag bj 1 (ac (ae 0) ah)))) (aG 6 (fC (.str "this is no moment"))) (fun ρ=>a_ (.nx ρ)))
def bg:List Dv→Option (Rs Dv):=eV 1 ez
def TE3:bX:=("need_moment",3,["thing"],bg) :: TE2
theorem k6 (A:Af K "need_moment" (top 46) f) (t:HA P w K mg base T17) (te:HAE P w K mg base TE2):HAE P w K mg base TE3 :=
 bz (cg XI Gn ["thing"] ["thing"] ez A (by walk_at "d") (by delta ez; walk_at "b")) te
def kJ:FnS:=(av (aR (br (fB (f1 (cO bH) (ae 0)))) (aA (fC (.bl e_))) (fun ρ=>a_ (.nx ρ))) (av (aR (fB (fM (mU K1) (ae 0) (ac (fC (.str "*.")) ah))) (aA (ag bS 1 (ac (rS (ae 0) (cG (fC (.int 2))) dv) ah))) (fun ρ=>a_ (.nx ρ))) (av (aR (fB (fM (mU K1) (ae 0) (ac (fC (.str "!")) ah))) (aA (c0 (f2 inD (fC (.str ".")) (ae 0)) (ag bS 1 (ac (rS (ae 0) (cG (fC (.int 1))) dv) ah)))) (fun ρ=>a_ (.nx ρ))) (aA (ag bS 1 (ac (ae 0) ah))))))
def nH:List Dv→Option (Rs Dv):=bu 1 kJ
def T18:bX:=("is_rule",4,["thing"],nH) :: T17
theorem rH (A:Af K "is_rule" (top 20) f) (t:HA P w K mg base T17):HA P w K mg base T18 :=
 az (aO XI Gn ["thing"] ["thing"] kJ A (by walk_at "d") (by delta kJ; walk_at "b")) t
def jL:FnS:=(av (aR (bOr (br (fB (f1 (cO bK) (ae 0)))) (fB (f2 gtD (fB1 gU (ac (ae 0) ah)) (fC (.int 8))))) (aA (fC (.bl e_))) (fun ρ=>a_ (.nx ρ))) (av (aR (br (fB (fB1 iW (ac (cF [] (dR (ae 0)) ck (ag nH 1 (ac (ae 0) ah))) ah)))) (aA (fC (.bl e_))) (fun ρ=>a_ (.nx ρ))) (aA (fB1 iW (ac (cF [("thing",0)] (fun ρ=>bnd ((ac (fC (.int 1)) (ac (fB1 gU (ac (ae 0) ah)) ah)) ρ) vK) ck (f2 ltX (f2 ixD (ae 1) (f2 zo (ae 0) (fC (.int 1)))) (f2 ixD (ae 1) (ae 0)))) ah)))))
def dX:List Dv→Option (Rs Dv):=bu 1 jL
def T19:bX:=("is_table",5,["thing"],dX) :: T18
theorem pD (A:Af K "is_table" (top 21) f) (t:HA P w K mg base T18):HA P w K mg base T19 :=
 az (aO XI Gn ["thing"] ["thing"] jL A (by walk_at "d") (by delta jL; walk_at "b")) t
def eM:FnS:=(aR (br (fB (ag dX 1 (ac (ae 0) ah)))) (aG 1 (fC (.str "this is no table"))) (fun ρ=>a_ (.nx ρ)))
def bN:List Dv→Option (Rs Dv):=eV 1 eM
def TE4:bX:=("need_table",6,["thing"],bN) :: TE3
theorem mi (A:Af K "need_table" (top 22) f) (t:HA P w K mg base T19) (te:HAE P w K mg base TE3):HAE P w K mg base TE4 :=
 bz (cg XI Gn ["thing"] ["thing"] eM A (by walk_at "d") (by delta eM; walk_at "b")) te
def dg:FnS:=(aA (ag dq 4 (ac (ae 0) (ac (fC (.str "0123456789")) (ac (fC (.int 1)) (ac (fC (.int 4)) ah))))))
def dh:List Dv→Option (Rs Dv):=bu 1 dg
def T20:bX:=("is_written_moment",2,["text"],dh) :: T19
theorem iB (A:Af K "is_written_moment" (top 70) f) (t:HA P w K mg base T19):HA P w K mg base T20 :=
 az (aO XI Gn ["text"] ["text"] dg A (by walk_at "d") (by delta dg; walk_at "b")) t
def fJ:FnS:=(av (aR (fB (f2 eqX (ae 0) (fC (.str "safe")))) (aA (cx (ac (fC (.int 6)) (ac (fC (.bl d_)) ah)))) (fun ρ=>a_ (.nx ρ))) (av (aR (fB (ag eQ 1 (ac (ae 0) ah))) (aA (cx (ac (fC (.int 7)) (ac (ae 0) ah)))) (fun ρ=>a_ (.nx ρ))) (av (bc 1 (fM (lU) (ae 0) (ac (fC (.str " ")) ah))) (av (bc 2 (f2 ixD (ae 1) (fC (.int 0)))) (av (bc 3 (f2 ixD (ae 1) (fC (.int 2)))) (av (aR (cM (fB (f2 eqX (ae 2) (fC (.str "for")))) (fB (ag bS 1 (ac (ae 3) ah)))) (aA (cx (ac (fC (.int 2)) (ac (ae 3) ah)))) (fun ρ=>a_ (.nx ρ))) (av (aR (cM (fB (f2 eqX (ae 2) (fC (.str "under")))) (fB (ag bZ 1 (ac (ae 3) ah)))) (aA (cx (ac (fC (.int 3)) (ac (ae 3) ah)))) (fun ρ=>a_ (.nx ρ))) (av (aR (cM (fB (f2 eqX (ae 2) (fC (.str "until")))) (fB (ag dh 1 (ac (ae 3) ah)))) (aA (cx (ac (fC (.int 4)) (ac (fB1 Gh (ac (ae 3) ah)) ah)))) (fun ρ=>a_ (.nx ρ))) (av (aR (cM (fB (f2 eqX (ae 2) (fC (.str "lasts")))) (fB (ag dh 1 (ac (ae 3) ah)))) (aA (cx (ac (fC (.int 5)) (ac (fB1 Gh (ac (ae 3) ah)) ah)))) (fun ρ=>a_ (.nx ρ))) (aA (fC .non)))))))))))
def aV:List Dv→Option (Rs Dv):=bu 4 fJ
def T21:bX:=("what_is_told",4,["part"],aV) :: T20
theorem kK (A:Af K "what_is_told" (top 71) f) (t:HA P w K mg base T20):HA P w K mg base T21 :=
 az (aO XI Gn ["part","pieces","word","rest"] ["part"] fJ A (by walk_at "d") (by delta fJ; walk_at "b")) t
def bA:iX:=(eE (fz 5 (ag aV 1 (ac (ae 4) ah))) (oIf (fB (f2 dz (ae 5) (fC .non))) (qj (f2 ixD (ae 5) (fC (.int 0))) (f2 ixD (ae 5) (fC (.int 1)))) Bv))
def dG:FnS:=(av (aR (br (fB (f1 (cO bH) (ae 0)))) (aG 4 (fC (.str "this is no text"))) (fun ρ=>a_ (.nx ρ))) (av (bc 1 (cp 1 [] (dR (fM (gK) (ae 0) (ac (fC (.str ";")) ah))) (gN 0) ck (fM (ko) (ae 0) (ac (fC (.str " ")) ah)))) (av (bc 2 (fM (lU) (f2 ixD (ae 1) (fC (.int 0))) (ac (fC (.str "=")) ah))) (av (aR (bOr (fB (f2 eqX (f2 ixD (ae 2) (fC (.int 1))) (fC (.str "")))) (bOr (br (fB (ag aF 1 (ac (f2 ixD (ae 2) (fC (.int 0))) ah)))) (br (fB (ag bw 1 (ac (f2 ixD (ae 2) (fC (.int 2))) ah)))))) (aG 4 (fC (.str "the first part is no note's name, = and worth"))) (fun ρ=>a_ (.nx ρ))) (p9 3 (ac (f2 ixD (ae 2) (fC (.int 0))) (ac (f2 ixD (ae 2) (fC (.int 2))) (ac (fC .non) (ac (fC .non) (ac (fC .non) (ac (fC .non) (ac (fC (.bl e_)) (ac (fC (.str "any")) ah)))))))) (eE (qc 4 [4,5] (dR (rS (ae 1) (cG (fC (.int 1))) dv)) bA) (tW 3 (fB1 gL (ac (ae 3) ah)))))))))
def aJ:List Dv→Option (Rs Dv):=eV 6 dG
def TE5:bX:=("read_given",5,["text"],aJ) :: TE4
theorem mj (A:Af K "read_given" (top 72) f) (t:HA P w K mg base T21) (te:HAE P w K mg base TE4):HAE P w K mg base TE5 :=
 bz (cg XI Gn ["text","parts","first","given","part","told"] ["text"] dG A (by walk_at "d") (by delta dG bA; walk_at "b")) te
def bB:FnS:=(av (aS (am bN 1 (ac (ae 0) ah))) (av (aS (am cC 1 (ac (ae 1) ah))) (av (aS (am cB 1 (ac (ae 2) ah))) (av (bc 5 (am aJ 1 (ac (ae 3) ah))) (av (aS (am bg 1 (ac (ae 4) ah))) (aA (ae 5)))))))
def aC:List Dv→Option (Rs Dv):=eV 6 bB
def TE6:bX:=("read_what_is_given",7,["table","jar","ask","text","now"],aC) :: TE5
theorem ia (A:Af K "read_what_is_given" (top 108) f) (te:HAE P w K mg base TE5):HAE P w K mg base TE6 :=
 bz (cg XI Gn ["table","jar","ask","text","now","given"] ["table","jar","ask","text","now"] bB A (by walk_at "d") (by delta bB; walk_at "b")) te
def gH:FnS:=(aA (c0 (f2 dz (f2 ixD (ae 0) (fC (.int 5))) (fC .non)) (f2 leX (f2 ixD (ae 0) (fC (.int 5))) (ae 1))))
def aZ:List Dv→Option (Rs Dv):=bu 2 gH
def T22:bX:=("has_ended",1,["note","now"],aZ) :: T21
theorem nI (A:Af K "has_ended" (top 95) f) (t:HA P w K mg base T21):HA P w K mg base T22 :=
 az (aO XI Gn ["note","now"] ["note","now"] gH A (by walk_at "d") (by delta gH; walk_at "b")) t
def ib:FnS:=(av (aR (fB (f2 isN (f2 ixD (ae 0) (fC (.int 5))) (fC .non))) (aA (f2 ixD (ae 0) (fC (.int 4)))) (fun ρ=>a_ (.nx ρ))) (aA (fB1 Gf (ac (f2 df (ae 1) (f2 ixD (ae 0) (fC (.int 5)))) (ac (fC (.int 9999)) ah)))))
def ic:List Dv→Option (Rs Dv):=bu 2 ib
def T23:bX:=("end_for",1,["given","now"],ic) :: T22
theorem rJ (A:Af K "end_for" (top 92) f) (t:HA P w K mg base T22):HA P w K mg base T23 :=
 az (aO XI Gn ["given","now"] ["given","now"] ib A (by walk_at "d") (by delta ib; walk_at "b")) t
def eZ:FnS:=(av (aR (fB (f2 isN (f2 ixD (ae 1) (fC (.int 2))) (fC .non))) (aA (f2 ixD (ae 0) (fC (.int 1)))) (fun ρ=>a_ (.nx ρ))) (aA (f2 ixD (ae 1) (fC (.int 2)))))
def fg:List Dv→Option (Rs Dv):=bu 2 eZ
def T24:bX:=("house_for",1,["ask","given"],fg) :: T23
theorem nJ (A:Af K "house_for" (top 90) f) (t:HA P w K mg base T23):HA P w K mg base T24 :=
 az (aO XI Gn ["ask","given"] ["ask","given"] eZ A (by walk_at "d") (by delta eZ; walk_at "b")) t
def dH:FnS:=(aA (f2 ixD (fM (lU) (ae 0) (ac (fC (.str ".")) ah)) (fC (.int 2))))
def dI:List Dv→Option (Rs Dv):=bu 1 dH
def T25:bX:=("behind_first_dot",1,["end"],dI) :: T24
theorem iL (A:Af K "behind_first_dot" (top 25) f) (t:HA P w K mg base T24):HA P w K mg base T25 :=
 az (aO XI Gn ["end"] ["end"] dH A (by walk_at "d") (by delta dH; walk_at "b")) t
def cX:FnS:=(av (bc 1 (fM (gK) (ae 0) (ac (fC (.str ".")) ah))) (aA (cF [("parts",1)] (fun ρ=>bnd ((ac (fB1 gU (ac (ae 1) ah)) ah) ρ) qV) ck (fM (wq) (fC (.str ".")) (ac (rS (ae 1) (cG (ae 0)) dv) ah)))))
def cY:List Dv→Option (Rs Dv):=bu 2 cX
def T26:bX:=("ends_longest_first",1,["name"],cY) :: T25
theorem ie (A:Af K "ends_longest_first" (top 24) f) (t:HA P w K mg base T25):HA P w K mg base T26 :=
 az (aO XI Gn ["name","parts"] ["name"] cX A (by walk_at "d") (by delta cX; walk_at "b")) t
def fK:FnS:=(av (aR (fB (f2 inD (ae 1) (ae 0))) (aA (fC (.bl d_))) (fun ρ=>a_ (.nx ρ))) (aA (c0 (f2 inD (fC (.str ".")) (ae 1)) (f2 inD (f2 df (fC (.str "*.")) (ag dI 1 (ac (ae 1) ah))) (ae 0)))))
def iD:List Dv→Option (Rs Dv):=bu 2 fK
def T27:bX:=("is_told_open",2,["table","end"],iD) :: T26
theorem kL (A:Af K "is_told_open" (top 26) f) (t:HA P w K mg base T26):HA P w K mg base T27 :=
 az (aO XI Gn ["table","end"] ["table","end"] fK A (by walk_at "d") (by delta fK; walk_at "b")) t
def fX:FnS:=(aR (fB (f2 inD (f2 df (fC (.str "!")) (ae 3)) (ae 0))) (aA (ag dI 1 (ac (ae 3) ah))) (fun ρ=>a_ (.nx ρ)))
def fY:FnS:=(aR (fB (ag iD 2 (ac (ae 0) (ac (ae 3) ah)))) (aA (ae 3)) (fun ρ=>a_ (.nx ρ)))
def fj:FnS:=(av (bc 2 (ag cY 1 (ac (ae 1) ah))) (av (CH 3 [] (dR (ae 2)) fX) (av (CH 3 [3] (dR (ae 2)) fY) (aA (f2 ixD (ae 2) (f1 yc (fC (.int 1))))))))
def cQ:List Dv→Option (Rs Dv):=bu 4 fj
def T28:bX:=("find_open_end",3,["table","name"],cQ) :: T27
theorem j5 (A:Af K "find_open_end" (top 27) f) (t:HA P w K mg base T27):HA P w K mg base T28 :=
 az (aO XI Gn ["table","name","ends","end"] ["table","name"] fj A (by walk_at "d") (by delta fj fX fY; walk_at "b")) t
def ji:FnS:=(aA (f2 eqX (ag cQ 2 (ac (ae 0) (ac (ae 1) ah))) (ae 1)))
def fZ:List Dv→Option (Rs Dv):=bu 2 ji
def T29:bX:=("is_open",4,["table","house"],fZ) :: T28
theorem rK (A:Af K "is_open" (top 85) f) (t:HA P w K mg base T28):HA P w K mg base T29 :=
 az (aO XI Gn ["table","house"] ["table","house"] ji A (by walk_at "d") (by delta ji; walk_at "b")) t
def gf:FnS:=(av (bc 3 (f2 ixD (ae 2) (fC (.int 2)))) (av (aR (fB (f2 isN (ae 3) (fC .non))) (aA (fC (.bl d_))) (fun ρ=>a_ (.nx ρ))) (aA (c0 (f2 eqX (ae 3) (f2 ixD (ae 1) (fC (.int 1)))) (ag fZ 2 (ac (ae 0) (ac (ae 3) ah)))))))
def cU:List Dv→Option (Rs Dv):=bu 4 gf
def T30:bX:=("is_exact",5,["table","ask","given"],cU) :: T29
theorem pE (A:Af K "is_exact" (top 86) f) (t:HA P w K mg base T29):HA P w K mg base T30 :=
 az (aO XI Gn ["table","ask","given","house"] ["table","ask","given"] gf A (by walk_at "d") (by delta gf; walk_at "b")) t
def cq:FnS:=(av (aR (br (fB (ag ce 2 (ac (ae 0) (ac (fC (.int 8)) ah))))) (aA (fC (.bl e_))) (fun ρ=>a_ (.nx ρ))) (aA (fB1 iW (ac (bJ (ac (ag aF 1 (ac (f2 ixD (ae 0) (fC (.int 0))) ah)) (ac (ag bw 1 (ac (f2 ixD (ae 0) (fC (.int 1))) ah)) (ac (vOr (f2 isN (f2 ixD (ae 0) (fC (.int 2))) (fC .non)) (ag bS 1 (ac (f2 ixD (ae 0) (fC (.int 2))) ah))) (ac (vOr (f2 isN (f2 ixD (ae 0) (fC (.int 3))) (fC .non)) (ag bZ 1 (ac (f2 ixD (ae 0) (fC (.int 3))) ah))) (ac (ag au 1 (ac (f2 ixD (ae 0) (fC (.int 4))) ah)) (ac (ag au 1 (ac (f2 ixD (ae 0) (fC (.int 5))) ah)) (ac (f1 (cO aH) (f2 ixD (ae 0) (fC (.int 6)))) (ac (ag eQ 1 (ac (f2 ixD (ae 0) (fC (.int 7))) ah)) ah))))))))) ah))))
def bR:List Dv→Option (Rs Dv):=bu 1 cq
def T31:bX:=("is_given",4,["thing"],bR) :: T30
theorem pF (A:Af K "is_given" (top 68) f) (t:HA P w K mg base T30):HA P w K mg base T31 :=
 az (aO XI Gn ["thing"] ["thing"] cq A (by walk_at "d") (by delta cq; walk_at "b")) t
def eP:FnS:=(aR (br (fB (ag bR 1 (ac (ae 0) ah)))) (aG 4 (fC (.str "this can't be given"))) (fun ρ=>a_ (.nx ρ)))
def dJ:List Dv→Option (Rs Dv):=eV 1 eP
def TE7:bX:=("need_given",5,["thing"],dJ) :: TE6
theorem mn (A:Af K "need_given" (top 69) f) (t:HA P w K mg base T31) (te:HAE P w K mg base TE6):HAE P w K mg base TE7 :=
 bz (cg XI Gn ["thing"] ["thing"] eP A (by walk_at "d") (by delta eP; walk_at "b")) te
def fF:FnS:=(aR (br (fB (ag bZ 1 (ac (ae 0) ah)))) (aG 2 (fC (.str "this is no path"))) (fun ρ=>a_ (.nx ρ)))
def cy:List Dv→Option (Rs Dv):=eV 1 fF
def TE8:bX:=("need_path",3,["thing"],cy) :: TE7
theorem nK (A:Af K "need_path" (top 33) f) (t:HA P w K mg base T31) (te:HAE P w K mg base TE7):HAE P w K mg base TE8 :=
 bz (cg XI Gn ["thing"] ["thing"] fF A (by walk_at "d") (by delta fF; walk_at "b")) te
def kN:FnS:=(av (aS (am cy 1 (ac (ae 0) ah))) (av (bc 1 (fM (F9 S7) (ae 0) (ac (fC (.str "/")) ah))) (av (aR (fB (f2 eqX (ae 1) (fC (.int 0)))) (aA (fC (.str "/"))) (fun ρ=>a_ (.nx ρ))) (aA (rS (ae 0) dv (cG (ae 1)))))))
def jj:List Dv→Option (Rs Dv):=eV 2 kN
def TE9:bX:=("folder",4,["path"],jj) :: TE8
theorem u3 (A:Af K "folder" (top 34) f) (te:HAE P w K mg base TE8):HAE P w K mg base TE9 :=
 bz (cg XI Gn ["path","place"] ["path"] kN A (by walk_at "d") (by delta kN; walk_at "b")) te
def fk:FnS:=(av (aR (fB (f2 isN (f2 ixD (ae 1) (fC (.int 3))) (fC .non))) (aA (am jj 1 (ac (f2 ixD (ae 0) (fC (.int 2))) ah))) (fun ρ=>a_ (.nx ρ))) (aA (f2 ixD (ae 1) (fC (.int 3)))))
def dZ:List Dv→Option (Rs Dv):=eV 2 fk
def HX:bX:=("path_for",5,["ask","given"],dZ) :: TE9
theorem pG (A:Af K "path_for" (top 91) f) (te:HAE P w K mg base TE9):HAE P w K mg base HX :=
 bz (cg XI Gn ["ask","given"] ["ask","given"] fk A (by walk_at "d") (by delta fk; walk_at "b")) te
def fL:FnS:=(av (bc 2 (ag cQ 2 (ac (ae 0) (ac (ae 1) ah)))) (av (bc 3 (ag cY 1 (ac (ae 1) ah))) (av (bc 4 (fML Hg (ae 3) (ac (ae 2) ah))) (av (aR (fB (f2 eqX (ae 4) (fC (.int 0)))) (aA (fC .non)) (fun ρ=>a_ (.nx ρ))) (aA (f2 ixD (ae 3) (f2 zo (ae 4) (fC (.int 1)))))))))
def da:List Dv→Option (Rs Dv):=bu 5 fL
def T32:bX:=("find_own_end",4,["table","name"],da) :: T31
theorem kO (A:Af K "find_own_end" (top 28) f) (t:HA P w K mg base T31):HA P w K mg base T32 :=
 az (aO XI Gn ["table","name","end","ends","place"] ["table","name"] fL A (by walk_at "d") (by delta fL; walk_at "b")) t
def aD:FnS:=(av (bc 2 (f2 ixD (ae 1) (fC (.int 1)))) (av (bc 3 (f2 ixD (ae 1) (fC (.int 3)))) (av (aR (bOr (fB (f2 isN (ae 3) (fC .non))) (fB (f2 eqX (ae 3) (ae 2)))) (aA (fC (.bl d_))) (fun ρ=>a_ (.nx ρ))) (av (bc 4 (ag da 2 (ac (ae 0) (ac (ae 2) ah)))) (aA (c0 (f2 dz (ae 4) (fC .non)) (f2 eqX (ae 4) (ag da 2 (ac (ae 0) (ac (ae 3) ah))))))))))
def al:List Dv→Option (Rs Dv):=bu 5 aD
def T33:bX:=("comes_from_near",5,["table","ask"],al) :: T32
theorem jk (A:Af K "comes_from_near" (top 49) f) (t:HA P w K mg base T32):HA P w K mg base T33 :=
 az (aO XI Gn ["table","ask","house","origin","own"] ["table","ask"] aD A (by walk_at "d") (by delta aD; walk_at "b")) t
def bY:FnS:=(av (bc 3 (f2 ixD (ae 2) (fC (.int 0)))) (av (aR (fB (fM (mU K1) (ae 3) (ac (fC (.str "safe-")) ah))) (aA (f2 ixD (ae 2) (fC (.int 6)))) (fun ρ=>a_ (.nx ρ))) (av (aR (fB (fM (mU K1) (ae 3) (ac (fC (.str "own-")) ah))) (aA (c0 (f2 ixD (ae 2) (fC (.int 6))) (c0 (ag cU 3 (ac (ae 0) (ac (ae 1) (ac (ae 2) ah)))) (f2 eqX (f2 ixD (ae 2) (fC (.int 3))) (fC (.str "/")))))) (fun ρ=>a_ (.nx ρ))) (aA (fC (.bl d_))))))
def bG:List Dv→Option (Rs Dv):=bu 4 bY
def T34:bX:=("keeps_its_mark",6,["table","ask","given"],bG) :: T33
theorem jM (A:Af K "keeps_its_mark" (top 87) f) (t:HA P w K mg base T33):HA P w K mg base T34 :=
 az (aO XI Gn ["table","ask","given","name"] ["table","ask","given"] bY A (by walk_at "d") (by delta bY; walk_at "b")) t
def gI:FnS:=(aA (vOr (f2 eqX (ae 0) (ae 1)) (fM (mU OW) (ae 0) (ac (f2 df (fC (.str ".")) (ae 1)) ah))))
def aw:List Dv→Option (Rs Dv):=bu 2 gI
def T35:bX:=("lies_within",1,["one","other"],aw) :: T34
theorem k7 (A:Af K "lies_within" (top 23) f) (t:HA P w K mg base T34):HA P w K mg base T35 :=
 az (aO XI Gn ["one","other"] ["one","other"] gI A (by walk_at "d") (by delta gI; walk_at "b")) t
def bO:FnS:=(av (aS (am bN 1 (ac (ae 0) ah))) (av (aS (am cB 1 (ac (ae 1) ah))) (av (aS (am dJ 1 (ac (ae 2) ah))) (av (bc 3 (f2 ixD (ae 2) (fC (.int 2)))) (av (aR (cM (fB (f2 dz (ae 3) (fC .non))) (br (fB (ag aw 2 (ac (f2 ixD (ae 1) (fC (.int 1))) (ac (ae 3) ah)))))) (aA (fC (.str "foreign"))) (fun ρ=>a_ (.nx ρ))) (av (aR (cM (fB (f2 dz (ae 3) (fC .non))) (cM (fB (f2 neX (ae 3) (f2 ixD (ae 1) (fC (.int 1))))) (fB (ag fZ 2 (ac (ae 0) (ac (ae 3) ah)))))) (aA (fC (.str "open"))) (fun ρ=>a_ (.nx ρ))) (av (aR (cM (fB (f2 ixD (ae 2) (fC (.int 6)))) (br (fB (f2 ixD (ae 1) (fC (.int 0)))))) (aA (fC (.str "unsafe"))) (fun ρ=>a_ (.nx ρ))) (av (aR (br (fB (ag bG 3 (ac (ae 0) (ac (ae 1) (ac (ae 2) ah)))))) (aA (fC (.str "marked"))) (fun ρ=>a_ (.nx ρ))) (av (aR (cM (fB (f2 eqX (f2 ixD (ae 2) (fC (.int 7))) (fC (.str "near")))) (br (fB (ag al 2 (ac (ae 0) (ac (ae 1) ah)))))) (aA (fC (.str "far"))) (fun ρ=>a_ (.nx ρ))) (aA (fC .non)))))))))))
def aL:List Dv→Option (Rs Dv):=eV 4 bO
def HY:bX:=("why_refused",7,["table","ask","given"],aL) :: HX
theorem k8 (A:Af K "why_refused" (top 88) f) (t:HA P w K mg base T35) (te:HAE P w K mg base HX):HAE P w K mg base HY :=
 bz (cg XI Gn ["table","ask","given","house"] ["table","ask","given"] bO A (by walk_at "d") (by delta bO; walk_at "b")) te
def mo:FnS:=(av (aS (am bN 1 (ac (ae 0) ah))) (av (aS (am cB 1 (ac (ae 1) ah))) (av (aS (am dJ 1 (ac (ae 2) ah))) (av (aS (am bg 1 (ac (ae 3) ah))) (av (aR (fB (f2 dz (am aL 3 (ac (ae 0) (ac (ae 1) (ac (ae 2) ah)))) (fC .non))) (aG 4 (fC (.str "this may not be given by this ask"))) (fun ρ=>a_ (.nx ρ))) (aA (cx (ac (f2 ixD (ae 2) (fC (.int 0))) (ac (f2 ixD (ae 2) (fC (.int 1))) (ac (ag fg 2 (ac (ae 1) (ac (ae 2) ah))) (ac (ag cU 3 (ac (ae 0) (ac (ae 1) (ac (ae 2) ah)))) (ac (am dZ 2 (ac (ae 1) (ac (ae 2) ah))) (ac (ag ic 2 (ac (ae 2) (ac (ae 3) ah))) (ac (f2 ixD (ae 2) (fC (.int 6))) (ac (f2 ixD (ae 2) (fC (.int 7))) (ac (ae 3) (ac (ae 3) ah)))))))))))))))))
def cH:List Dv→Option (Rs Dv):=eV 4 mo
def HZ:bX:=("made",8,["table","ask","given","now"],cH) :: HY
theorem AD (A:Af K "made" (top 93) f) (t:HA P w K mg base T35) (te:HAE P w K mg base HY):HAE P w K mg base HZ :=
 bz (cg XI Gn ["table","ask","given","now"] ["table","ask","given","now"] mo A (by walk_at "d") (by delta mo; walk_at "b")) te
def ig:FnS:=(av (aR (fB (f2 eqX (ae 0) (ae 1))) (aA (fC (.bl d_))) (fun ρ=>a_ (.nx ρ))) (av (aR (br (fB (fM (mU K1) (ae 0) (ac (ae 1) ah)))) (aA (fC (.bl e_))) (fun ρ=>a_ (.nx ρ))) (aA (vOr (fM (mU OW) (ae 1) (ac (fC (.str "/")) ah)) (f2 eqX (f2 ixD (ae 0) (fB1 gU (ac (ae 1) ah))) (fC (.str "/")))))))
def aU:List Dv→Option (Rs Dv):=bu 2 ig
def T36:bX:=("lies_under",1,["path","top"],aU) :: T35
theorem mq (A:Af K "lies_under" (top 36) f) (t:HA P w K mg base T35):HA P w K mg base T36 :=
 az (aO XI Gn ["path","top"] ["path","top"] ig A (by walk_at "d") (by delta ig; walk_at "b")) t
def ii:FnS:=(av (aR (bOr (br (fB (f2 ixD (ae 0) (fC (.int 6))))) (bOr (fB (ag aZ 2 (ac (ae 0) (ac (ae 2) ah)))) (fB (f2 neX (f2 ixD (ae 0) (fC (.int 0))) (f2 ixD (ae 1) (fC (.int 0))))))) (aA (fC (.bl e_))) (fun ρ=>a_ (.nx ρ))) (av (aR (cM (br (fB (ag aw 2 (ac (f2 ixD (ae 1) (fC (.int 2))) (ac (f2 ixD (ae 0) (fC (.int 2))) ah))))) (br (fB (ag aw 2 (ac (f2 ixD (ae 0) (fC (.int 2))) (ac (f2 ixD (ae 1) (fC (.int 2))) ah)))))) (aA (fC (.bl e_))) (fun ρ=>a_ (.nx ρ))) (aA (ag aU 2 (ac (f2 ixD (ae 1) (fC (.int 4))) (ac (f2 ixD (ae 0) (fC (.int 4))) ah))))))
def ij:List Dv→Option (Rs Dv):=bu 3 ii
def T37:bX:=("shadows",2,["old","note","now"],ij) :: T36
theorem rL (A:Af K "shadows" (top 111) f) (t:HA P w K mg base T36):HA P w K mg base T37 :=
 az (aO XI Gn ["old","note","now"] ["old","note","now"] ii A (by walk_at "d") (by delta ii; walk_at "b")) t
def d5:FnS:=(av (bc 5 (am aL 3 (ac (ae 0) (ac (ae 2) (ac (ae 3) ah))))) (av (aR (fB (f2 dz (ae 5) (fC .non))) (aA (ae 5)) (fun ρ=>a_ (.nx ρ))) (av (bc 6 (am cH 4 (ac (ae 0) (ac (ae 2) (ac (ae 3) (ac (ae 4) ah)))))) (av (aR (cM (br (fB (f2 ixD (ae 2) (fC (.int 0))))) (fB (fB1 Ac (ac (cF [("now",4),("note",6)] (dR (ae 1)) ck (ag ij 3 (ac (ae 0) (ac (ae 2) (ac (ae 1) ah))))) ah)))) (aA (fC (.str "shadowed"))) (fun ρ=>a_ (.nx ρ))) (av (aR (fB (ag aZ 2 (ac (ae 6) (ac (ae 4) ah)))) (aA (fC (.str "gone"))) (fun ρ=>a_ (.nx ρ))) (aA (fC (.str "kept"))))))))
def bq:List Dv→Option (Rs Dv):=eV 7 d5
def Ia:bX:=("word_of",9,["table","jar","ask","given","now"],bq) :: HZ
theorem rM (A:Af K "word_of" (top 110) f) (t:HA P w K mg base T37) (te:HAE P w K mg base HZ):HAE P w K mg base Ia :=
 bz (cg XI Gn ["table","jar","ask","given","now","refused","note"] ["table","jar","ask","given","now"] d5 A (by walk_at "d") (by delta d5; walk_at "b")) te
def gg:FnS:=(av (bc 5 (am aC 5 (ac (ae 0) (ac (ae 1) (ac (ae 2) (ac (ae 3) (ac (ae 4) ah))))))) (aA (am bq 5 (ac (ae 0) (ac (ae 1) (ac (ae 2) (ac (ae 5) (ac (ae 4) ah))))))))
def gh:List Dv→Option (Rs Dv):=eV 6 gg
def Ib:bX:=("verdict",10,["table","jar","ask","text","now"],gh) :: Ia
theorem rN (A:Af K "verdict" (top 109) f) (te:HAE P w K mg base Ia):HAE P w K mg base Ib :=
 bz (cg XI Gn ["table","jar","ask","text","now","given"] ["table","jar","ask","text","now"] gg A (by walk_at "d") (by delta gg; walk_at "b")) te
def dL:FnS:=(av (bc 1 (bJ (ac (fC (.str "n=1; lasts 0")) (ac (fC (.str "n=1; until 5")) (ac (fC (.str "n=1; until 4")) (ac (fC (.str "n=1; until 6")) (ac (fC (.str "n=1; lasts 1")) (ac (fC (.str "n=1")) ah)))))))) (av (bc 2 (cp 1 [("_law_table_here",0)] (dR (ae 1)) (gN 0) ck (ag gh 5 (ac (ae 1) (ac (cx ah) (ac (cx (ac (fC (.bl d_)) (ac (fC (.str "p.q")) (ac (fC (.str "/")) (ac (fC .non) ah))))) (ac (ae 0) (ac (fC (.int 5)) ah)))))))) (aA (f2 eqX (ae 2) (f2 ci (f2 Gg (bJ (ac (fC (.str "gone")) ah)) (fC (.int 3))) (f2 Gg (bJ (ac (fC (.str "kept")) ah)) (fC (.int 3))))))))
def bE:List Dv→Option (Rs Dv):=eV 3 dL
def Ic:bX:=("_law_known_ones",11,["_law_table_here"],bE) :: Ib
theorem jm (A:Af K "_law_known_ones" (top 127) f) (te:HAE P w K mg base Ib):HAE P w K mg base Ic :=
 bz (cg XI Gn ["_law_table_here","_law_texts","_law_told"] ["_law_table_here"] dL A (by walk_at "d") (by delta dL; walk_at "b")) te
def fm:FnS:=(av (aR (fB (f2 Ga (ae 0) (bJ ah))) (aA (f2 jx (fC (.int 7)) (ae 1))) (fun ρ=>a_ (.nx ρ))) (aA (f2 df (f2 ixD (ae 0) (f2 iP (ae 1) (fB1 gU (ac (ae 0) ah)))) (f2 jx (fC (.int 6553)) (f2 iU (ae 1) (fB1 gU (ac (ae 0) ah)))))))
def di:List Dv→Option (Rs Dv):=bu 2 fm
def T38:bX:=("_law_cell",1,["_law_script","_law_k"],di) :: T37
theorem nM (A:Af K "_law_cell" (top 117) f) (t:HA P w K mg base T37):HA P w K mg base T38 :=
 az (aO XI Gn ["_law_script","_law_k"] ["_law_script","_law_k"] fm A (by walk_at "d") (by delta fm; walk_at "b")) t
def dr:FnS:=(av (bc 3 (f2 iP (f2 df (f2 jx (f2 iP (ag di 2 (ac (ae 0) (ac (ae 1) ah))) (fC (.int 2147483563))) (fC (.int 69069))) (f2 jx (fC (.int 104723)) (f2 df (ae 1) (fC (.int 1))))) (fC (.int 2147483563)))) (av (bc 3 (f2 iP (f2 df (f2 jx (ae 3) (ae 3)) (f2 iU (ae 3) (fC (.int 3)))) (fC (.int 2147483399)))) (aA (f2 iP (f2 iU (f2 iP (f2 df (f2 jx (ae 3) (ae 3)) (f2 iU (ae 3) (fC (.int 7)))) (fC (.int 2147483647))) (fC (.int 11))) (ae 2)))))
def ai:List Dv→Option (Rs Dv):=bu 4 dr
def T39:bX:=("_law_drawn",2,["_law_script","_law_k","_law_many"],ai) :: T38
theorem mr (A:Af K "_law_drawn" (top 118) f) (t:HA P w K mg base T38):HA P w K mg base T39 :=
 az (aO XI Gn ["_law_script","_law_k","_law_many","_law_cell_here"] ["_law_script","_law_k","_law_many"] dr A (by walk_at "d") (by delta dr; walk_at "b")) t
def iM:FnS:=(av (bc 2 (bJ (ac (fC (.str "a.b")) (ac (fC (.str "b")) (ac (fC (.str "x.a.b")) (ac (fC (.str "y.x.a.b")) (ac (fC (.str "c.uk")) (ac (fC (.str "uk")) (ac (fC (.str "d.c.uk")) (ac (fC (.str "e.d.c.uk")) ah)))))))))) (av (bc 2 (f2 df (ae 2) (bJ (ac (fC (.str "w.ck")) (ac (fC (.str "v.w.ck")) (ac (fC (.str "ck")) (ac (fC (.str "g-1.a.b")) (ac (fC (.str "7.b")) (ac (fC (.str "p.q")) ah))))))))) (aA (f2 ixD (ae 2) (ag ai 3 (ac (ae 0) (ac (ae 1) (ac (fB1 gU (ac (ae 2) ah)) ah))))))))
def ba:List Dv→Option (Rs Dv):=bu 3 iM
def T40:bX:=("_law_name",3,["_law_script","_law_at"],ba) :: T39
theorem nO (A:Af K "_law_name" (top 119) f) (t:HA P w K mg base T39):HA P w K mg base T40 :=
 az (aO XI Gn ["_law_script","_law_at","_law_some"] ["_law_script","_law_at"] iM A (by walk_at "d") (by delta iM; walk_at "b")) t
def iN : FnS := (av (bc 2 (bJ (ac (fC (.str "/")) (ac (fC (.str "/x")) (ac (fC (.str "/x/")) (ac (fC (.str "/x/y")) (ac (fC (.str "/xy")) (ac (fC (.str "/x/y/z.q")) (ac (fC (.str "//")) (ac (fC (.str "/-_.9")) (ac (fC (.str "/x/y/")) ah))))))))))) (aA (f2 ixD (ae 2) (ag ai 3 (ac (ae 0) (ac (ae 1) (ac (fB1 gU (ac (ae 2) ah)) ah)))))))
def cD:List Dv→Option (Rs Dv):=bu 3 iN
def T41:bX:=("_law_path",3,["_law_script","_law_at"],cD) :: T40
theorem nQ (A:Af K "_law_path" (top 121) f) (t:HA P w K mg base T40):HA P w K mg base T41 :=
 az (aO XI Gn ["_law_script","_law_at","_law_some"] ["_law_script","_law_at"] iN A (by walk_at "d") (by delta iN; walk_at "b")) t
def gk:FnS:=(av (bc 2 (f2 ixD (bJ (ac (fC .non) (ac (ag ba 2 (ac (ae 0) (ac (f2 df (ae 1) (fC (.int 3))) ah))) (ac (ag ba 2 (ac (ae 0) (ac (f2 df (ae 1) (fC (.int 3))) ah))) ah)))) (ag ai 3 (ac (ae 0) (ac (f2 df (ae 1) (fC (.int 2))) (ac (fC (.int 3)) ah)))))) (aA (cx (ac (f2 eqX (ag ai 3 (ac (ae 0) (ac (ae 1) (ac (fC (.int 2)) ah)))) (fC (.int 0))) (ac (ag ba 2 (ac (ae 0) (ac (f2 df (ae 1) (fC (.int 1))) ah))) (ac (ag cD 2 (ac (ae 0) (ac (f2 df (ae 1) (fC (.int 4))) ah))) (ac (ae 2) ah)))))))
def dt:List Dv→Option (Rs Dv):=bu 3 gk
def T42:bX:=("_law_ask",4,["_law_script","_law_at"],dt) :: T41
theorem pH (A:Af K "_law_ask" (top 122) f) (t:HA P w K mg base T41):HA P w K mg base T42 :=
 az (aO XI Gn ["_law_script","_law_at","_law_origin"] ["_law_script","_law_at"] gk A (by walk_at "d") (by delta gk; walk_at "b")) t
def fq:FnS:=(aA (fB1 ux (ac (cF [] (dR (ae 0)) ck (f2 ci (fB1 BC (ac (eW (ae 0) dv (cG (fC (.int 8)))) ah)) (fB1 yw (ac (f2 ixD (ae 0) (fC (.int 9))) ah)))) ah)))
def ef:List Dv→Option (Rs Dv):=bu 1 fq
def T43:bX:=("_law_bare",1,["_law_jar_here"],ef) :: T42
theorem nU (A:Af K "_law_bare" (top 126) f) (t:HA P w K mg base T42):HA P w K mg base T43 :=
 az (aO XI Gn ["_law_jar_here"] ["_law_jar_here"] fq A (by walk_at "d") (by delta fq; walk_at "b")) t
def fG:FnS:=(av (bc 3 (f2 ixD (bJ (ac (fC (.str "n")) (ac (fC (.str "safe-a")) (ac (fC (.str "own-b")) (ac (fC (.str "N_2")) (ac (fC (.str "m-1")) (ac (fC (.str "safe-")) (ac (fC (.str "n")) ah)))))))) (ag ai 3 (ac (ae 0) (ac (ae 1) (ac (fC (.int 7)) ah)))))) (av (bc 4 (f2 ixD (bJ (ac (fC (.str "5")) (ac (fC (.str "")) (ac (fC (.str "a!b~")) (ac (fC (.str "x/y?z")) (ac (fC (.str "123456789012")) ah)))))) (ag ai 3 (ac (ae 0) (ac (f2 df (ae 1) (fC (.int 1))) (ac (fC (.int 5)) ah)))))) (p9 5 (ac (fC .non) (ac (fC .non) (ac (ae 2) (ac (f2 ixD (fM (gK) (ae 2) (ac (fC (.str ".")) ah)) (f1 yc (fC (.int 1)))) (ac (ag ba 2 (ac (ae 0) (ac (f2 df (ae 1) (fC (.int 3))) ah))) ah))))) (eE (rT (fIf (fB (f2 inD (fC (.str ".")) (ae 2))) (rS (ae 2) (cG (f2 df (fM DC (ae 2) (ac (fC (.str ".")) ah)) (fC (.int 1)))) dv) (ae 2))) (eE (fz 6 (f2 ixD (bJ (ac (fC .non) (ac (fC (.str "/")) (ac (ag cD 2 (ac (ae 0) (ac (f2 df (ae 1) (fC (.int 5))) ah))) ah)))) (ag ai 3 (ac (ae 0) (ac (f2 df (ae 1) (fC (.int 4))) (ac (fC (.int 3)) ah)))))) (eE (fz 7 (f2 ixD (bJ (ac (fC .non) (ac (fC .non) (ac (ag ai 3 (ac (ae 0) (ac (f2 df (ae 1) (fC (.int 7))) (ac (fC (.int 60)) ah)))) ah)))) (ag ai 3 (ac (ae 0) (ac (f2 df (ae 1) (fC (.int 6))) (ac (fC (.int 3)) ah)))))) (eE (fz 8 (f2 ixD (bJ (ac (fC .non) (ac (fC .non) (ac (ag ai 3 (ac (ae 0) (ac (f2 df (ae 1) (fC (.int 9))) (ac (fC (.int 30)) ah)))) ah)))) (ag ai 3 (ac (ae 0) (ac (f2 df (ae 1) (fC (.int 8))) (ac (fC (.int 3)) ah)))))) (eE (fz 9 (f2 ixD (bJ (ac (fC (.str "any")) (ac (fC (.str "near")) ah))) (ag ai 3 (ac (ae 0) (ac (f2 df (ae 1) (fC (.int 11))) (ac (fC (.int 2)) ah)))))) (eE (fz 10 (f2 eqX (ag ai 3 (ac (ae 0) (ac (f2 df (ae 1) (fC (.int 10))) (ac (fC (.int 2)) ah)))) (fC (.int 0)))) (tW 5 (cx (ac (ae 3) (ac (ae 4) (ac (f2 ixD (ae 5) (ag ai 3 (ac (ae 0) (ac (f2 df (ae 1) (fC (.int 2))) (ac (fC (.int 6)) ah))))) (ac (ae 6) (ac (ae 7) (ac (ae 8) (ac (ae 10) (ac (ae 9) ah)))))))))))))))))))
def du:List Dv→Option (Rs Dv):=bu 11 fG
def T44:bX:=("_law_given",4,["_law_script","_law_at","_law_house"],du) :: T43
theorem mv (A:Af K "_law_given" (top 123) f) (t:HA P w K mg base T43):HA P w K mg base T44 :=
 az (aO XI Gn ["_law_script","_law_at","_law_house","_law_name_here","_law_worth","_law_some","_law_path_here","_law_until","_law_lasts","_law_reach","_law_safe"] ["_law_script","_law_at","_law_house"] fG A (by walk_at "d") (by delta fG; walk_at "b")) t
def bP:iX:=(eE (fz 6 (f2 ci (f2 ci (ae 1) (fC (.int 1))) (f2 jx (fC (.int 14)) (ae 5)))) (eE (fz 4 (f2 ci (ae 4) (ag ai 3 (ac (ae 0) (ac (ae 6) (ac (fC (.int 4)) ah)))))) (eE (fz 7 (f2 ixD (bJ (ac (fC (.str "n")) (ac (fC (.str "m-1")) (ac (fC (.str "safe-a")) (ac (fC (.str "N_2")) ah))))) (ag ai 3 (ac (ae 0) (ac (f2 ci (ae 6) (fC (.int 1))) (ac (fC (.int 4)) ah)))))) (eE (fz 8 (f2 ixD (bJ (ac (fC (.str "5")) (ac (fC (.str "")) (ac (fC (.str "a!b~")) ah)))) (ag ai 3 (ac (ae 0) (ac (f2 ci (ae 6) (fC (.int 2))) (ac (fC (.int 3)) ah)))))) (eE (fz 9 (f2 ixD (bJ (ac (fC .non) (ac (ag ai 3 (ac (ae 0) (ac (f2 ci (ae 6) (fC (.int 7))) (ac (fC (.int 60)) ah)))) ah))) (ag ai 3 (ac (ae 0) (ac (f2 ci (ae 6) (fC (.int 6))) (ac (fC (.int 2)) ah)))))) (eE (fz 10 (f2 eqX (ag ai 3 (ac (ae 0) (ac (f2 ci (ae 6) (fC (.int 4))) (ac (fC (.int 2)) ah)))) (fC (.int 0)))) (eE (fz 11 (cx (ac (ae 7) (ac (ae 8) (ac (ag ba 2 (ac (ae 0) (ac (f2 ci (ae 6) (fC (.int 3))) ah))) (ac (ae 10) (ac (ag cD 2 (ac (ae 0) (ac (f2 ci (ae 6) (fC (.int 5))) ah))) ah))))))) (eE (fz 12 (f2 ixD (bJ (ac (fC (.str "any")) (ac (fC (.str "any")) (ac (fC (.str "near")) ah)))) (ag ai 3 (ac (ae 0) (ac (f2 ci (ae 6) (fC (.int 9))) (ac (fC (.int 3)) ah)))))) (eE (fz 13 (f2 eqX (ag ai 3 (ac (ae 0) (ac (f2 ci (ae 6) (fC (.int 8))) (ac (fC (.int 2)) ah)))) (fC (.int 0)))) (eE (fz 14 (f2 ci (ae 4) (ag ai 3 (ac (ae 0) (ac (f2 ci (ae 6) (fC (.int 10))) (ac (fC (.int 5)) ah)))))) (eE (fz 15 (f2 ci (ae 11) (cx (ac (ae 9) (ac (ae 13) (ac (ae 12) (ac (ae 4) (ac (ae 14) ah)))))))) (zR 3 (fB (f2 eqX (cF [("_law_note",15)] (dR (ae 3)) (a_ (fB (f2 eqX (cx (ac (f2 ixD (ae 0) (fC (.int 0))) (ac (f2 ixD (ae 0) (fC (.int 2))) (ac (f2 ixD (ae 0) (fC (.int 4))) ah)))) (cx (ac (f2 ixD (ae 1) (fC (.int 0))) (ac (f2 ixD (ae 1) (fC (.int 2))) (ac (f2 ixD (ae 1) (fC (.int 4))) ah))))))) (ae 0)) (bJ ah))) (rT (ae 15)) Bv))))))))))))
def jN:FnS:=(p9 3 ah (eE (fz 4 (fC (.int 0))) (eE (qc 5 [5,6,7,8,9,10,11,12,13,14,15] (fun ρ=>bnd ((ac (ag ai 3 (ac (ae 0) (ac (ae 1) (ac (f2 ci (ae 2) (fC (.int 1))) ah)))) ah) ρ) qV) bP) (tW 3 (fB1 gL (ac (ae 3) ah))))))
def gl:List Dv→Option (Rs Dv):=bu 16 jN
def T45:bX:=("_law_jar",4,["_law_script","_law_at","_law_many"],gl) :: T44
theorem pI (A:Af K "_law_jar" (top 125) f) (t:HA P w K mg base T44):HA P w K mg base T45 :=
 az (aO XI Gn ["_law_script","_law_at","_law_many","_law_found","_law_now","_law_k","_law_here","_law_name_here","_law_worth","_law_ends","_law_exact","_law_head","_law_reach","_law_safe","_law_late","_law_note"] ["_law_script","_law_at","_law_many"] jN A (by walk_at "d") (by delta jN bP; walk_at "b")) t
def ik:FnS:=(av (bc 2 (bJ (ac (fC (.str "!w.ck")) (ac (fC (.str "*.ck")) (ac (fC (.str "*.uk")) (ac (fC (.str "a.b")) (ac (fC (.str "b")) (ac (fC (.str "c.uk")) (ac (fC (.str "q")) (ac (fC (.str "uk")) ah)))))))))) (aA (fB1 gL (ac (cp 2 [("_law_script",0),("_law_at",1)] (fun ρ=>bnd ((ac (ae 2) ah) ρ) wx) (gP 0 1) (a_ (fB (f2 eqX (ag ai 3 (ac (ae 2) (ac (f2 df (ae 3) (ae 0)) (ac (fC (.int 2)) ah)))) (fC (.int 0))))) (ae 1)) ah))))
def bQ:List Dv→Option (Rs Dv):=bu 3 ik
def T46:bX:=("_law_table",3,["_law_script","_law_at"],bQ) :: T45
theorem mw (A:Af K "_law_table" (top 120) f) (t:HA P w K mg base T45):HA P w K mg base T46 :=
 az (aO XI Gn ["_law_script","_law_at","_law_some"] ["_law_script","_law_at"] ik A (by walk_at "d") (by delta ik; walk_at "b")) t
def aK:FnS:=(aR (fB (f2 dz (ae 11) (fC .non))) (bc 9 (f2 ci (f2 ci (f2 ci (f2 ci (ae 9) (fC (.str "; "))) (ae 10)) (fC (.str " "))) (fB1 By (ac (ae 11) ah)))) (fun ρ=>a_ (.nx ρ)))
def fu:FnS:=(av (Dk [1,2,3,4] (eW (ae 0) dv (cG (fC (.int 4))))) (av (Dk [5,6,7,8] (eW (ae 0) (cG (fC (.int 4))) dv)) (av (bc 9 (f2 ci (f2 ci (ae 1) (fC (.str "="))) (ae 2))) (av (q9 (gP 10 11) [11,10] (fun ρ=>bnd ((ac (cx (ac (fC (.str "for")) (ac (fC (.str "under")) (ac (fC (.str "until")) (ac (fC (.str "lasts")) ah))))) (ac (eW (ae 0) (cG (fC (.int 2))) (cG (fC (.int 6)))) ah)) ρ) Bx) aK) (aA (f2 ci (f2 ci (ae 9) (fIf (fB (ae 7)) (fC (.str "; safe")) (fC (.str "")))) (fIf (fB (f2 eqX (ae 8) (fC (.str "near")))) (fC (.str "; near")) (fC (.str "")))))))))
def ei:List Dv→Option (Rs Dv):=bu 12 fu
def T47:bX:=("_law_text",1,["_law_given_here"],ei) :: T46
theorem nV (A:Af K "_law_text" (top 124) f) (t:HA P w K mg base T46):HA P w K mg base T47 :=
 az (aO XI Gn ["_law_given_here","_law_name_here","_law_worth","_law_house","_law_path_here","_law_until","_law_lasts","_law_safe","_law_reach","_law_text_here","_law_word","_law_thing"] ["_law_given_here"] fu A (by walk_at "d") (by delta fu aK; walk_at "b")) t
def kb:FnS:=(av (aR (fB (f2 ixD (ae 0) (fC (.int 3)))) (aA (f2 eqX (f2 ixD (ae 0) (fC (.int 2))) (ae 1))) (fun ρ=>a_ (.nx ρ))) (aA (ag aw 2 (ac (ae 1) (ac (f2 ixD (ae 0) (fC (.int 2))) ah)))))
def iu:List Dv→Option (Rs Dv):=bu 2 kb
def T48:bX:=("is_for",2,["note","house"],iu) :: T47
theorem u4 (A:Af K "is_for" (top 96) f) (t:HA P w K mg base T47):HA P w K mg base T48 :=
 az (aO XI Gn ["note","house"] ["note","house"] kb A (by walk_at "d") (by delta kb; walk_at "b")) t
def nW:FnS:=(av (aR (bOr (fB (ag aZ 2 (ac (ae 1) (ac (ae 3) ah)))) (br (fB (ag iu 2 (ac (ae 1) (ac (f2 ixD (ae 2) (fC (.int 1))) ah)))))) (aA (fC (.bl e_))) (fun ρ=>a_ (.nx ρ))) (av (aR (br (fB (ag aU 2 (ac (f2 ixD (ae 2) (fC (.int 2))) (ac (f2 ixD (ae 1) (fC (.int 4))) ah))))) (aA (fC (.bl e_))) (fun ρ=>a_ (.nx ρ))) (av (aR (cM (fB (f2 ixD (ae 1) (fC (.int 6)))) (br (fB (f2 ixD (ae 2) (fC (.int 0)))))) (aA (fC (.bl e_))) (fun ρ=>a_ (.nx ρ))) (aA (vOr (f2 eqX (f2 ixD (ae 1) (fC (.int 7))) (fC (.str "any"))) (ag al 2 (ac (ae 0) (ac (ae 2) ah))))))))
def nX:List Dv→Option (Rs Dv):=bu 4 nW
def T49:bX:=("goes",6,["table","note","ask","now"],nX) :: T48
theorem AE (A:Af K "goes" (top 97) f) (t:HA P w K mg base T48):HA P w K mg base T49 :=
 az (aO XI Gn ["table","note","ask","now"] ["table","note","ask","now"] nW A (by walk_at "d") (by delta nW; walk_at "b")) t
def cr:FnS:=(av (aS (am bN 1 (ac (ae 0) ah))) (av (aS (am cC 1 (ac (ae 1) ah))) (av (aS (am cB 1 (ac (ae 2) ah))) (aS (am bg 1 (ac (ae 3) ah))))))
def cR:List Dv→Option (Rs Dv):=eV 4 cr
def Gj:bX:=("need_sending",7,["table","jar","ask","now"],cR) :: Ic
theorem kP (A:Af K "need_sending" (top 114) f) (te:HAE P w K mg base Ic):HAE P w K mg base Gj :=
 bz (cg XI Gn ["table","jar","ask","now"] ["table","jar","ask","now"] cr A (by walk_at "d") (by delta cr; walk_at "b")) te
def kQ:FnS:=(av (aS (am cR 4 (ac (ae 0) (ac (ae 1) (ac (ae 2) (ac (ae 3) ah)))))) (av (bc 4 (cp 1 [("table",0),("ask",2),("now",3)] (dR (ae 1)) (gN 0) (a_ (fB (ag nX 4 (ac (ae 1) (ac (ae 0) (ac (ae 2) (ac (ae 3) ah))))))) (ae 0))) (aA (fB1 (rn (BB 1 (f1 yc (fB1 gU (ac (f2 ixD (ae 0) (fC (.int 4))) ah))))) (ac (ae 4) ah)))))
def kT:List Dv→Option (Rs Dv):=eV 5 kQ
def TU1:bX:=("sent",8,["table","jar","ask","now"],kT) :: TU0
theorem AF (A:Af K "sent" (top 115) f) (t:HA P w K mg base T49) (te:HAE P w K mg base Gj) (tu:vN P w K mg base Pt qL TU0) (ct:ctB K f Pt=d_):vN P w K mg base Pt qL TU1 :=
 nA (qr (CT:=fun cdv=>ny K cdv Pt) XI Gn ["table","jar","ask","now","going"] ["table","jar","ask","now"] kQ A (by walk_at "d") (fun _ Fn=>HS ct Fn) (by delta kQ; walk_at "b")) tu
def cT:FnS:=(aA (fB1 gL (ac (cF [("now",1)] (dR (ae 0)) (a_ (br (fB (ag aZ 2 (ac (ae 0) (ac (ae 1) ah)))))) (ae 0)) ah)))
def bC:List Dv→Option (Rs Dv):=bu 2 cT
def T50:bX:=("without_ended",2,["notes","now"],bC) :: T49
theorem j6 (A:Af K "without_ended" (top 106) f) (t:HA P w K mg base T49):HA P w K mg base T50 :=
 az (aO XI Gn ["notes","now"] ["notes","now"] cT A (by walk_at "d") (by delta cT; walk_at "b")) t
def jo:FnS:=(av (aS (am cC 1 (ac (ae 0) ah))) (av (aS (am bg 1 (ac (ae 1) ah))) (aA (ag bC 2 (ac (ae 0) (ac (ae 1) ah))))))
def jp:List Dv→Option (Rs Dv):=eV 2 jo
def Ie:bX:=("swept",7,["jar","now"],jp) :: Gj
theorem xr (A:Af K "swept" (top 105) f) (t:HA P w K mg base T50) (te:HAE P w K mg base Gj):HAE P w K mg base Ie :=
 bz (cg XI Gn ["jar","now"] ["jar","now"] jo A (by walk_at "d") (by delta jo; walk_at "b")) te
def aM:FnS:=(aR (fB (f2 gtD (fB1 gU (ac (ae 0) ah)) (fC (.int 20)))) (aG 5 (fC (.str "these are more notes than a jar has"))) (fun ρ=>a_ (.nx ρ)))
def aN:List Dv→Option (Rs Dv):=eV 1 aM
def Ig:bX:=("need_no_more_than_a_jar_has",1,["notes"],aN) :: Ie
theorem eH (A:Af K "need_no_more_than_a_jar_has" (top 104) f) (te:HAE P w K mg base Ie):HAE P w K mg base Ig :=
 bz (cg XI Gn ["notes"] ["notes"] aM A (by walk_at "d") (by delta aM; walk_at "b")) te
def pJ:FnS:=(av (bc 2 (cp 1 [("note",1)] (dR (ae 0)) (gN 0) (a_ (fB (f2 eqX (ag dw 1 (ac (ae 0) ah)) (ag dw 1 (ac (ae 1) ah))))) (ae 0))) (av (aR (fB (f2 eqX (ae 2) (bJ ah))) (aA (f2 ci (ae 0) (cx (ac (ae 1) ah)))) (fun ρ=>a_ (.nx ρ))) (av (bc 3 (f2 ci (f2 ci (eW (ae 1) dv (cG (fC (.int 8)))) (cx (ac (f2 ixD (f2 ixD (ae 2) (fC (.int 0))) (fC (.int 8))) ah))) (eW (ae 1) (cG (f2 ci (fC (.int 8)) (fC (.int 1)))) dv))) (aA (fB1 gL (ac (cF [("note",1),("newer",3)] (dR (ae 0)) ck (fIf (fB (f2 eqX (ag dw 1 (ac (ae 0) ah)) (ag dw 1 (ac (ae 1) ah)))) (ae 2) (ae 0))) ah))))))
def xt:List Dv→Option (Rs Dv):=bu 4 pJ
def T51:bX:=("put",2,["jar","note"],xt) :: T50
theorem EK (A:Af K "put" (top 107) f) (t:HA P w K mg base T50):HA P w K mg base T51 :=
 az (aO XI Gn ["jar","note","same","newer"] ["jar","note"] pJ A (by walk_at "d") (by delta pJ; walk_at "b")) t
def cV:FnS:=(av (bc 5 (am bq 5 (ac (ae 0) (ac (ae 1) (ac (ae 2) (ac (ae 3) (ac (ae 4) ah))))))) (av (bc 6 (ag bC 2 (ac (ae 1) (ac (ae 4) ah)))) (av (aR (fB (f2 eqX (ae 5) (fC (.str "kept")))) (aA (ag xt 2 (ac (ae 6) (ac (am cH 4 (ac (ae 0) (ac (ae 2) (ac (ae 3) (ac (ae 4) ah))))) ah)))) (fun ρ=>a_ (.nx ρ))) (av (aR (fB (f2 eqX (ae 5) (fC (.str "gone")))) (av (bc 7 (ag dw 1 (ac (am cH 4 (ac (ae 0) (ac (ae 2) (ac (ae 3) (ac (ae 4) ah))))) ah))) (aA (fB1 gL (ac (cF [("ended",7)] (dR (ae 6)) (a_ (fB (f2 neX (ag dw 1 (ac (ae 0) ah)) (ae 1)))) (ae 0)) ah)))) (fun ρ=>a_ (.nx ρ))) (aA (ae 6))))))
def cu:List Dv→Option (Rs Dv):=eV 8 cV
def Ih:bX:=("take_in",10,["table","jar","ask","given","now"],cu) :: Ig
theorem rO (A:Af K "take_in" (top 113) f) (t:HA P w K mg base T51) (te:HAE P w K mg base Ig):HAE P w K mg base Ih :=
 bz (cg XI Gn ["table","jar","ask","given","now","word","notes","ended"] ["table","jar","ask","given","now"] cV A (by walk_at "d") (by delta cV; walk_at "b")) te
def jq:FnS:=(av (bc 5 (am aC 5 (ac (ae 0) (ac (ae 1) (ac (ae 2) (ac (ae 3) (ac (ae 4) ah))))))) (av (aR (fB (fB1 Ac (ac (cF [("now",4)] (dR (ae 1)) ck (f2 gtD (f2 ixD (ae 0) (fC (.int 9))) (ae 1))) ah))) (aG 6 (fC (.str "some note was used later than this moment"))) (fun ρ=>a_ (.nx ρ))) (av (bc 6 (am cu 5 (ac (ae 0) (ac (ae 1) (ac (ae 2) (ac (ae 5) (ac (ae 4) ah))))))) (av (aS (am aN 1 (ac (ae 6) ah))) (aA (ae 6))))))
def bT:List Dv→Option (Rs Dv):=eV 7 jq
def Ii:bX:=("taken",11,["table","jar","ask","text","now"],bT) :: Ih
theorem xu (A:Af K "taken" (top 112) f) (te:HAE P w K mg base Ih):HAE P w K mg base Ii :=
 bz (cg XI Gn ["table","jar","ask","text","now","given","notes"] ["table","jar","ask","text","now"] jq A (by walk_at "d") (by delta jq; walk_at "b")) te
def jr:FnS:=(av (aS (am cy 1 (ac (ae 0) ah))) (av (aS (am cy 1 (ac (ae 1) ah))) (aA (ag aU 2 (ac (ae 0) (ac (ae 1) ah))))))
def jt:List Dv→Option (Rs Dv):=eV 2 jr
def Ij:bX:=("under",4,["path","top"],jt) :: Ii
theorem xx (A:Af K "under" (top 35) f) (t:HA P w K mg base T51) (te:HAE P w K mg base Ii):HAE P w K mg base Ij :=
 bz (cg XI Gn ["path","top"] ["path","top"] jr A (by walk_at "d") (by delta jr; walk_at "b")) te
def bp:iX:=(eE (fz 7 (ag du 3 (ac (ae 0) (ac (f2 ci (fC (.int 110)) (f2 jx (fC (.int 20)) (ae 6))) (ac (f2 ixD (f2 ixD (ae 4) (ae 6)) (fC (.int 1))) ah))))) (rT (ag ei 1 (ac (f2 ci (cx (ac (f2 ixD (bJ (ac (fC (.str "p")) (ac (fC (.str "q")) ah))) (ae 6)) ah)) (eW (ae 7) (cG (fC (.int 1))) dv)) ah))))
def db:FnS:=(av (bc 1 (ag bQ 2 (ac (ae 0) (ac (fC (.int 0)) ah)))) (av (bc 2 (ag gl 3 (ac (ae 0) (ac (fC (.int 10)) (ac (fC (.int 4)) ah))))) (av (bc 3 (f2 ci (fB1 Aa (ac (f2 ci (cF [] (dR (ae 2)) ck (f2 ixD (ae 0) (fC (.int 9)))) (bJ (ac (fC (.int 0)) ah))) ah)) (ag ai 3 (ac (ae 0) (ac (fC (.int 80)) (ac (fC (.int 9)) ah)))))) (av (bc 4 (bJ (ac (ag dt 2 (ac (ae 0) (ac (fC (.int 90)) ah))) (ac (ag dt 2 (ac (ae 0) (ac (fC (.int 100)) ah))) ah)))) (p9 5 ah (eE (qc 6 [6,7] (fun ρ=>bnd ((ac (fC (.int 2)) ah) ρ) qV) bp) (DV 5 (av (bc 8 (am bT 5 (ac (ae 1) (ac (ae 2) (ac (f2 ixD (ae 4) (fC (.int 0))) (ac (f2 ixD (ae 5) (fC (.int 0))) (ac (ae 3) ah))))))) (av (bc 9 (am bT 5 (ac (ae 1) (ac (ae 2) (ac (f2 ixD (ae 4) (fC (.int 1))) (ac (f2 ixD (ae 5) (fC (.int 1))) (ac (ae 3) ah))))))) (av (aR (bOr (br (fB (ag eK 1 (ac (ae 8) ah)))) (bOr (br (fB (ag eK 1 (ac (ae 9) ah)))) (fB (f2 neX (am bT 5 (ac (ae 1) (ac (ae 8) (ac (f2 ixD (ae 4) (fC (.int 0))) (ac (f2 ixD (ae 5) (fC (.int 0))) (ac (ae 3) ah)))))) (ae 8))))) (aA (fC (.bl e_))) (fun ρ=>a_ (.nx ρ))) (av (bc 10 (am bT 5 (ac (ae 1) (ac (ae 8) (ac (f2 ixD (ae 4) (fC (.int 1))) (ac (f2 ixD (ae 5) (fC (.int 1))) (ac (ae 3) ah))))))) (av (aR (fB (f2 neX (ag ef 1 (ac (ae 10) ah)) (ag ef 1 (ac (am bT 5 (ac (ae 1) (ac (ae 9) (ac (f2 ixD (ae 4) (fC (.int 0))) (ac (f2 ixD (ae 5) (fC (.int 0))) (ac (ae 3) ah)))))) ah)))) (aA (fC (.bl e_))) (fun ρ=>a_ (.nx ρ))) (av (bc 11 (am gh 5 (ac (ae 1) (ac (ae 2) (ac (f2 ixD (ae 4) (fC (.int 0))) (ac (f2 ixD (ae 5) (fC (.int 0))) (ac (ae 3) ah))))))) (av (aR (fB (f2 dk (ae 11) (cx (ac (fC (.str "kept")) (ac (fC (.str "gone")) ah))))) (aA (f2 eqX (ae 8) (am jp 2 (ac (ae 2) (ac (ae 3) ah))))) (fun ρ=>a_ (.nx ρ))) (av (bc 12 (am cH 4 (ac (ae 1) (ac (f2 ixD (ae 4) (fC (.int 0))) (ac (am aJ 1 (ac (f2 ixD (ae 5) (fC (.int 0))) ah)) (ac (ae 3) ah)))))) (av (bc 13 (cF [("_law_note",12)] (dR (ae 8)) (a_ (fB (f2 eqX (ag dw 1 (ac (ae 0) ah)) (ag dw 1 (ac (ae 1) ah))))) (ae 0))) (av (bc 14 (cp 1 [("_law_jar_here",2),("_law_mine",13)] (dR (ae 8)) (gN 0) (a_ (cM (fB (f2 dk (ae 0) (ae 2))) (fB (f2 dk (ae 0) (ae 1))))) (ae 0))) (av (aR (bOr (fB (f2 neX (f2 eqX (ae 13) (bJ ah)) (f2 eqX (ae 11) (fC (.str "gone"))))) (fB (f2 neX (ae 14) (bJ ah)))) (aA (fC (.bl e_))) (fun ρ=>a_ (.nx ρ))) (av (aR (cM (fB (f2 eqX (ae 11) (fC (.str "kept")))) (bOr (fB (f2 neX (eW (f2 ixD (ae 13) (fC (.int 0))) dv (cG (fC (.int 8)))) (eW (ae 12) dv (cG (fC (.int 8)))))) (fB (f2 neX (f2 ixD (f2 ixD (ae 13) (fC (.int 0))) (fC (.int 9))) (ae 3))))) (aA (fC (.bl e_))) (fun ρ=>a_ (.nx ρ))) (av (bc 15 (am kT 4 (ac (ae 1) (ac (ae 8) (ac (f2 ixD (ae 4) (fC (.int 0))) (ac (ae 3) ah)))))) (av (aR (cM (fB (f2 eqX (ae 11) (fC (.str "kept")))) (fB (f2 neX (f2 inX (f2 ixD (ae 13) (fC (.int 0))) (ae 15)) (am jt 2 (ac (f2 ixD (f2 ixD (ae 4) (fC (.int 0))) (fC (.int 2))) (ac (f2 ixD (ae 12) (fC (.int 4))) ah)))))) (aA (fC (.bl e_))) (fun ρ=>a_ (.nx ρ))) (aA (f2 leX (fB1 gU (ac (ae 8) ah)) (f2 ci (fB1 gU (ac (ae 2) ah)) (fC (.int 1))))))))))))))))))))))))))
def eA:List Dv→Option (Rs Dv):=eV 16 db
def TU2:bX:=("_law_stands",12,["_law_script"],eA) :: TU1
theorem k9 (A:Af K "_law_stands" (top 128) f) (t:HA P w K mg base T51) (te:HAE P w K mg base Ij) (tu:vN P w K mg base Pt qL TU1):vN P w K mg base Pt qL TU2 :=
 nA (qr (CT:=fun _=>True) XI Gn ["_law_script","_law_table_here","_law_jar_here","_law_now","_law_asks","_law_texts","_law_k","_law_given_here","_law_one","_law_other","_law_both","_law_word","_law_note","_law_mine","_law_fresh","_law_going"] ["_law_script"] db A (by walk_at "d") (fun _ _=>trivial) (by delta db bp; walk_at "b")) tu
def pK:FnE:=(c0 (ag bE 1 (ac (ag bQ 2 (ac (ae 0) (ac (fC (.int 0)) ah))) ah)) (ag eA 1 (ac (ae 0) ah)))
def u5:FnS:=(aA pK)
def u8:List Dv→Option (Rs Dv):=bu 1 u5
theorem EM {fd:Lv} (A:Fun K "law" "law" (top 129) f fd) (t:HA P w K mg base T51) (te:HAE P w K mg base Ij) (tu:vN P w K mg base Pt qL TU2):FnOk P w K mg base CX0 13 f fd ["_law_script"] (spT Pt qL K u8 1) :=
 Eh (CT:=fun _=>True) ["_law_script"] ["_law_script"] u5 (by kernel_rfl) (by kernel_rfl) A (Eb (by kernel_rfl)) trivial (by delta u5 pK; walk_at "b")
end
theorem af {K:f_} {x:Str} {st:L3} (f:l_) (m:String:="law_notejar_k53_whole_taken") (t:Nat:=873) (c:Nat:=Nat.pred f) (a:nsM K x=a_ (a_ (.ref f)):=by kernel_rfl) (l:K.lookup f=a_ ⟨x_ "function",ck,.func (M5 x x (jz st) (dc st) (aI st) .none .none .none (kS m t) ck (kR c) .none),#[]⟩:=by kernel_rfl) (cc:O8 K (kR c) x=d_:=by kernel_rfl) (k:LK K (.ref f)=d_:=by kernel_rfl):Af K x st f:=⟨a,⟨_,Cd l cc k⟩,k⟩
theorem all_mk {l:Qi} {w:C_} {K:f_} {h:KO} {mg:Str→Option g_} {fa:l_} (X:K.In h) (G:h.Ns z_ mg) (hfa:mg "law"=a_ (.ref fa))
 {f1 f2 f3 f4 f5 f6 f7 f8 f9 f10 f11 f12 f13 f14 f15 f16 f17 f18 f19 f20 f21 f22 f23 f24 f25 f26 f27 f28 f29 f30 f31 f32 f33 f34 f35 f36 f37 f38 f39 f40 f41 f42 f43 f44 f45 f46 f47 f48 f49 f50 f51 f52 f53 f54 f55 f56 f57 f58 f59 f60 f61 f62 f63 f64 f65 f66 f67 f68 f69 f70 f71 f72 f73 f74 fl:l_}
 (A1:Af K "is_text_of" (top 9) f1)
 (A2:Af K "is_label" (top 18) f2)
 (A3:Af K "is_name" (top 19) f3)
 (A4:Af K "is_path" (top 32) f4)
 (A5:Af K "is_tuple_of" (top 11) f5)
 (A6:Af K "is_ask" (top 47) f6)
 (A7:Af K "need_ask" (top 48) f7)
 (A8:Af K "key" (top 94) f8)
 (A9:Af K "has_no_key_twice" (top 102) f9)
 (A10:Af K "is_by_made" (top 101) f10)
 (A11:Af K "is_whole_number" (top 10) f11)
 (A12:Af K "is_moment" (top 44) f12)
 (A13:Af K "is_moment_or_none" (top 45) f13)
 (A14:Af K "is_note_name" (top 65) f14)
 (A15:Af K "is_reach" (top 67) f15)
 (A16:Af K "is_worth" (top 66) f16)
 (A17:Af K "is_note" (top 89) f17)
 (A18:Af K "is_jar" (top 100) f18)
 (A19:Af K "need_jar" (top 103) f19)
 (A20:Af K "need_moment" (top 46) f20)
 (A21:Af K "is_rule" (top 20) f21)
 (A22:Af K "is_table" (top 21) f22)
 (A23:Af K "need_table" (top 22) f23)
 (A24:Af K "is_written_moment" (top 70) f24)
 (A25:Af K "what_is_told" (top 71) f25)
 (A26:Af K "read_given" (top 72) f26)
 (A27:Af K "read_what_is_given" (top 108) f27)
 (A28:Af K "has_ended" (top 95) f28)
 (A29:Af K "end_for" (top 92) f29)
 (A30:Af K "house_for" (top 90) f30)
 (A31:Af K "behind_first_dot" (top 25) f31)
 (A32:Af K "ends_longest_first" (top 24) f32)
 (A33:Af K "is_told_open" (top 26) f33)
 (A34:Af K "find_open_end" (top 27) f34)
 (A35:Af K "is_open" (top 85) f35)
 (A36:Af K "is_exact" (top 86) f36)
 (A37:Af K "is_given" (top 68) f37)
 (A38:Af K "need_given" (top 69) f38)
 (A39:Af K "need_path" (top 33) f39)
 (A40:Af K "folder" (top 34) f40)
 (A41:Af K "path_for" (top 91) f41)
 (A42:Af K "find_own_end" (top 28) f42)
 (A43:Af K "comes_from_near" (top 49) f43)
 (A44:Af K "keeps_its_mark" (top 87) f44)
 (A45:Af K "lies_within" (top 23) f45)
 (A46:Af K "why_refused" (top 88) f46)
 (A47:Af K "made" (top 93) f47)
 (A48:Af K "lies_under" (top 36) f48)
 (A49:Af K "shadows" (top 111) f49)
 (A50:Af K "word_of" (top 110) f50)
 (A51:Af K "verdict" (top 109) f51)
 (A52:Af K "_law_known_ones" (top 127) f52)
 (A53:Af K "_law_cell" (top 117) f53)
 (A54:Af K "_law_drawn" (top 118) f54)
 (A55:Af K "_law_name" (top 119) f55)
 (A56:Af K "_law_path" (top 121) f56)
 (A57:Af K "_law_ask" (top 122) f57)
 (A58:Af K "_law_bare" (top 126) f58)
 (A59:Af K "_law_given" (top 123) f59)
 (A60:Af K "_law_jar" (top 125) f60)
 (A61:Af K "_law_table" (top 120) f61)
 (A62:Af K "_law_text" (top 124) f62)
 (A63:Af K "is_for" (top 96) f63)
 (A64:Af K "goes" (top 97) f64)
 (A65:Af K "need_sending" (top 114) f65)
 (A66:Af K "sent" (top 115) f66)
 (A67:Af K "without_ended" (top 106) f67)
 (A68:Af K "swept" (top 105) f68)
 (A69:Af K "need_no_more_than_a_jar_has" (top 104) f69)
 (A70:Af K "put" (top 107) f70)
 (A71:Af K "take_in" (top 113) f71)
 (A72:Af K "taken" (top 112) f72)
 (A73:Af K "under" (top 35) f73)
 (A74:Af K "_law_stands" (top 128) f74)
 (AL:Af K "law" (top 129) fl) (ma:CC.all (HH K)=d_) {Pt:l_} (ct:ctB K f66 Pt=d_) (bb:bmB K=d_) {C1 C2 C3 C4 C5 C6 CJ:l_} (cb:caB K [1,2,3,4,5,6] [0,C1,C2,C3,C4,C5,C6] CJ 7=d_) :
 ∃ fd:Lv,(∀ (s:h_) (v:g_),Q0 s fd ⟨[v],[]⟩ [("_law_script",v)])∧∀ base:KO,K.In base→base.Ns z_ mg→FnOk l.prog w K mg base CX0 13 fa fd ["_law_script"] (spT Pt qL K u8 1):=by
 have e:=hfa.symm.trans (Nf X G AL.a);cases e;have M:=D8 X G CC ma;obtain ⟨fd,Fn⟩:=AL.F;refine ⟨fd,?_,fun base _ _=>?_⟩
 · obtain ⟨oc,od,kV,doc,pm,an,cdv,ct,osl,rfl,lk,hcd⟩:=Fn.ex;exact fun s v=>.of_eq rfl
 obtain ⟨xa,ca⟩:=HP X G cb;have bi:=HU X G bb;have t0:HA l.prog w K mg base T0:=D7;have te0:HAE l.prog w K mg base TE0:=Aj;have tl0:HAT l.prog w K mg base Pt qL TL0:=Au;have tu0:vN l.prog w K mg base Pt qL TU0:=xh;have t1:=mf X G M bi xa ca A1 t0;have t2:=pv X G M bi xa ca A2 t1;have t3:=rE X G M bi xa ca A3 t2;have t4:=rF X G M bi xa ca A4 t3;have t5:=kZ X G M bi xa ca A5 t4;have t6:=uY X G M bi xa ca A6 t5;have te1:=pw X G M bi xa ca A7 t6 te0;have t7:=EJ X G M bi xa ca A8 t6;have t8:=iK X G M bi xa ca A9 t7;have t9:=mh X G M bi xa ca A10 t8;have t10:=jf X G M bi xa ca A11 t9;have t11:=nG X G M bi xa ca A12 t10;have t12:=iA X G M bi xa ca A13 t11;have t13:=kH X G M bi xa ca A14 t12;have t14:=pA X G M bi xa ca A15 t13;have t15:=pB X G M bi xa ca A16 t14;have t16:=rG X G M bi xa ca A17 t15;have t17:=uZ X G M bi xa ca A18 t16;have te2:=pC X G M bi xa ca A19 t17 te1;have te3:=k6 X G M bi xa ca A20 t17 te2;have t18:=rH X G M bi xa ca A21 t17;have t19:=pD X G M bi xa ca A22 t18;have te4:=mi X G M bi xa ca A23 t19 te3;have t20:=iB X G M bi xa ca A24 t19;have t21:=kK X G M bi xa ca A25 t20;have te5:=mj X G M bi xa ca A26 t21 te4;have te6:=ia X G M bi xa ca A27 te5;have t22:=nI X G M bi xa ca A28 t21;have t23:=rJ X G M bi xa ca A29 t22;have t24:=nJ X G M bi xa ca A30 t23;have t25:=iL X G M bi xa ca A31 t24;have t26:=ie X G M bi xa ca A32 t25;have t27:=kL X G M bi xa ca A33 t26;have t28:=j5 X G M bi xa ca A34 t27;have t29:=rK X G M bi xa ca A35 t28;have t30:=pE X G M bi xa ca A36 t29;have t31:=pF X G M bi xa ca A37 t30;have te7:=mn X G M bi xa ca A38 t31 te6;have te8:=nK X G M bi xa ca A39 t31 te7;have te9:=u3 X G M bi xa ca A40 te8;have te10:=pG X G M bi xa ca A41 te9;have t32:=kO X G M bi xa ca A42 t31;have t33:=jk X G M bi xa ca A43 t32;have t34:=jM X G M bi xa ca A44 t33;have t35:=k7 X G M bi xa ca A45 t34;have te11:=k8 X G M bi xa ca A46 t35 te10;have te12:=AD X G M bi xa ca A47 t35 te11;have t36:=mq X G M bi xa ca A48 t35;have t37:=rL X G M bi xa ca A49 t36;have te13:=rM X G M bi xa ca A50 t37 te12;have te14:=rN X G M bi xa ca A51 te13;have te15:=jm X G M bi xa ca A52 te14;have t38:=nM X G M bi xa ca A53 t37;have t39:=mr X G M bi xa ca A54 t38;have t40:=nO X G M bi xa ca A55 t39;have t41:=nQ X G M bi xa ca A56 t40;have t42:=pH X G M bi xa ca A57 t41;have t43:=nU X G M bi xa ca A58 t42;have t44:=mv X G M bi xa ca A59 t43;have t45:=pI X G M bi xa ca A60 t44;have t46:=mw X G M bi xa ca A61 t45;have t47:=nV X G M bi xa ca A62 t46;have t48:=u4 X G M bi xa ca A63 t47;have t49:=AE X G M bi xa ca A64 t48;have te16:=kP X G M bi xa ca A65 te15;have tu1:=AF X G M bi xa ca A66 t49 te16 tu0 ct;have t50:=j6 X G M bi xa ca A67 t49;have te17:=xr X G M bi xa ca A68 t50 te16;have te18:=eH X G M bi xa ca A69 te17;have t51:=EK X G M bi xa ca A70 t50;have te19:=rO X G M bi xa ca A71 t51 te18;have te20:=xu X G M bi xa ca A72 te19;have te21:=xx X G M bi xa ca A73 t51 te20;have tu2:=k9 X G M bi xa ca A74 t51 te21 tu1;exact EM X G M bi xa ca Fn t51 te21 tu2
end G
set_option maxHeartbeats 4000000
namespace FD
open PySem PySem.Spec
open PySem.StrLaws PySem.Builtin PySem.Builtin.Str
def J (S:List Nat):List Nat→List (List Nat)→List Nat
 | p,[]=>p
 | p,q :: r=>p ++ (S ++ J S q r)
theorem at_iff {x sep:Str} {k:Nat}:At x sep x.length k↔k + sep.length≤x.length∧(x.cps.toList.drop k).take sep.length=sep.cps.toList:=by
 unfold At;rw [subAt_eq];simp
theorem u9 {x sep:Str} {c:Nat} {rest:List Nat} (hS:sep.cps.toList=c :: rest) {k:Nat} (h:At x sep x.length k):x.cps.toList[k]?=a_ c:=by
 obtain ⟨_,h2⟩:=at_iff.mp h;rw [hS] at h2;have h3:=congrArg (fun l=>l[0]?) h2;simp only [List.getElem?_cons_zero] at h3;have hl:0 < sep.length:=by
  show 0 < sep.cps.size;rw [← K4,hS];simp
 rw [PC hl,Pm] at h3;simpa using h3
theorem AG {x sep:Str} {c:Nat} {rest:List Nat} (hS:sep.cps.toList=c :: rest) {p tl:List Nat} {a k:Nat} (hd:x.cps.toList.drop a=p ++ tl) (hp:c ∉ p) (h1:a≤k) (h2:k < a + p.length):¬ At x sep x.length k:=by
 intro h;have e:=u9 hS h;have e2:(x.cps.toList.drop a)[k - a]?=a_ c:=by rw [Pm,show a + (k - a)=k by omega]; exact e
 rw [hd,L4 (by omega)] at e2;exact hp (MH e2)
theorem qu {x sep:Str} {c:Nat} {rest:List Nat} (hS:sep.cps.toList=c :: rest):∀ (parts:List (List Nat)) (p:List Nat) (a:Nat) (cuts:List Nat) (f:Nat),(∀ q∈p :: parts,c ∉ q)→x.cps.toList.drop a=J sep.cps.toList p parts→a≤x.length →
 ChainG x sep x.length a cuts f→(∀ k,f≤k→¬ At x sep x.length k)→(partsFrom x sep.length a cuts).map (fun s=>s.cps.toList)=p :: parts
 | [],p,a,cuts,f,hp,hd,ha,hG,hn=>by
  have hlen:x.cps.toList.length=x.length:=by simp [O_]
  have hno:∀ k,a≤k→¬ At x sep x.length k:=fun k hk h=>by
   have e:=u9 hS h;have e2:(x.cps.toList.drop a)[k - a]?=a_ c:=by rw [Pm,show a + (k - a)=k by omega]; exact e
   rw [hd] at e2;exact hp p on (MH e2)
  cases cuts with
  | nil =>
   show [(strSub x a x.length).cps.toList]=[p];rw [strSub_toList,hd];show [p.take (x.length - a)]=[p];have:p.length=x.length - a:=by
    have:=congrArg OH hd;rw [Oz,hlen] at this;exact this.symm
   rw [Ol (by omega)]
  | cons k ks=>exact absurd hG.2.1 (hno k hG.1)
 | q :: r,p,a,cuts,f,hp,hd,ha,hG,hn=>by
  have hlen:x.cps.toList.length=x.length:=by simp [O_]
  have hsl:sep.cps.toList.length=sep.length:=by simp [O_]
  have hd':x.cps.toList.drop a=p ++ (sep.cps.toList ++ J sep.cps.toList q r):=hd;have hdp:x.cps.toList.drop (a + p.length)=sep.cps.toList ++ J sep.cps.toList q r:=by
   rw [← List.drop_drop,hd',List.drop_left]
  have hl1:=congrArg OH hdp;rw [Oz,hlen,KS,hsl] at hl1;have hs0:0 < sep.length:=by rw [← hsl,hS]; simp
  have hat:At x sep x.length (a + p.length):=at_iff.mpr ⟨by omega,by rw [hdp,← hsl,List.take_left]⟩;have hbe:∀ k,a≤k→k < a + p.length→¬ At x sep x.length k:=fun k h1 h2=>AG hS hd' (hp p on) h1 h2;cases cuts with
  | nil=>exact absurd hat (hn _ (by have:f=a:=hG; omega))
  | cons k ks =>
   obtain ⟨g1,g2,g3,g4⟩:=hG;have ek:k=a + p.length:=by
    rcases Nat.lt_trichotomy k (a + p.length) with h | h | h
    · exact absurd g2 (hbe k g1 h)
    · exact h
    · exact absurd hat (g3 _ (by omega) h)
   subst ek;show (strSub x a (a + p.length)).cps.toList :: (partsFrom x sep.length (a + p.length + sep.length) ks).map (fun s=>s.cps.toList)=p :: q :: r;rw [qu hS r q (a + p.length + sep.length) ks f (fun z hz=>hp z (n_ _ hz)) (by rw [← List.drop_drop,hdp,← hsl,List.drop_left]) (by omega) g4 hn,strSub_toList,hd',show a + p.length - a=p.length by omega,List.take_left]
theorem vb {a b:Str} (h:a.cps.toList=b.cps.toList):a=b:=by
 obtain ⟨⟨a⟩⟩:=a; obtain ⟨⟨b⟩⟩:=b;simp at h;rw [h]
theorem iO:∀ {l m:List Str},l.map (fun s=>s.cps.toList)=m.map (fun s=>s.cps.toList)→l=m
 | [],[],_=>rfl
 | a :: l,b :: m,h=>by
  simp only [K0,MC] at h;rw [vb h.1,iO h.2]
 | [],_ :: _,h=>by simp at h
 | _ :: _,[],h=>by simp at h
theorem pL {x sep:Str} {c:Nat} {rest:List Nat} (hS:sep.cps.toList=c :: rest) (hk:Mg sep=1) {p:Str} {parts:List Str} (hp:∀ q∈p :: parts,c ∉ q.cps.toList) (hx:x.cps.toList=J sep.cps.toList p.cps.toList (parts.map fun s=>s.cps.toList)) :
 Mz x sep=p :: parts:=by
 have hsl:sep.cps.toList.length=sep.length:=by simp [O_]
 have hlen:x.cps.toList.length=x.length:=by simp [O_]
 obtain ⟨f,hG,hn⟩:=occ_tight x sep (by rw [← hsl,hS]; simp);have main:=qu hS (parts.map fun s=>s.cps.toList) p.cps.toList 0 _ f (by
  intro q hq;rcases s_.mp hq with rfl | hq
  · exact hp p on
  · obtain ⟨s,hs,rfl⟩:=KY.mp hq;exact hp s (n_ _ hs)) (by rw [QV]; exact hx) (K3 _) hG hn
 have hx1:1≤Mg x:=by unfold Mg; split; omega; split <;> omega
 unfold Mz;split
 · rename_i hc;rw [Sz,decide_eq_true_eq,decide_eq_true_eq] at hc;rcases hc with h | h
   · cases parts with
     | nil=>rw [vb (a:=x) (b:=p) hx]
     | cons q r =>
      have:=congrArg OH hx;rw [hlen] at this;simp only [K0,J,KS,hsl] at this;omega
   · omega
 · split
   · rename_i he;have e0:occurrences x sep 0 x.length (x.length + 1)=[]:=List.isEmpty_iff.mp he;rw [e0] at main;have m2:[(strSub x 0 x.length).cps.toList]=p.cps.toList :: (parts.map fun s=>s.cps.toList):=main;rw [sub_whole] at m2;exact iO (l:=[x]) (m:=p :: parts) m2
   · rw [partsBetween_eq];exact iO (by rw [main]; rfl)
end FD
namespace FD
open PySem PySem.Spec PyProof.Rows L2
theorem qv {elt:FnE} {cap:Ev} {α:Type} (en:α→Dv) (f:α→Dv):∀ {l:List α},(∀ a∈l,elt (cap.set 0 (a_ (en a)))=a_ (.ok (f a)))→tE ck elt cap (l.map en)=a_ (l.map f)
 | [],_=>rfl
 | a :: l,h=>by
  have ih:=qv (elt:=elt) (cap:=cap) en f (l:=l) fun b hb=>h b (n_ _ hb);rw [K0,K0];unfold tE;dsimp only;rw [h a on,ih]
theorem nY {tst:FnB} {elt:FnE} {cap:Ev} {α:Type} (en:α→Dv) (p:α→Bool) (f:α→Dv):∀ {l:List α},(∀ a∈l,tst (cap.set 0 (a_ (en a)))=a_ (.ok (p a))∧elt (cap.set 0 (a_ (en a)))=a_ (.ok (f a)))→tE (a_ tst) elt cap (l.map en)=a_ ((l.filter p).map f)
 | [],_=>rfl
 | a :: l,h=>by
  have ih:=nY (tst:=tst) (elt:=elt) (cap:=cap) en p f (l:=l) fun b hb=>h b (n_ _ hb);obtain ⟨h1,h2⟩:=h a on;rw [K0];unfold tE;dsimp only;rw [h1,ih];cases q:p a with
  | true=>dsimp only; rw [h2,PX q]; rfl
  | false=>dsimp only; rw [PY (by rw [q]; decide)]
theorem qw {elt:FnE} {cap:Ev} {α:Type} (en:α→Dv) (f:α→Dv):∀ {l:List α},(∀ a∈l,elt (cap.set 0 (a_ (en a)))=a_ (.ok (f a)))→jZ (gN 0) ck elt cap (l.map en)=a_ (l.map f)
 | [],_=>rfl
 | a :: l,h=>by
  have ih:=qw (elt:=elt) (cap:=cap) en f (l:=l) fun b hb=>h b (n_ _ hb);rw [K0,K0];unfold jZ;show (match elt (cap.set 0 (a_ (en a))) with | some (.ok y)=>_ | _=>_)=_
  rw [h a on,ih]
theorem nZ {tst:FnB} {elt:FnE} {cap:Ev} {α:Type} (en:α→Dv) (p:α→Bool) (f:α→Dv):∀ {l:List α},(∀ a∈l,tst (cap.set 0 (a_ (en a)))=a_ (.ok (p a))∧elt (cap.set 0 (a_ (en a)))=a_ (.ok (f a)))→jZ (gN 0) (a_ tst) elt cap (l.map en)=a_ ((l.filter p).map f)
 | [],_=>rfl
 | a :: l,h=>by
  have ih:=nZ (tst:=tst) (elt:=elt) (cap:=cap) en p f (l:=l) fun b hb=>h b (n_ _ hb);obtain ⟨h1,h2⟩:=h a on;rw [K0];unfold jZ;show (match tst (cap.set 0 (a_ (en a))) with | some (.ok d_)=>_ | some (.ok e_)=>_ | _=>_)=_
  rw [h1,ih];cases q:p a with
  | true=>dsimp only; rw [h2,PX q]; rfl
  | false=>dsimp only; rw [PY (by rw [q]; decide)]
theorem gJ {cs:List (Str×Nat)} {src:FnA} {elt:FnE} {ρ:Ev} {α:Type} (en f:α→Dv) {l:List α} (hs:src ρ=a_ (.ok (l.map en))) (hl:l.length≤100000) (h:∀ a∈l,elt ((yb cs ρ).set 0 (a_ (en a)))=a_ (.ok (f a))):cF cs src ck elt ρ=a_ (.ok (.lst (l.map f))):=by
 unfold cF;rw [hs];show (match tE ck elt (yb cs ρ) (l.map en) with | some ys=>_ | none=>_)=_
 rw [qv en f h];dsimp only;rw [if_pos ⟨by simpa using hl,by simpa using hl⟩]
theorem ju {cs:List (Str×Nat)} {src:FnA} {tst:FnB} {elt:FnE} {ρ:Ev} {α:Type} (en:α→Dv) (p:α→Bool) (f:α→Dv) {l:List α} (hs:src ρ=a_ (.ok (l.map en))) (hl:l.length≤100000) (h:∀ a∈l,tst ((yb cs ρ).set 0 (a_ (en a)))=a_ (.ok (p a))∧elt ((yb cs ρ).set 0 (a_ (en a)))=a_ (.ok (f a))) :
 cF cs src (a_ tst) elt ρ=a_ (.ok (.lst ((l.filter p).map f))):=by
 unfold cF;rw [hs];show (match tE (a_ tst) elt (yb cs ρ) (l.map en) with | some ys=>_ | none=>_)=_
 rw [nY en p f h];dsimp only;have:=Mv p l;rw [if_pos ⟨by simp; omega,by simpa using hl⟩]
theorem oa {cs:List (Str×Nat)} {src:FnA} {elt:FnE} {ρ:Ev} {α:Type} (en f:α→Dv) {l:List α} (hs:src ρ=a_ (.ok (l.map en))) (hl:l.length≤100000) (h:∀ a∈l,elt ((iy 1 cs ρ).set 0 (a_ (en a)))=a_ (.ok (f a))):cp 1 cs src (gN 0) ck elt ρ=a_ (.ok (.lst (l.map f))):=by
 unfold cp;rw [hs];show (match jZ (gN 0) ck elt (iy 1 cs ρ) (l.map en) with | some ys=>_ | none=>_)=_
 rw [qw en f h];dsimp only;rw [if_pos ⟨by simpa using hl,by simpa using hl⟩]
theorem jQ {cs:List (Str×Nat)} {src:FnA} {tst:FnB} {elt:FnE} {ρ:Ev} {α:Type} (en:α→Dv) (p:α→Bool) (f:α→Dv) {l:List α} (hs:src ρ=a_ (.ok (l.map en))) (hl:l.length≤100000) (h:∀ a∈l,tst ((iy 1 cs ρ).set 0 (a_ (en a)))=a_ (.ok (p a))∧elt ((iy 1 cs ρ).set 0 (a_ (en a)))=a_ (.ok (f a))) :
 cp 1 cs src (gN 0) (a_ tst) elt ρ=a_ (.ok (.lst ((l.filter p).map f))):=by
 unfold cp;rw [hs];show (match jZ (gN 0) (a_ tst) elt (iy 1 cs ρ) (l.map en) with | some ys=>_ | none=>_)=_
 rw [nZ en p f h];dsimp only;have:=Mv p l;rw [if_pos ⟨by simp; omega,by simpa using hl⟩]
theorem AH {i j:Int} (h:-(2 ^ 62)≤i∧i < 2 ^ 62∧-(2 ^ 62)≤j∧j < 2 ^ 62):vK [.int i,.int j]=a_ (.ok (rng i (j - i).toNat)):=by rw [vK,if_pos h]
theorem AI {j:Int} (h:-(2 ^ 62)≤j∧j < 2 ^ 62):qV [.int j]=a_ (.ok (rng 0 j.toNat)):=by rw [qV,if_pos h]
theorem AJ {n:Nat} (h:n≤1000):-(2 ^ 62)≤(1:Int)∧(1:Int) < 2 ^ 62∧-(2 ^ 62)≤(n:Int)∧(n:Int) < 2 ^ 62:=by omega
theorem EN {n:Nat} (h:n≤1000):vK [.int 1,.int (n:Int)]=a_ (.ok (rng 1 ((n:Int) - 1).toNat)):=AH (AJ h)
theorem EO {n:Nat} (h:n≤1000):qV [.int (n:Int)]=a_ (.ok (rng 0 n)):=by
 rw [AI (by omega)]; rfl
theorem kU {α:Type} (p:α→Bool):∀ l:List α,eI (l.map fun a=>Dv.bl (p a))=a_ (l.map p)
 | []=>rfl
 | a :: l=>by
  show (match eI (l.map fun a=>Dv.bl (p a)) with | some bs=>a_ (p a :: bs) | none=>ck)=_
  rw [kU p l];rfl
mutual
def pln:Dv→Bool
 | .exn _=>e_
 | .tup ds=>plns ds
 | .lst ds=>plns ds
 | _=>d_
def plns:List Dv→Bool
 | []=>d_
 | d :: ds=>pln d && plns ds
end
mutual
theorem mx:∀ d:Dv,pln d=d_→Ld (bW d) (bW d)=d_
 | .non,_=>by simp [bW,Ld]
 | .bl b,_=>by simp [bW,Ld]
 | .int b,_=>by simp [bW,Ld]
 | .str b,_=>by simp [bW,Ld]
 | .tup ds,h=>by simp only [bW,Ld]; exact eqvs_refl ds (by simpa [pln] using h)
 | .lst ds,h=>by simp only [bW,Ld]; exact eqvs_refl ds (by simpa [pln] using h)
 | .scr ns,_=>by
  simp only [bW,Ld]
  induction ns with
  | nil=>simp [L_]
  | cons n ns ih=>simp [L_,Ld]; exact ih rfl
 | .exn _,h=>by simp [pln] at h
theorem eqvs_refl:∀ ds:List Dv,plns ds=d_→L_ (toPys ds) (toPys ds)=d_
 | [],_=>by simp [toPys,L_]
 | d :: ds,h=>by
  have h':pln d=d_∧plns ds=d_:=by simpa [plns] using h
  simp only [toPys,L_,pi];exact ⟨mx d h'.1,eqvs_refl ds h'.2⟩
end
theorem AK {d:Dv} (h1:okP d=d_) (h2:pln d=d_):neX d d=a_ (.ok (.bl e_)):=by
 unfold neX;split
 · rename_i b hb;have:b=d_:=by
    cases d <;> simp [eqS] at hb
    · exact hb
    · exact hb
    · exact hb
    · rw [← hb]; unfold seq; simp
   rw [this]; rfl
 · rw [h1,mx d h2]; rfl
theorem AM {d:Dv} (h1:okP d=d_) (h2:pln d=d_):eqX d d=a_ (.ok (.bl d_)):=by
 unfold eqX;split
 · rename_i b hb;have:b=d_:=by
    cases d <;> simp [eqS] at hb
    · exact hb
    · exact hb
    · exact hb
    · rw [← hb]; unfold seq; simp
   rw [this]
 · rw [h1,mx d h2]; rfl
structure It1 (k:Nat) (d:Dv):Prop where
 c:K6 (bW d)=d_
 dp:(bW d).depth≤k
 p:pln d=d_
theorem xz {k:Nat}:∀ {ds:List Dv},(∀ d∈ds,It1 k d)→LI (toPys ds)=d_∧MB (toPys ds)≤k∧plns ds=d_
 | [],_=>by simp [toPys,LI,MB,plns]
 | d :: ds,h=>by
  obtain ⟨h1,h2,h3⟩:=xz (ds:=ds) fun d' hd=>h d' (n_ _ hd);have h0:=h d on;simp only [toPys,LI,MB,plns,pi];exact ⟨⟨h0.c,h1⟩,by have:=h0.dp; omega,h0.p,h3⟩
theorem qz {k:Nat} {ds:List Dv} (h:∀ d∈ds,It1 k d):It1 (k + 1) (.tup ds):=by
 obtain ⟨h1,h2,h3⟩:=xz h;exact ⟨by simpa [bW,K6] using h1,by simp [bW,N_]; exact h2,by simpa [pln] using h3⟩
theorem ve {k:Nat} {ds:List Dv} (h:∀ d∈ds,It1 k d):It1 (k + 1) (.lst ds):=by
 obtain ⟨h1,h2,h3⟩:=xz h;exact ⟨by simpa [bW,K6] using h1,by simp [bW,N_]; exact h2,by simpa [pln] using h3⟩
theorem It1.okP {k:Nat} {d:Dv} (h:It1 k d) (hk:k≤64):okP d=d_:=by
 unfold FD.okP SeqAt.shaped;rw [h.c];have:=h.dp;simp;omega
theorem It1.le {k m:Nat} {d:Dv} (h:It1 k d) (hk:k≤m):It1 m d:=⟨h.c,K5 h.dp hk,h.p⟩
theorem fH {x:Str} (h:K6 (.str x)=d_):It1 0 (.str x):=⟨h,by simp [bW,N_],rfl⟩
theorem qA {i:Int}:It1 0 (.int i):=⟨rfl,by simp [bW,N_],rfl⟩
theorem xA {i:Bool}:It1 0 (.bl i):=⟨rfl,by simp [bW,N_],rfl⟩
theorem yD:It1 0 .non:=⟨rfl,by simp [bW,N_],rfl⟩
theorem og {α:Type} (f:α→Dv):∀ l:List α,toPys (l.map f)=l.map fun a=>bW (f a)
 | []=>rfl
 | a :: l=>by simp [toPys,og f l]
theorem Ik {x:Dv} {α:Type} {en:α→Dv} {l:List α} {p:α→Bool} (hx:It1 5 x) (hf:jA x=e_) (hl:∀ a∈l,It1 5 (en a)) (hp:∀ a∈l,Ld (bW (en a)) (bW x)=p a):inX x (.lst (l.map en))=a_ (.ok (.bl (l.any p)))∧dk x (.lst (l.map en))=a_ (.ok (.bl (!l.any p)))∧inX x (.tup (l.map en))=a_ (.ok (.bl (l.any p)))∧dk x (.tup (l.map en))=a_ (.ok (.bl (!l.any p))):=by
 have e:inP x (l.map en)=a_ (l.any p):=by
  unfold inP;have h1:=hx.okP (by omega);have h2:=(xz (k:=5) (ds:=l.map en) (by intro d hd; obtain ⟨a,ha,rfl⟩:=KY.mp hd; exact hl a ha)).1;have h3:u_ ((bW x).depth≤63)=d_:=by have:=hx.dp; simp; omega
  rw [h1,h2,h3];simp only [Rr,if_true];rw [og];congr 1;clear h1 h2 h3 hl hx
  induction l with
  | nil=>rfl
  | cons a l ih =>
   simp only [K0,OE];rw [hp a on,ih fun b hb=>hp b (n_ _ hb)]
 have e0:∀ ys,inL x ys=ck:=fun ys=>by unfold inL; rw [hf]; rfl
 have n1:zp x (.lst (l.map en))=ck:=by cases x <;> first | exact e0 _ | rfl
 have n2:zp x (.tup (l.map en))=ck:=by cases x <;> first | exact e0 _ | rfl
 refine ⟨?_,?_,?_,?_⟩ <;> simp [inX,dk,DA,n1,n2,e]
end FD
namespace G
open PySem PySem.Spec PyProof.Rows L2 FD
theorem jR {n:Nat} {B:FnS} {ds:List Dv} {d:Dv} (h:B (ds.map a_ ++ y_ (n - ds.length) ck)=a_ (.rt d)):eV n B ds=a_ (.ok d):=by unfold eV; rw [h]
theorem cE (F:List Dv→Option (Rs Dv)) {n:Nat} {g:FnA} {ρ:Ev} {ds:List Dv} {r:Option (Rs Dv)} (h:g ρ=a_ (.ok ds)) (hl:ds.length=n) (hF:F ds=r):am F n g ρ=r:=by
 unfold am;rw [h,← hF];exact if_pos hl
theorem AN (ns:List Int) (hl:ns.length≤63) (k:Int):∃ c,di [.scr ns,.int k]=a_ (.ok (.int c)):=by
 cases ns with
 | nil=>exact ⟨7 * k,by kernel_rfl⟩
 | cons n r =>
  have h0:0 < (n :: r).length:=by simp
  have h1:(0:Int) < ((n :: r).length:Int):=by omega
  have h2:((n :: r).length:Int) < 1073741824:=by omega
  have h3:0≤k % ((n :: r).length:Int):=MD _ (by omega);have h4:k % ((n :: r).length:Int) < ((n :: r).length:Int):=LR _ h1;have h5:(k % ((n :: r).length:Int)).toNat < (n :: r).length:=by omega
  refine ⟨(n :: r)[(k % ((n :: r).length:Int)).toNat] + 6553 * (k / ((n :: r).length:Int)),?_⟩;have hat:atD (n :: r) (k % ((n :: r).length:Int))=a_ (n :: r)[(k % ((n :: r).length:Int)).toNat]:=by
   unfold atD;rw [if_pos h3,B_ h5]
  have hm:iP (.int k) (.int ((n :: r).length:Int))=a_ (.ok (.int (k % ((n :: r).length:Int)))):=by
   show (if 0 < ((n :: r).length:Int) then _ else _)=_;rw [if_pos h1]
  have hd:iU (.int k) (.int ((n :: r).length:Int))=a_ (.ok (.int (k / ((n :: r).length:Int)))):=by
   show (if 0 < ((n :: r).length:Int)∧((n :: r).length:Int) < 1073741824 then _ else _)=_;rw [if_pos ⟨h1,h2⟩]
  have hi:ixD (.scr (n :: r)) (.int (k % ((n :: r).length:Int)))=a_ (.ok (.int (n :: r)[(k % ((n :: r).length:Int)).toNat])):=by
   show (match atD (n :: r) (k % ((n :: r).length:Int)) with | some d=>_ | none=>_)=_
   rw [hat]
  show (match fm [a_ (.scr (n :: r)),a_ (.int k)] with | some (.nx _)=>_ | some (.rt d)=>_ | _=>_)=_
  have e:fm [a_ (.scr (n :: r)),a_ (.int k)]=bV (bnd (bnd (iP (.int k) (.int ((n :: r).length:Int))) fun i=>ixD (.scr (n :: r)) i) fun x=>bnd (bnd (iU (.int k) (.int ((n :: r).length:Int))) fun q=>jx (.int 6553) q) fun y=>df x y) fun d=>a_ (.rt d):=by kernel_rfl
  rw [e,hm,hd];show (match bV (bnd (ixD (.scr (n :: r)) (.int (k % ((n :: r).length:Int)))) fun x=>_) _ with | some (.nx _)=>_ | some (.rt d)=>_ | _=>_)=_
  rw [hi]
  kernel_rfl
def dr1 (c k:Int):Int:=(c % 2147483563 * 69069 + 104723 * (k + 1)) % 2147483563
def dr2 (c:Int):Int:=(c * c + c / 3) % 2147483399
def dr3 (c m:Int):Int:=(c * c + c / 7) % 2147483647 / 11 % m
theorem oh {i j:Int} (h:(-18446744073709551616 < i∧i < 18446744073709551616)∨(-18446744073709551616 < j∧j < 18446744073709551616)):jx (.int i) (.int j)=a_ (.ok (.int (i * j))):=by
 show (if _ then _ else _)=_;rw [if_pos h]
theorem oi {i j:Int} (h:0 < j):iP (.int i) (.int j)=a_ (.ok (.int (i % j))):=by
 show (if _ then _ else _)=_;rw [if_pos h]
theorem aX (ns:List Int) (hl:ns.length≤63) (k m:Int) (hm:0 < m):∃ d:Int,0≤d∧d < m∧ai [.scr ns,.int k,.int m]=a_ (.ok (.int d)):=by
 obtain ⟨c,hc⟩:=AN ns hl k;refine ⟨dr3 (dr2 (dr1 c k)) m,MD _ (by omega),LR _ hm,?_⟩;have b1:0≤dr1 c k∧dr1 c k < 2147483563:=⟨MD _ (by omega),LR _ (by omega)⟩;have b2:0≤dr2 (dr1 c k)∧dr2 (dr1 c k) < 2147483399:=⟨MD _ (by omega),LR _ (by omega)⟩;have b0:0≤c % 2147483563∧c % 2147483563 < 2147483563:=⟨MD _ (by omega),LR _ (by omega)⟩;show bu 4 dr [.scr ns,.int k,.int m]=_;have s1:(ag di 2 (ac (ae 0) (ac (ae 1) ah))) [a_ (.scr ns),a_ (.int k),a_ (.int m),ck]=a_ (.ok (.int c)):=by
  show (match di [.scr ns,.int k] with | some (.ok d)=>(a_ (.ok d):Option (Rs Dv)) | _=>ck)=_
  rw [hc]
 have e1:(bc 3 (f2 iP (f2 df (f2 jx (f2 iP (ag di 2 (ac (ae 0) (ac (ae 1) ah))) (fC (.int 2147483563))) (fC (.int 69069))) (f2 jx (fC (.int 104723)) (f2 df (ae 1) (fC (.int 1))))) (fC (.int 2147483563)))) [a_ (.scr ns),a_ (.int k),a_ (.int m),ck]=a_ (.nx [a_ (.scr ns),a_ (.int k),a_ (.int m),a_ (.int (dr1 c k))]):=by
  show bV (bnd (bnd (bnd (bnd ((ag di 2 (ac (ae 0) (ac (ae 1) ah))) [a_ (.scr ns),a_ (.int k),a_ (.int m),ck]) fun x=>iP x (.int 2147483563)) fun x=>jx x (.int 69069)) fun x=>bnd (jx (.int 104723) (.int (k + 1))) fun y=>df x y) fun x=>iP x (.int 2147483563)) (fun d=>a_ (.nx [a_ (.scr ns),a_ (.int k),a_ (.int m),a_ d]))=_;rw [s1];show bV (bnd (bnd (bnd (iP (.int c) (.int 2147483563)) fun x=>jx x (.int 69069)) fun x=>bnd (jx (.int 104723) (.int (k + 1))) fun y=>df x y) fun x=>iP x (.int 2147483563)) _=_;rw [oi (by omega),oh (i:=104723) (.inl (by omega))];show bV (bnd (bnd (jx (.int (c % 2147483563)) (.int 69069)) fun x=>df x (.int (104723 * (k + 1)))) fun x=>iP x (.int 2147483563)) _=_;rw [oh (.inl (by omega))];show bV (iP (.int (c % 2147483563 * 69069 + 104723 * (k + 1))) (.int 2147483563)) _=_;rw [oi (by omega)];rfl
 generalize hd1:dr1 c k=d1 at *;have e2:(bc 3 (f2 iP (f2 df (f2 jx (ae 3) (ae 3)) (f2 iU (ae 3) (fC (.int 3)))) (fC (.int 2147483399)))) [a_ (.scr ns),a_ (.int k),a_ (.int m),a_ (.int d1)]=a_ (.nx [a_ (.scr ns),a_ (.int k),a_ (.int m),a_ (.int (dr2 d1))]):=by
  show bV (bnd (bnd (jx (.int d1) (.int d1)) fun x=>df x (.int (d1 / 3))) fun x=>iP x (.int 2147483399)) (fun d=>a_ (.nx [a_ (.scr ns),a_ (.int k),a_ (.int m),a_ d]))=_;rw [oh (.inl (by omega))];show bV (iP (.int (d1 * d1 + d1 / 3)) (.int 2147483399)) _=_;rw [oi (by omega)];rfl
 generalize hd2:dr2 d1=d2 at *;have e3:(aA (f2 iP (f2 iU (f2 iP (f2 df (f2 jx (ae 3) (ae 3)) (f2 iU (ae 3) (fC (.int 7)))) (fC (.int 2147483647))) (fC (.int 11))) (ae 2))) [a_ (.scr ns),a_ (.int k),a_ (.int m),a_ (.int d2)]=a_ (.rt (.int (dr3 d2 m))):=by
  show bV (bnd (bnd (bnd (bnd (jx (.int d2) (.int d2)) fun x=>df x (.int (d2 / 7))) fun x=>iP x (.int 2147483647)) fun x=>iU x (.int 11)) fun x=>iP x (.int m)) (fun d=>a_ (.rt d))=_;rw [oh (.inl (by omega))];show bV (bnd (bnd (iP (.int (d2 * d2 + d2 / 7)) (.int 2147483647)) fun x=>iU x (.int 11)) fun x=>iP x (.int m)) _=_;rw [oi (by omega)];show bV (iP (.int ((d2 * d2 + d2 / 7) % 2147483647 / 11)) (.int m)) _=_;rw [oi hm];rfl
 show (match dr [a_ (.scr ns),a_ (.int k),a_ (.int m),ck] with | some (.nx _)=>_ | some (.rt d)=>_ | _=>_)=_
 have e:dr [a_ (.scr ns),a_ (.int k),a_ (.int m),ck]=a_ (.rt (.int (dr3 d2 m))):=by
  show sq ((bc 3 _) _) (fun ρ=>sq ((bc 3 _) ρ) _)=_;rw [e1];show sq ((bc 3 _) [a_ (.scr ns),a_ (.int k),a_ (.int m),a_ (.int d1)]) _=_;rw [e2];exact e3
 rw [e]
def menu:List Str:=[b_ "a.b",b_ "b",b_ "x.a.b",b_ "y.x.a.b",b_ "c.uk",b_ "uk",b_ "d.c.uk",b_ "e.d.c.uk",b_ "w.ck",b_ "v.w.ck",b_ "ck",b_ "g-1.a.b",b_ "7.b",b_ "p.q"]
def rules:List Dv:=[.str "!w.ck",.str "*.ck",.str "*.uk",.str "a.b",.str "b",.str "c.uk",.str "q",.str "uk"]
def iQ:List Dv→List (List Dv)
 | []=>[[]]
 | x :: r=>(iQ r).map (x :: ·) ++ iQ r
def okO (o:Option (Rs Dv)):Option (Rs Dv):=match o with
 | some (.ok d)=>a_ (.ok d)
 | _=>ck
theorem my (ns:List Int) (hl:ns.length≤63) (k:Int):∃ p∈menu,ba [.scr ns,.int k]=a_ (.ok (.str p)):=by
 obtain ⟨d,h0,h1,hd⟩:=aX ns hl k 14 (by omega);have e:ba [.scr ns,.int k]=(match bV (bnd (match ai [.scr ns,.int k,.int 14] with | some (.ok d)=>(a_ (.ok d):Option (Rs Dv)) | _=>ck) fun i=>ixD (.lst (menu.map Dv.str)) i) fun d=>a_ (.rt d) with
  | some (.nx _)=>a_ (.ok .non)
  | some (.rt d)=>a_ (.ok d)
  | _=>ck):=by kernel_rfl
 rw [e,hd];have hc:d=0∨d=1∨d=2∨d=3∨d=4∨d=5∨d=6∨d=7∨d=8∨d=9∨d=10∨d=11∨d=12∨d=13:=by omega
 rcases hc with rfl | rfl | rfl | rfl | rfl | rfl | rfl | rfl | rfl | rfl | rfl | rfl | rfl | rfl
 · exact ⟨b_ "a.b",by simp [menu],by kernel_rfl⟩
 · exact ⟨b_ "b",by simp [menu],by kernel_rfl⟩
 · exact ⟨b_ "x.a.b",by simp [menu],by kernel_rfl⟩
 · exact ⟨b_ "y.x.a.b",by simp [menu],by kernel_rfl⟩
 · exact ⟨b_ "c.uk",by simp [menu],by kernel_rfl⟩
 · exact ⟨b_ "uk",by simp [menu],by kernel_rfl⟩
 · exact ⟨b_ "d.c.uk",by simp [menu],by kernel_rfl⟩
 · exact ⟨b_ "e.d.c.uk",by simp [menu],by kernel_rfl⟩
 · exact ⟨b_ "w.ck",by simp [menu],by kernel_rfl⟩
 · exact ⟨b_ "v.w.ck",by simp [menu],by kernel_rfl⟩
 · exact ⟨b_ "ck",by simp [menu],by kernel_rfl⟩
 · exact ⟨b_ "g-1.a.b",by simp [menu],by kernel_rfl⟩
 · exact ⟨b_ "7.b",by simp [menu],by kernel_rfl⟩
 · exact ⟨b_ "p.q",by simp [menu],by kernel_rfl⟩
def AO:FnB:=fB (f2 eqX (ag ai 3 (ac (ae 2) (ac (f2 df (ae 3) (ae 0)) (ac (fC (.int 2)) ah)))) (fC (.int 0)))
theorem yE (ns:List Int) (hl:ns.length≤63) (z:Int):∀ (l:List Dv) (k:Nat),∃ t∈iQ l,jZ (gP 0 1) (a_ AO) (ae 1) [ck,ck,a_ (.scr ns),a_ (.int z)] (jC k l)=a_ t
 | [],k=>⟨[],by simp [iQ],rfl⟩
 | x :: r,k=>by
  obtain ⟨t,ht,e⟩:=yE ns hl z r (k + 1);obtain ⟨d,h0,h1,hd⟩:=aX ns hl (z + k) 2 (by omega);have ht':AO [a_ (.int k),a_ x,a_ (.scr ns),a_ (.int z)]=bnd (bnd (okO (ai [.scr ns,.int (z + k),.int 2])) fun x=>eqX x (.int 0)) toB:=by kernel_rfl
  have hu:jZ (gP 0 1) (a_ AO) (ae 1) [ck,ck,a_ (.scr ns),a_ (.int z)] (jC k (x :: r))=(match AO [a_ (.int k),a_ x,a_ (.scr ns),a_ (.int z)] with
   | some (.ok d_)=>(match jZ (gP 0 1) (a_ AO) (ae 1) [ck,ck,a_ (.scr ns),a_ (.int z)] (jC (k + 1) r) with | some ys=>a_ (x :: ys) | none=>ck)
   | some (.ok e_)=>jZ (gP 0 1) (a_ AO) (ae 1) [ck,ck,a_ (.scr ns),a_ (.int z)] (jC (k + 1) r)
   | _=>ck):=by kernel_rfl
  rw [hu,ht',hd,e];have hc:d=0∨d=1:=by omega
  rcases hc with rfl | rfl
  · exact ⟨x :: t,by simp [iQ,ht],by kernel_rfl⟩
  · exact ⟨t,by simp [iQ,ht],by kernel_rfl⟩
theorem mz:∀ {l t:List Dv},t∈iQ l→t.length≤l.length
 | [],t,h=>by simp [iQ] at h; simp [h]
 | x :: r,t,h=>by
  simp only [iQ,D_,KY] at h;rcases h with ⟨u,hu,rfl⟩ | h
  · have:=mz hu; simp; omega
  · have:=mz h; simp; omega
theorem xB (ns:List Int) (hl:ns.length≤63):∃ t∈iQ rules,bQ [.scr ns,.int 0]=a_ (.ok (.tup t)):=by
 obtain ⟨t,ht,e⟩:=yE ns hl 0 rules 0;refine ⟨t,ht,?_⟩;have hle:t.length≤100000:=by have:=mz ht; have:rules.length=8:=rfl; omega
 have hu:bQ [.scr ns,.int 0]=(match bV (bnd (bnd (match jZ (gP 0 1) (a_ AO) (ae 1) [ck,ck,a_ (.scr ns),a_ (.int 0)] (jC 0 rules) with
  | some ys=>if ys.length≤100000∧(jC 0 rules).length≤100000 then (a_ (.ok (.lst ys)):Option (Rs Dv)) else ck
  | none=>ck) fun x=>bnd (a_ (.ok [])) fun ys=>a_ (.ok (x :: ys))) gL) fun d=>a_ (.rt d) with
  | some (.nx _)=>a_ (.ok .non)
  | some (.rt d)=>a_ (.ok d)
  | _=>ck):=by kernel_rfl
 rw [hu,e];dsimp only;rw [if_pos ⟨hle,by decide⟩];rfl
def pths : List Str := [b_ "/", b_ "/x", b_ "/x/", b_ "/x/y", b_ "/xy", b_ "/x/y/z.q", b_ "//", b_ "/-_.9", b_ "/x/y/"]
theorem pM (ns:List Int) (hl:ns.length≤63) (k:Int):∃ p∈pths,cD [.scr ns,.int k]=a_ (.ok (.str p)):=by
 obtain ⟨d,h0,h1,hd⟩:=aX ns hl k 9 (by omega);have e:cD [.scr ns,.int k]=(match bV (bnd (match ai [.scr ns,.int k,.int 9] with | some (.ok d)=>(a_ (.ok d):Option (Rs Dv)) | _=>ck) fun i=>ixD (.lst (pths.map Dv.str)) i) fun d=>a_ (.rt d) with
  | some (.nx _)=>a_ (.ok .non)
  | some (.rt d)=>a_ (.ok d)
  | _=>ck):=by kernel_rfl
 rw [e,hd];have hc:d=0∨d=1∨d=2∨d=3∨d=4∨d=5∨d=6∨d=7∨d=8:=by omega
 rcases hc with rfl | rfl | rfl | rfl | rfl | rfl | rfl | rfl | rfl
 · exact ⟨b_ "/",by simp [pths],by kernel_rfl⟩
 · exact ⟨b_ "/x",by simp [pths],by kernel_rfl⟩
 · exact ⟨b_ "/x/",by simp [pths],by kernel_rfl⟩
 · exact ⟨b_ "/x/y",by simp [pths],by kernel_rfl⟩
 · exact ⟨b_ "/xy",by simp [pths],by kernel_rfl⟩
 · exact ⟨b_ "/x/y/z.q",by simp [pths],by kernel_rfl⟩
 · exact ⟨b_ "//",by simp [pths],by kernel_rfl⟩
 · exact ⟨b_ "/-_.9", by simp [pths], by kernel_rfl⟩
 · exact ⟨b_ "/x/y/",by simp [pths],by kernel_rfl⟩
theorem rP (F:List Dv→Option (Rs Dv)) {f g k:FnE} {ρ:Ev} {a b c d:Dv} (h:f ρ=a_ (.ok a)) (h':g ρ=a_ (.ok b)) (h'':k ρ=a_ (.ok c)) (hF:F [a,b,c]=a_ (.ok d)):ag F 3 (ac f (ac g (ac k ah))) ρ=a_ (.ok d):=j8 (aj h (aj h' (aj h'' aB))) rfl hF
theorem qB (ns:List Int) (hl:ns.length≤63) (z:Int):∃ s h p O,h∈menu∧p∈pths∧(O=Dv.non∨∃ o∈menu,O=.str o)∧dt [.scr ns,.int z]=a_ (.ok (.tup [.bl s,.str h,.str p,O])):=by
 obtain ⟨d2,a0,a1,hd2⟩:=aX ns hl (z + 2) 3 (by omega);obtain ⟨o,ho,hn3⟩:=my ns hl (z + 3);obtain ⟨d0,b0,b1,hd0⟩:=aX ns hl z 2 (by omega);obtain ⟨h,hh,hn1⟩:=my ns hl (z + 1);obtain ⟨p,hp,hp4⟩:=pM ns hl (z + 4);have hO:∃ O,(O=Dv.non∨∃ o∈menu,O=.str o)∧ixD (.lst [.non,.str o,.str o]) (.int d2)=a_ (.ok O):=by
  have hc:d2=0∨d2=1∨d2=2:=by omega
  rcases hc with rfl | rfl | rfl
  · exact ⟨.non,.inl rfl,rfl⟩
  · exact ⟨.str o,.inr ⟨o,ho,rfl⟩,rfl⟩
  · exact ⟨.str o,.inr ⟨o,ho,rfl⟩,rfl⟩
 obtain ⟨O,hO,hix⟩:=hO;refine ⟨(d0 == 0),h,p,O,hh,hp,hO,fT ?_⟩;show gk [a_ (.scr ns),a_ (.int z),ck]=_;unfold gk;have e:f2 ixD (bJ (ac (fC .non) (ac (ag ba 2 (ac (ae 0) (ac (f2 df (ae 1) (fC (.int 3))) ah))) (ac (ag ba 2 (ac (ae 0) (ac (f2 df (ae 1) (fC (.int 3))) ah))) ah)))) (ag ai 3 (ac (ae 0) (ac (f2 df (ae 1) (fC (.int 2))) (ac (fC (.int 3)) ah)))) [a_ (.scr ns),a_ (.int z),ck]=a_ (.ok O):=by
  rw [bf (jE (aj rfl (aj (fA ba rfl rfl hn3) (aj (fA ba rfl rfl hn3) aB))) (by show 3≤100000; decide)) (rP ai rfl rfl rfl hd2)];exact hix
 rw [ao (ρ':=[a_ (.scr ns),a_ (.int z),a_ O]) (aW e rfl)];refine cP (oX (aj ?_ (aj (fA ba rfl rfl hn1) (aj (fA cD rfl rfl hp4) (aj rfl aB)))) (by show 4≤100000; decide));rw [bf (rP ai rfl rfl rfl hd0) rfl];rfl
abbrev bo (k:Bool):Option (Rs Dv):=a_ (.ok (.bl k))
def En:List Str:=menu ++ [b_ "q"]
theorem eC {x y:Str} (h:seq x y=d_):x=y:=by
 unfold seq at h;obtain ⟨⟨a⟩⟩:=x; obtain ⟨⟨b⟩⟩:=y;simp at h;rw [h]
theorem qC (x:Str):seq x x=d_:=by unfold seq; simp
theorem cZ {α:Type} {l:List α} {p:α→Bool} (n:Nat) (h1:(l.take n).all p=d_) (h2:(l.drop n).all p=d_):l.all p=d_:=by
 rw [← Qs n l,Sy,h1,h2]; rfl
def Il (t:List Dv) (n:Str):Bool:=match cQ [.tup t,.str n],da [.tup t,.str n] with
 | some (.ok (.str _)),a_ (.ok .non)=>d_
 | some (.ok (.str _)),a_ (.ok (.str _))=>d_
 | _,_=>e_
def gR (t:List Dv):Bool:=En.all fun n=>Il t n
def cW:Nat→List (List Dv)
 | 0=>iQ rules
 | k + 1=>(cW k).drop 16
theorem Ki:((cW 0).take 16).all gR=d_:=by kernel_rfl
theorem Kj:((cW 1).take 16).all gR=d_:=by kernel_rfl
theorem Kk:((cW 2).take 16).all gR=d_:=by kernel_rfl
theorem Kl:((cW 3).take 16).all gR=d_:=by kernel_rfl
theorem Km:((cW 4).take 16).all gR=d_:=by kernel_rfl
theorem Kn:((cW 5).take 16).all gR=d_:=by kernel_rfl
theorem Ko:((cW 6).take 16).all gR=d_:=by kernel_rfl
theorem Kp:((cW 7).take 16).all gR=d_:=by kernel_rfl
theorem Kq:((cW 8).take 16).all gR=d_:=by kernel_rfl
theorem Kr:((cW 9).take 16).all gR=d_:=by kernel_rfl
theorem Im:((cW 10).take 16).all gR=d_:=by kernel_rfl
theorem Io:((cW 11).take 16).all gR=d_:=by kernel_rfl
theorem Iq:((cW 12).take 16).all gR=d_:=by kernel_rfl
theorem Ir:((cW 13).take 16).all gR=d_:=by kernel_rfl
theorem Iu:((cW 14).take 16).all gR=d_:=by kernel_rfl
theorem Iv:((cW 15).take 16).all gR=d_:=by kernel_rfl
theorem EQ:(iQ rules).all gR=d_:=(cZ (l:=cW 0) 16 Ki (cZ (l:=cW 1) 16 Kj (cZ (l:=cW 2) 16 Kk (cZ (l:=cW 3) 16 Kl (cZ (l:=cW 4) 16 Km (cZ (l:=cW 5) 16 Kn (cZ (l:=cW 6) 16 Ko (cZ (l:=cW 7) 16 Kp (cZ (l:=cW 8) 16 Kq (cZ (l:=cW 9) 16 Kr (cZ (l:=cW 10) 16 Im (cZ (l:=cW 11) 16 Io (cZ (l:=cW 12) 16 Iq (cZ (l:=cW 13) 16 Ir (cZ (l:=cW 14) 16 Iu (cZ (l:=cW 15) 16 Iv (show (cW 16).all gR=d_ by kernel_rfl)))))))))))))))))
theorem vf {t:List Dv} (ht:t∈iQ rules) {n:Str} (hn:n∈En):∃ m o,cQ [.tup t,.str n]=a_ (.ok (.str m))∧(o=Dv.non∨∃ z,o=.str z)∧da [.tup t,.str n]=a_ (.ok o):=by
 have h:=aP (show (En.all fun n=>Il t n)=d_ from aP EQ ht) hn;unfold Il at h;split at h
 · rename_i m h1 h2;exact ⟨m,_,h1,.inl rfl,h2⟩
 · rename_i m z h1 h2;exact ⟨m,_,h1,.inr ⟨z,rfl⟩,h2⟩
 · cases h
def okY:Option (Rs Dv)→Bool
 | some (.ok (.bl d_))=>d_
 | _=>e_
theorem gm {o:Option (Rs Dv)} (h:okY o=d_):o=a_ (.ok (.bl d_)):=by
 unfold okY at h; split at h
 · rfl
 · cases h
def okB:Option (Rs Dv)→Bool
 | some (.ok (.bl _))=>d_
 | _=>e_
theorem yF {o:Option (Rs Dv)} (h:okB o=d_):∃ k,o=bo k:=by
 unfold okB at h; split at h
 · exact ⟨_,rfl⟩
 · cases h
def okF:Option (Rs Dv)→Bool
 | some (.ok (.bl e_))=>d_
 | _=>e_
theorem vg:((iQ rules).all fun t=>okY (dX [.tup t]))=d_:=by kernel_rfl
theorem il {t:List Dv} (ht:t∈iQ rules):dX [.tup t]=bo d_:=gm (aP (p:=fun t=>okY (dX [.tup t])) vg ht)
def nms:List Str:=[b_ "n",b_ "safe-a",b_ "own-b",b_ "N_2",b_ "m-1",b_ "safe-",b_ "own",b_ "p",b_ "q"]
def wts:List Str:=[b_ "5",b_ "",b_ "a!b~",b_ "x/y?z",b_ "123456789012",b_ "1"]
theorem vh:(nms.all fun n=>okY (aF [.str n]))=d_:=by kernel_rfl
theorem ES:(nms.all fun n=>!(K1 n (b_ "safe-") && K1 n (b_ "own-")))=d_:=by kernel_rfl
theorem vi:(wts.all fun n=>okY (bw [.str n]))=d_:=by kernel_rfl
theorem vj:(En.all fun n=>okY (bS [.str n]))=d_:=by kernel_rfl
theorem vk:(pths.all fun n=>okY (bZ [.str n]))=d_:=by kernel_rfl
theorem ET:(En.all fun p=>En.all fun q=>okB (aw [.str p,.str q]))=d_:=by kernel_rfl
def Iw (p:Str):Bool:=match jj [.str p] with
 | some (.ok (.str f))=>pths.any (fun q=>seq q f)
 | _=>e_
theorem EU:(pths.all Iw)=d_:=by kernel_rfl
theorem Ix {n:Str} (h:n∈nms):aF [.str n]=bo d_:=gm (aP (p:=fun n=>okY (aF [.str n])) vh h)
theorem Ks {n:Str} (h:n∈nms):K1 n (b_ "safe-")=e_∨K1 n (b_ "own-")=e_:=by
 have:=aP (p:=fun n=>!(K1 n (b_ "safe-") && K1 n (b_ "own-"))) ES h;simpa using this
theorem Iy {n:Str} (h:n∈wts):bw [.str n]=bo d_:=gm (aP (p:=fun n=>okY (bw [.str n])) vi h)
theorem vO {n:Str} (h:n∈En):bS [.str n]=bo d_:=gm (aP (p:=fun n=>okY (bS [.str n])) vj h)
theorem vP {n:Str} (h:n∈pths):bZ [.str n]=bo d_:=gm (aP (p:=fun n=>okY (bZ [.str n])) vk h)
theorem Jx {p q:Str} (h:p∈En) (h':q∈En):∃ k,aw [.str p,.str q]=bo k:=yF (aP (p:=fun q=>okB (aw [.str p,.str q])) (aP (p:=fun p=>En.all fun q=>okB (aw [.str p,.str q])) ET h) h')
theorem Kt {p:Str} (h:p∈pths):∃ f∈pths,jj [.str p]=a_ (.ok (.str f)):=by
 have q:=aP (p:=Iw) EU h;unfold Iw at q;split at q
 · rename_i f h1;obtain ⟨y,hy,ey⟩:=MY.mp q;have e:=eC ey;subst e;exact ⟨y,hy,h1⟩
 · cases q
section
variable {T:Dv}
theorem Gk (h:dX [T]=bo d_):bN [T]=a_ (.ok .non):=by simp [bN,eV,eM,sq,aR,bh,bV,bnd,br,fB,toB,ag,ac,ah,ae,fC,aG,h]
theorem Gm (h:el [T]=bo d_):cB [T]=a_ (.ok .non):=by simp [cB,eV,gF,sq,aR,bh,bV,bnd,br,fB,toB,ag,ac,ah,ae,fC,aG,h]
theorem Jy (h:bR [T]=bo d_):dJ [T]=a_ (.ok .non):=by simp [dJ,eV,eP,sq,aR,bh,bV,bnd,br,fB,toB,ag,ac,ah,ae,fC,aG,h]
theorem xC (h:bj [T]=bo d_):bg [T]=a_ (.ok .non):=by simp [bg,eV,ez,sq,aR,bh,bV,bnd,br,fB,toB,ag,ac,ah,ae,fC,aG,h]
end
theorem la {i:Int} (h0:0≤i) (h1:i≤9999):bj [.int i]=bo d_:=by
 have e:aQ [.int i,.int 0,.int 9999]=bo d_:=by
  simp [aQ,bu,bd,av,sq,aR,aA,bh,bV,bnd,bOr,br,fB,toB,ae,fC,f1,f2,c0,cO,aH,bM,leX,h0,h1]
 simp [bj,bu,dU,av,sq,aR,aA,bh,aS,bc,bV,bnd,bOr,cM,br,fB,toB,ag,am,ac,ah,ae,fC,f1,f2,ixD,atD,vOr,c0,fw,fIf,cx,bJ,fB1,fM,aG,aY,isN,dz,cO,aH,bK,bH,bM,e]
def Mo (u:Dv):Prop:=u=.non∨∃ i:Int,0≤i∧i≤9999∧u=.int i
theorem qD {u:Dv} (h:Mo u):au [u]=bo d_:=by
 rcases h with rfl | ⟨i,h0,h1,rfl⟩
 · simp [au,bu,aT,sq,aA,bh,bV,bnd,toB,ag,ac,ah,ae,fC,f2,vOr,isN]
 · simp [au,bu,aT,av,sq,aR,aA,bh,aS,bc,bV,bnd,bOr,cM,br,fB,toB,ag,am,ac,ah,ae,fC,f1,f2,ixD,atD,vOr,c0,fw,fIf,cx,bJ,fB1,fM,aG,aY,isN,dz,cO,aH,bK,bH,bM,la h0 h1]
structure Ak (h p:Str) (O:Dv):Prop where
 h:h∈En
 p:p∈pths
 o:O=.non∨∃ o∈menu,O=.str o
theorem me {h:Str} (q:h∈menu):h∈En:=G_ _ q
abbrev akn (s:Bool) (h p:Str) (O:Dv):Dv:=.tup [.bl s,.str h,.str p,O]
theorem xD {s:Bool} {h p:Str} {O:Dv} (a:Ak h p O):el [akn s h p O]=bo d_:=by
 have e0:ce [.tup [.bl s,.str h,.str p,O],.int 4]=bo d_:=by kernel_rfl
 have e1:=vO (a.h);have e2:=vP a.p;rcases a.o with rfl | ⟨o,ho,rfl⟩
 · simp [el,bu,gE,av,sq,aR,aA,bh,bV,bnd,br,fB,toB,ag,ac,ah,ae,fC,f1,f2,ixD,atD,vOr,bJ,fB1,isN,cO,aH,e0,e1,e2,iW,eI]
 · have e3:=vO (me ho);simp [el,bu,gE,av,sq,aR,aA,bh,aS,bc,bV,bnd,bOr,cM,br,fB,toB,ag,am,ac,ah,ae,fC,f1,f2,ixD,atD,vOr,c0,fw,fIf,cx,bJ,fB1,fM,aG,aY,isN,dz,cO,aH,bK,bH,bM,e0,e1,e2,e3,iW,eI]
theorem EV {t:List Dv} (ht:t∈iQ rules) {h p:Str} {O:Dv} (a:Ak h p O):∃ k,∀ s,al [.tup t,akn s h p O]=bo k:=by
 rcases a.o with rfl | ⟨o,ho,rfl⟩
 · exact ⟨d_,fun s=>by simp [al,bu,aD,av,sq,aR,aA,bh,aS,bc,bV,bnd,bOr,cM,br,fB,toB,ag,am,ac,ah,ae,fC,f1,f2,ixD,atD,vOr,c0,fw,fIf,cx,bJ,fB1,fM,aG,aY,isN,dz,cO,aH,bK,bH,bM]⟩
 · obtain ⟨m1,o1,_,h1,e1⟩:=vf ht (a.h);obtain ⟨m2,o2,_,h2,e2⟩:=vf ht (me ho);cases q:seq o h with
   | true=>exact ⟨d_,fun s=>by simp [al,bu,aD,av,sq,aR,aA,bh,aS,bc,bV,bnd,bOr,cM,br,fB,toB,ag,am,ac,ah,ae,fC,f1,f2,ixD,atD,vOr,c0,fw,fIf,cx,bJ,fB1,fM,aG,aY,isN,dz,cO,aH,bK,bH,bM,eqX,eqS,q]⟩
   | false =>
    rcases h1 with rfl | ⟨z1,rfl⟩
    · exact ⟨e_,fun s=>by simp [al,bu,aD,av,sq,aR,aA,bh,aS,bc,bV,bnd,bOr,cM,br,fB,toB,ag,am,ac,ah,ae,fC,f1,f2,ixD,atD,vOr,c0,fw,fIf,cx,bJ,fB1,fM,aG,aY,isN,dz,cO,aH,bK,bH,bM,eqX,eqS,q,e1,e2]⟩
    · rcases h2 with rfl | ⟨z2,rfl⟩
      · exact ⟨e_,fun s=>by simp [al,bu,aD,av,sq,aR,aA,bh,aS,bc,bV,bnd,bOr,cM,br,fB,toB,ag,am,ac,ah,ae,fC,f1,f2,ixD,atD,vOr,c0,fw,fIf,cx,bJ,fB1,fM,aG,aY,isN,dz,cO,aH,bK,bH,bM,eqX,eqS,q,e1,e2]⟩
      · exact ⟨seq z1 z2,fun s=>by simp [al,bu,aD,av,sq,aR,aA,bh,aS,bc,bV,bnd,bOr,cM,br,fB,toB,ag,am,ac,ah,ae,fC,f1,f2,ixD,atD,vOr,c0,fw,fIf,cx,bJ,fB1,fM,aG,aY,isN,dz,cO,aH,bK,bH,bM,eqX,eqS,q,e1,e2]⟩
theorem gQ {l:List Dv} {d:Int} (h0:0≤d) (h1:d < l.length):∃ x∈l,ixD (.lst l) (.int d)=a_ (.ok x):=by
 have h2:d.toNat < l.length:=by omega
 refine ⟨l[d.toNat],OA h2,?_⟩;show (match atD l d with | some d=>_ | none=>_)=_
 unfold atD;rw [if_pos h0,B_ h2]
structure Gv (nm w:Str) (H P u l:Dv) (S:Bool) (R:Str):Prop where
 nm:nm∈nms
 w:w∈wts
 hh:H=.non∨∃ n∈En,H=.str n
 pp:P=.non∨∃ p∈pths,P=.str p
 u:u=.non∨∃ i:Int,0≤i∧i < 60∧u=.int i
 l:l=.non∨∃ i:Int,0≤i∧i < 30∧l=.int i
 r:R=b_ "any"∨R=b_ "near"
abbrev gvn (nm w:Str) (H P u l:Dv) (S:Bool) (R:Str):Dv:=.tup [.str nm,.str w,H,P,u,l,.bl S,.str R]
def BD:Option (Rs Dv)→Bool
 | some (.ok (.str z))=>En.any fun q=>seq q z
 | _=>e_
theorem vm {o:Option (Rs Dv)} (h:BD o=d_):∃ n∈En,o=a_ (.ok (.str n)):=by
 unfold BD at h;split at h
 · rename_i z;obtain ⟨y,hy,ey⟩:=MY.mp h;have e:=eC ey;subst e;exact ⟨y,hy,rfl⟩
 · cases h
def xE:FnE:=(f2 ixD (fM (gK) (ae 2) (ac (fC (.str ".")) ah)) (f1 yc (fC (.int 1))))
def xF:FnE:=(fIf (fB (f2 inD (fC (.str ".")) (ae 2))) (rS (ae 2) (cG (f2 df (fM DC (ae 2) (ac (fC (.str ".")) ah)) (fC (.int 1)))) dv) (ae 2))
theorem xG:(menu.all fun h=>BD (xE [ck,ck,a_ (.str h)]))=d_:=by kernel_rfl
theorem xH:(menu.all fun h=>BD (xF [ck,ck,a_ (.str h)]))=d_:=by kernel_rfl
theorem EW {h:Str} (q:h∈menu) {a b:Option Dv} {r:Ev}:∃ n∈En,xE (a :: b :: a_ (.str h) :: r)=a_ (.ok (.str n)):=vm (aP (p:=fun h=>BD (xE [ck,ck,a_ (.str h)])) xG q)
theorem EY {h:Str} (q:h∈menu) {a b:Option Dv} {r:Ev}:∃ n∈En,xF (a :: b :: a_ (.str h) :: r)=a_ (.ok (.str n)):=vm (aP (p:=fun h=>BD (xF [ck,ck,a_ (.str h)])) xH q)
theorem qE (ns:List Int) (hl:ns.length≤63) (z:Int) {h:Str} (hh:h∈menu):∃ nm w H P u l S R,Gv nm w H P u l S R∧du [.scr ns,.int z,.str h]=a_ (.ok (gvn nm w H P u l S R)):=by
 obtain ⟨d0,a0,b0,e0⟩:=aX ns hl z 7 (by omega);obtain ⟨d1,a1,b1,e1⟩:=aX ns hl (z + 1) 5 (by omega);obtain ⟨d2,a2,b2,e2⟩:=aX ns hl (z + 2) 6 (by omega);obtain ⟨d4,a4,b4,e4⟩:=aX ns hl (z + 4) 3 (by omega);obtain ⟨d6,a6,b6,e6⟩:=aX ns hl (z + 6) 3 (by omega);obtain ⟨d7,a7,b7,e7⟩:=aX ns hl (z + 7) 60 (by omega);obtain ⟨d8,a8,b8,e8⟩:=aX ns hl (z + 8) 3 (by omega);obtain ⟨d9,a9,b9,e9⟩:=aX ns hl (z + 9) 30 (by omega);obtain ⟨d10,a10,b10,e10⟩:=aX ns hl (z + 10) 2 (by omega);obtain ⟨d11,a11,b11,e11⟩:=aX ns hl (z + 11) 2 (by omega);obtain ⟨n3,hn3,e3⟩:=my ns hl (z + 3);obtain ⟨p5,hp5,e5⟩:=pM ns hl (z + 5);obtain ⟨x0,m0,i0⟩:=gQ (l:=[.str "n",.str "safe-a",.str "own-b",.str "N_2",.str "m-1",.str "safe-",.str "n"]) a0 b0;obtain ⟨x1,m1,i1⟩:=gQ (l:=[.str "5",.str "",.str "a!b~",.str "x/y?z",.str "123456789012"]) a1 b1;obtain ⟨L,hL,eL⟩:=EW hh (a:=a_ (.scr ns)) (b:=a_ (.int z)) (r:=[a_ x0,a_ x1,ck,ck,ck,ck,ck,ck]);obtain ⟨TL,hT,eT⟩:=EY hh (a:=a_ (.scr ns)) (b:=a_ (.int z)) (r:=[a_ x0,a_ x1,ck,ck,ck,ck,ck,ck]);obtain ⟨x2,m2,i2⟩:=gQ (l:=[.non,.non,.str h,.str L,.str n3,.str TL]) a2 b2;obtain ⟨x4,m4,i4⟩:=gQ (l:=[.non,.str "/",.str p5]) a4 b4;obtain ⟨x6,m6,i6⟩:=gQ (l:=[.non,.non,.int d7]) a6 b6;obtain ⟨x8,m8,i8⟩:=gQ (l:=[.non,.non,.int d9]) a8 b8;obtain ⟨x11,m11,i11⟩:=gQ (l:=[.str "any",.str "near"]) a11 b11;have g0:∃ nm∈nms,x0=.str nm:=by
  simp only [s_,I_,or_false] at m0;rcases m0 with rfl | rfl | rfl | rfl | rfl | rfl | rfl <;> exact ⟨_,by simp [nms],rfl⟩
 have g1:∃ nm∈wts,x1=.str nm:=by
  simp only [s_,I_,or_false] at m1;rcases m1 with rfl | rfl | rfl | rfl | rfl <;> exact ⟨_,by simp [wts],rfl⟩
 have g2:x2=.non∨∃ n∈En,x2=.str n:=by
  simp only [s_,I_,or_false] at m2;rcases m2 with rfl | rfl | rfl | rfl | rfl | rfl
  · exact .inl rfl
  · exact .inl rfl
  · exact .inr ⟨_,me hh,rfl⟩
  · exact .inr ⟨_,hL,rfl⟩
  · exact .inr ⟨_,me hn3,rfl⟩
  · exact .inr ⟨_,hT,rfl⟩
 have g4:x4=.non∨∃ n∈pths,x4=.str n:=by
  simp only [s_,I_,or_false] at m4;rcases m4 with rfl | rfl | rfl
  · exact .inl rfl
  · exact .inr ⟨_,by simp [pths],rfl⟩
  · exact .inr ⟨_,hp5,rfl⟩
 have g6:x6=.non∨∃ i:Int,0≤i∧i < 60∧x6=.int i:=by
  simp only [s_,I_,or_false] at m6;rcases m6 with rfl | rfl | rfl
  · exact .inl rfl
  · exact .inl rfl
  · exact .inr ⟨_,a7,b7,rfl⟩
 have g8:x8=.non∨∃ i:Int,0≤i∧i < 30∧x8=.int i:=by
  simp only [s_,I_,or_false] at m8;rcases m8 with rfl | rfl | rfl
  · exact .inl rfl
  · exact .inl rfl
  · exact .inr ⟨_,a9,b9,rfl⟩
 have g11:∃ R,(R=b_ "any"∨R=b_ "near")∧x11=.str R:=by
  simp only [s_,I_,or_false] at m11;rcases m11 with rfl | rfl
  · exact ⟨_,.inl rfl,rfl⟩
  · exact ⟨_,.inr rfl,rfl⟩
 obtain ⟨nm,hnm,rfl⟩:=g0;obtain ⟨w,hw,rfl⟩:=g1;obtain ⟨R,hR,rfl⟩:=g11;refine ⟨nm,w,x2,x4,x6,x8,d10 == 0,R,⟨hnm,hw,g2,g4,g6,g8,hR⟩,?_⟩;have eB:fG=(av (bc 3 (f2 ixD (bJ (ac (fC (.str "n")) (ac (fC (.str "safe-a")) (ac (fC (.str "own-b")) (ac (fC (.str "N_2")) (ac (fC (.str "m-1")) (ac (fC (.str "safe-")) (ac (fC (.str "n")) ah)))))))) (ag ai 3 (ac (ae 0) (ac (ae 1) (ac (fC (.int 7)) ah)))))) (av (bc 4 (f2 ixD (bJ (ac (fC (.str "5")) (ac (fC (.str "")) (ac (fC (.str "a!b~")) (ac (fC (.str "x/y?z")) (ac (fC (.str "123456789012")) ah)))))) (ag ai 3 (ac (ae 0) (ac (f2 df (ae 1) (fC (.int 1))) (ac (fC (.int 5)) ah)))))) (p9 5 (ac (fC .non) (ac (fC .non) (ac (ae 2) (ac xE (ac (ag ba 2 (ac (ae 0) (ac (f2 df (ae 1) (fC (.int 3))) ah))) ah))))) (eE (rT xF) (eE (fz 6 (f2 ixD (bJ (ac (fC .non) (ac (fC (.str "/")) (ac (ag cD 2 (ac (ae 0) (ac (f2 df (ae 1) (fC (.int 5))) ah))) ah)))) (ag ai 3 (ac (ae 0) (ac (f2 df (ae 1) (fC (.int 4))) (ac (fC (.int 3)) ah)))))) (eE (fz 7 (f2 ixD (bJ (ac (fC .non) (ac (fC .non) (ac (ag ai 3 (ac (ae 0) (ac (f2 df (ae 1) (fC (.int 7))) (ac (fC (.int 60)) ah)))) ah)))) (ag ai 3 (ac (ae 0) (ac (f2 df (ae 1) (fC (.int 6))) (ac (fC (.int 3)) ah)))))) (eE (fz 8 (f2 ixD (bJ (ac (fC .non) (ac (fC .non) (ac (ag ai 3 (ac (ae 0) (ac (f2 df (ae 1) (fC (.int 9))) (ac (fC (.int 30)) ah)))) ah)))) (ag ai 3 (ac (ae 0) (ac (f2 df (ae 1) (fC (.int 8))) (ac (fC (.int 3)) ah)))))) (eE (fz 9 (f2 ixD (bJ (ac (fC (.str "any")) (ac (fC (.str "near")) ah))) (ag ai 3 (ac (ae 0) (ac (f2 df (ae 1) (fC (.int 11))) (ac (fC (.int 2)) ah)))))) (eE (fz 10 (f2 eqX (ag ai 3 (ac (ae 0) (ac (f2 df (ae 1) (fC (.int 10))) (ac (fC (.int 2)) ah)))) (fC (.int 0)))) (tW 5 (cx (ac (ae 3) (ac (ae 4) (ac (f2 ixD (ae 5) (ag ai 3 (ac (ae 0) (ac (f2 df (ae 1) (fC (.int 2))) (ac (fC (.int 6)) ah))))) (ac (ae 6) (ac (ae 7) (ac (ae 8) (ac (ae 10) (ac (ae 9) ah))))))))))))))))))):=rfl;unfold du bu;rw [eB];simp [av,sq,aA,bc,bV,bnd,ag,ac,ah,ae,fC,f2,cx,bJ,p9,eE,rT,fz,tW,p8,df,e0,e1,e2,e3,e4,e5,e6,e7,e8,e9,e10,e11,i0,i1,i2,i4,i6,i8,i11,eL,eT,eqX,eqS]
section
variable {nm w:Str} {H P u l:Dv} {S:Bool} {R:Str} {t:List Dv} {h p:Str} {O:Dv}
theorem mB (h:R=b_ "any"∨R=b_ "near"):eQ [.str R]=bo d_∧∃ r,eqX (.str R) (.str "near")=bo (!r):=by
 rcases h with rfl | rfl
 · exact ⟨by kernel_rfl,d_,by kernel_rfl⟩
 · exact ⟨by kernel_rfl,e_,by kernel_rfl⟩
theorem Gv.mu (g:Gv nm w H P u l S R):Mo u:=by
 rcases g.u with h | ⟨i,h0,h1,h2⟩
 · exact .inl h
 · exact .inr ⟨i,h0,by omega,h2⟩
theorem Gv.ml (g:Gv nm w H P u l S R):Mo l:=by
 rcases g.l with h | ⟨i,h0,h1,h2⟩
 · exact .inl h
 · exact .inr ⟨i,h0,by omega,h2⟩
theorem xI (x:Str) {k:Bool} (e1:aF [.str x]=bo k) (g:Gv nm w H P u l S R):bR [gvn x w H P u l S R]=bo k:=by
 have e0:ce [gvn x w H P u l S R,.int 8]=bo d_:=by kernel_rfl
 have e2:=Iy g.w;have e3:=qD g.mu;have e4:=qD g.ml;have e5:=(mB g.r).1;cases k
 · rcases g.hh with rfl | ⟨n,hn,rfl⟩
   · rcases g.pp with rfl | ⟨q,hq,rfl⟩
     · simp [bR,bu,cq,av,sq,aR,aA,bh,bV,bnd,br,fB,toB,ag,ac,ah,ae,fC,f1,f2,ixD,atD,vOr,bJ,fB1,isN,cO,aH,e0,e1,e2,e3,e4,e5,iW,eI]
     · simp [bR,bu,cq,av,sq,aR,aA,bh,aS,bc,bV,bnd,bOr,cM,br,fB,toB,ag,am,ac,ah,ae,fC,f1,f2,ixD,atD,vOr,c0,fw,fIf,cx,bJ,fB1,fM,aG,aY,isN,dz,cO,aH,bK,bH,bM,e0,e1,e2,e3,e4,e5,vP hq,iW,eI]
   · rcases g.pp with rfl | ⟨q,hq,rfl⟩
     · simp [bR,bu,cq,av,sq,aR,aA,bh,aS,bc,bV,bnd,bOr,cM,br,fB,toB,ag,am,ac,ah,ae,fC,f1,f2,ixD,atD,vOr,c0,fw,fIf,cx,bJ,fB1,fM,aG,aY,isN,dz,cO,aH,bK,bH,bM,e0,e1,e2,e3,e4,e5,vO hn,iW,eI]
     · simp [bR,bu,cq,av,sq,aR,aA,bh,aS,bc,bV,bnd,bOr,cM,br,fB,toB,ag,am,ac,ah,ae,fC,f1,f2,ixD,atD,vOr,c0,fw,fIf,cx,bJ,fB1,fM,aG,aY,isN,dz,cO,aH,bK,bH,bM,e0,e1,e2,e3,e4,e5,vO hn,vP hq,iW,eI]
 · rcases g.hh with rfl | ⟨n,hn,rfl⟩
   · rcases g.pp with rfl | ⟨q,hq,rfl⟩
     · simp [bR,bu,cq,av,sq,aR,aA,bh,aS,bc,bV,bnd,bOr,cM,br,fB,toB,ag,am,ac,ah,ae,fC,f1,f2,ixD,atD,vOr,c0,fw,fIf,cx,bJ,fB1,fM,aG,aY,isN,dz,cO,aH,bK,bH,bM,e0,e1,e2,e3,e4,e5,iW,eI]
     · simp [bR,bu,cq,av,sq,aR,aA,bh,aS,bc,bV,bnd,bOr,cM,br,fB,toB,ag,am,ac,ah,ae,fC,f1,f2,ixD,atD,vOr,c0,fw,fIf,cx,bJ,fB1,fM,aG,aY,isN,dz,cO,aH,bK,bH,bM,e0,e1,e2,e3,e4,e5,vP hq,iW,eI]
   · rcases g.pp with rfl | ⟨q,hq,rfl⟩
     · simp [bR,bu,cq,av,sq,aR,aA,bh,aS,bc,bV,bnd,bOr,cM,br,fB,toB,ag,am,ac,ah,ae,fC,f1,f2,ixD,atD,vOr,c0,fw,fIf,cx,bJ,fB1,fM,aG,aY,isN,dz,cO,aH,bK,bH,bM,e0,e1,e2,e3,e4,e5,vO hn,iW,eI]
     · simp [bR,bu,cq,av,sq,aR,aA,bh,aS,bc,bV,bnd,bOr,cM,br,fB,toB,ag,am,ac,ah,ae,fC,f1,f2,ixD,atD,vOr,c0,fw,fIf,cx,bJ,fB1,fM,aG,aY,isN,dz,cO,aH,bK,bH,bM,e0,e1,e2,e3,e4,e5,vO hn,vP hq,iW,eI]
theorem vn (g:Gv nm w H P u l S R):bR [gvn nm w H P u l S R]=bo d_:=xI nm (Ix g.nm) g
def word (fo op un mk fr:Bool):Dv:=if fo then .str "foreign" else if op then .str "open" else if un then .str "unsafe" else if mk then .str "marked" else if fr then .str "far" else .non
theorem word_of (ht:t∈iQ rules) (a:Ak h p O) (g:Gv nm w H P u l S R) {fo op km nr r:Bool} {s:Bool}
 (hK:bG [.tup t,akn s h p O,gvn nm w H P u l S R]=bo km)
 (hN:al [.tup t,akn s h p O]=bo nr) (hr:eqX (.str R) (.str "near")=bo (!r))
 (hH:(H=.non∧fo=e_∧op=e_)∨∃ n q k,H=.str n∧aw [.str h,.str n]=bo (!fo)∧neX (.str n) (.str h)=bo q∧fZ [.tup t,.str n]=bo k∧op=(q && k)) :
 aL [.tup t,akn s h p O,gvn nm w H P u l S R]=a_ (.ok (word fo op (S && !s) (!km) (!r && !nr))):=by
 have e1:=Gk (il ht);have e3:=Jy (vn g);have e2:=Gm (xD (s:=s) a);rcases hH with ⟨rfl,rfl,rfl⟩ | ⟨n,q,k,rfl,h1,h2,h3,rfl⟩
 · cases km <;> cases r <;> cases nr <;> cases S <;> cases s <;> simp [aL,eV,bO,av,sq,aR,aA,bh,aS,bc,bV,bnd,cM,br,fB,toB,ag,am,ac,ah,ae,fC,f2,ixD,atD,dz,e1,e2,e3,hK,hN,hr,word]
 · cases fo with
   | true=>simp [aL,eV,bO,av,sq,aR,aA,bh,aS,bc,bV,bnd,bOr,cM,br,fB,toB,ag,am,ac,ah,ae,fC,f1,f2,ixD,atD,vOr,c0,fw,fIf,cx,bJ,fB1,fM,aG,aY,isN,dz,cO,aH,bK,bH,bM,e1,e2,e3,hK,hN,hr,word,h1,h2,h3]
   | false =>
    have h4:q=d_∧k=d_∨(q && k)=e_∧(q=e_∨k=e_):=by cases q <;> cases k <;> simp
    rcases h4 with ⟨rfl,rfl⟩ | ⟨h5,h6⟩
    · simp [aL,eV,bO,av,sq,aR,aA,bh,aS,bc,bV,bnd,bOr,cM,br,fB,toB,ag,am,ac,ah,ae,fC,f1,f2,ixD,atD,vOr,c0,fw,fIf,cx,bJ,fB1,fM,aG,aY,isN,dz,cO,aH,bK,bH,bM,e1,e2,e3,hK,hN,hr,word,h1,h2,h3]
    · rw [h5];have h6:q=e_∨(q=d_∧k=e_):=by cases q <;> simp at h6 ⊢; exact h6
      rcases h6 with rfl | ⟨rfl,rfl⟩
      · cases km <;> cases r <;> cases nr <;> cases S <;> cases s <;> simp [aL,eV,bO,av,sq,aR,aA,bh,aS,bc,bV,bnd,bOr,cM,br,fB,toB,ag,am,ac,ah,ae,fC,f1,f2,ixD,atD,vOr,c0,fw,fIf,cx,bJ,fB1,fM,aG,aY,isN,dz,cO,aH,bK,bH,bM,e1,e2,e3,hK,hN,hr,word,h1,h2,h3]
      · cases km <;> cases r <;> cases nr <;> cases S <;> cases s <;> simp [aL,eV,bO,av,sq,aR,aA,bh,aS,bc,bV,bnd,bOr,cM,br,fB,toB,ag,am,ac,ah,ae,fC,f1,f2,ixD,atD,vOr,c0,fw,fIf,cx,bJ,fB1,fM,aG,aY,isN,dz,cO,aH,bK,bH,bM,e1,e2,e3,hK,hN,hr,word,h1,h2,h3]
def Go (q1 q2 S ex pe:Bool):Bool:=(q1 && !S) || (q2 && !(S && (ex && pe)))
theorem vo {pe ex:Bool} {s:Bool} (hnm:nm∈nms) (hP:eqX P (.str "/")=bo pe) (hW:cU [.tup t,akn s h p O,gvn nm w H P u l S R]=bo ex):bG [.tup t,akn s h p O,gvn nm w H P u l S R]=bo (!Go (K1 nm (b_ "safe-")) (K1 nm (b_ "own-")) S ex pe):=by
 have hm:=Ks hnm;cases q1:K1 nm (b_ "safe-") with
 | true =>
  rw [q1] at hm;have q2:K1 nm (b_ "own-")=e_:=by simpa using hm
  rw [q2];cases S <;> simp [bG,bu,bY,av,sq,aR,aA,bh,bc,bV,bnd,fB,toB,ag,ac,ah,ae,fC,f2,ixD,atD,c0,fM,mU,q1,Go]
 | false =>
  cases q2:K1 nm (b_ "own-") with
  | true =>
   cases S <;> cases ex <;> cases pe <;> simp [bG,bu,bY,av,sq,aR,aA,bh,aS,bc,bV,bnd,bOr,cM,br,fB,toB,ag,am,ac,ah,ae,fC,f1,f2,ixD,atD,vOr,c0,fw,fIf,cx,bJ,fB1,fM,aG,aY,isN,dz,cO,aH,bK,bH,bM,mU,q1,q2,hW,hP,Go]
  | false=>simp [bG,bu,bY,av,sq,aR,aA,bh,aS,bc,bV,bnd,bOr,cM,br,fB,toB,ag,am,ac,ah,ae,fC,f1,f2,ixD,atD,vOr,c0,fw,fIf,cx,bJ,fB1,fM,aG,aY,isN,dz,cO,aH,bK,bH,bM,mU,q1,q2,Go]
structure Wt (t:List Dv) (h p:Str) (O:Dv) (nm w:Str) (H P u l:Dv) (S:Bool) (R:Str) (s:Bool) (house path:Str) (ex:Bool) (wd:Dv):Prop where
 hs:house∈En
 ph:path∈pths
 win:wd=.non∨∃ x∈["foreign","open","unsafe","marked","far"],wd=.str (b_ x)
 why:aL [.tup t,akn s h p O,gvn nm w H P u l S R]=a_ (.ok wd)
 hf:fg [akn s h p O,gvn nm w H P u l S R]=a_ (.ok (.str house))
 hl:(H=.non∧house=h)∨H=.str house
 ix:cU [.tup t,akn s h p O,gvn nm w H P u l S R]=bo ex
 pf:dZ [akn s h p O,gvn nm w H P u l S R]=a_ (.ok (.str path))
 nf:wd=.non→aw [.str h,.str house]=bo d_∧(ex=d_→h=house)∧(S && !s)=e_∧(eqX (.str R) (.str "near")=bo d_→al [.tup t,akn s h p O]=bo d_)
theorem vp (fo op un mk fr:Bool):word fo op un mk fr=.non∨∃ x∈["foreign","open","unsafe","marked","far"],word fo op un mk fr=.str (b_ x):=by
 cases fo <;> cases op <;> cases un <;> cases mk <;> cases fr <;> first | exact .inl rfl | exact .inr ⟨"foreign",by simp,rfl⟩ | exact .inr ⟨"open",by simp,rfl⟩ | exact .inr ⟨"unsafe",by simp,rfl⟩ | exact .inr ⟨"marked",by simp,rfl⟩ | exact .inr ⟨"far",by simp,rfl⟩
theorem jv {fo op un mk fr:Bool} (h:word fo op un mk fr=.non):fo=e_∧un=e_∧fr=e_:=by
 cases fo <;> cases op <;> cases un <;> cases mk <;> cases fr <;> first | exact ⟨rfl,rfl,rfl⟩ | cases h
theorem AQ:(En.all fun h=>okY (aw [.str h,.str h]))=d_:=by kernel_rfl
theorem vq {t:List Dv} {s:Bool} {h p R:Str} {O:Dv} {r nr:Bool} (hr:eqX (.str R) (.str "near")=bo (!r)) (hN:al [.tup t,akn s h p O]=bo nr) (hf:(!r && !nr)=e_):eqX (.str R) (.str "near")=bo d_→al [.tup t,akn s h p O]=bo d_:=fun e=>by
 rw [hr] at e;have e1:(!r)=d_:=by simpa using e
 rw [e1] at hf;rw [hN];cases nr
 · cases hf
 · rfl
theorem Iz (ht:t∈iQ rules) (a:Ak h p O) (g:Gv nm w H P u l S R) (s:Bool):∃ house path ex wd,Wt t h p O nm w H P u l S R s house path ex wd:=by
 obtain ⟨nr,hN⟩:=EV ht a;obtain ⟨_,r,r2⟩:=mB g.r;have hP:∃ pe,eqX P (.str "/")=bo pe:=by
  rcases g.pp with rfl | ⟨q,_,rfl⟩
  · exact ⟨e_,rfl⟩
  · exact ⟨_,rfl⟩
 obtain ⟨pe,hP⟩:=hP;have hpath:∃ path∈pths,dZ [akn s h p O,gvn nm w H P u l S R]=a_ (.ok (.str path)):=by
  rcases g.pp with rfl | ⟨q,hq,rfl⟩
  · obtain ⟨f,hf,k2⟩:=Kt a.p;exact ⟨f,hf,by simp [dZ,eV,fk,av,sq,aR,aA,bh,bV,bnd,fB,toB,am,ac,ah,ae,fC,f2,ixD,atD,isN,k2]⟩
  · exact ⟨q,hq,by simp [dZ,eV,fk,av,sq,aR,aA,bh,aS,bc,bV,bnd,bOr,cM,br,fB,toB,ag,am,ac,ah,ae,fC,f1,f2,ixD,atD,vOr,c0,fw,fIf,cx,bJ,fB1,fM,aG,aY,isN,dz,cO,aH,bK,bH,bM]⟩
 obtain ⟨path,hpm,hpf⟩:=hpath;rcases g.hh with rfl | ⟨n,hn,rfl⟩
 · have hW:cU [.tup t,akn s h p O,gvn nm w .non P u l S R]=bo d_:=by simp [cU,bu,gf,av,sq,aR,aA,bh,aS,bc,bV,bnd,bOr,cM,br,fB,toB,ag,am,ac,ah,ae,fC,f1,f2,ixD,atD,vOr,c0,fw,fIf,cx,bJ,fB1,fM,aG,aY,isN,dz,cO,aH,bK,bH,bM]
   have k1:=word_of (fo:=e_) (op:=e_) ht a g (vo g.nm hP hW) (hN s) r2 (.inl ⟨rfl,rfl,rfl⟩);rw [RX] at k1;exact ⟨h,path,d_,_,a.h,hpm,vp _ _ _ _ _,k1,by simp [fg,bu,eZ,av,sq,aR,aA,bh,aS,bc,bV,bnd,bOr,cM,br,fB,toB,ag,am,ac,ah,ae,fC,f1,f2,ixD,atD,vOr,c0,fw,fIf,cx,bJ,fB1,fM,aG,aY,isN,dz,cO,aH,bK,bH,bM],.inl ⟨rfl,rfl⟩,hW,hpf,fun hn=>⟨gm (aP (p:=fun h=>okY (aw [.str h,.str h])) AQ a.h),fun _=>rfl,(jv hn).2.1,vq r2 (hN s) (jv hn).2.2⟩⟩
 · obtain ⟨m,o,hm,_,_⟩:=vf ht hn;obtain ⟨wi,hwi⟩:=Jx (a.h) hn;have hop:fZ [.tup t,.str n]=bo (seq m n):=by simp [fZ,bu,ji,av,sq,aR,aA,bh,aS,bc,bV,bnd,bOr,cM,br,fB,toB,ag,am,ac,ah,ae,fC,f1,f2,ixD,atD,vOr,c0,fw,fIf,cx,bJ,fB1,fM,aG,aY,isN,dz,cO,aH,bK,bH,bM,hm,eqX,eqS]
   have hW:cU [.tup t,akn s h p O,gvn nm w (.str n) P u l S R]=bo (seq n h && seq m n):=by
    simp [cU,bu,gf,av,sq,aR,aA,bh,aS,bc,bV,bnd,bOr,cM,br,fB,toB,ag,am,ac,ah,ae,fC,f1,f2,ixD,atD,vOr,c0,fw,fIf,cx,bJ,fB1,fM,aG,aY,isN,dz,cO,aH,bK,bH,bM,hop,eqX,eqS];cases seq n h <;> simp [av,sq,aR,aA,bh,aS,bc,bV,bnd,bOr,cM,br,fB,toB,ag,am,ac,ah,ae,fC,f1,f2,ixD,atD,vOr,c0,fw,fIf,cx,bJ,fB1,fM,aG,aY,isN,dz,cO,aH,bK,bH,bM]
   have k1:=word_of (fo:=!wi) (op:=!seq n h && seq m n) ht a g (vo g.nm hP hW) (hN s) r2 (.inr ⟨n,!seq n h,seq m n,rfl,by rw [hwi,RX],by simp [neX,eqS],hop,rfl⟩);rw [RX] at k1;exact ⟨n,path,_,_,hn,hpm,vp _ _ _ _ _,k1,by simp [fg,bu,eZ,av,sq,aR,aA,bh,aS,bc,bV,bnd,bOr,cM,br,fB,toB,ag,am,ac,ah,ae,fC,f1,f2,ixD,atD,vOr,c0,fw,fIf,cx,bJ,fB1,fM,aG,aY,isN,dz,cO,aH,bK,bH,bM],.inr rfl,hW,hpf,fun hz=>⟨(by rw [hwi]; have:=(jv hz).1; cases wi <;> first | rfl | cases this),fun hx=>(eC (Lg.mp hx).1).symm,(jv hz).2.1,vq r2 (hN s) (jv hz).2.2⟩⟩
end
theorem fN (a b:Str):(a ++ b).length=a.length + b.length:=Os
theorem mC (a b c:Str):a ++ b ++ c=a ++ (b ++ c):=by
 show Str.mk (a.cps ++ b.cps ++ c.cps)=Str.mk (a.cps ++ (b.cps ++ c.cps));rw [Po]
theorem EZ (a:Str):a ++ b_ ""=a:=by
 show Str.mk (a.cps ++ #[])=a;rw [Array.append_empty]
def step (t:Str) (o:Option Str):Str:=match o with
 | none=>t
 | some y=>t ++ b_ "; " ++ y
theorem jw (t:Str) (o:Option Str) (B:Nat) (h:∀ y,o=a_ y→y.length≤B):(step t o).length≤t.length + 2 + B:=by
 cases o with
 | none=>show t.length≤_; omega
 | some y =>
  have:=h y rfl;show (t ++ b_ "; " ++ y).length≤_;rw [fN,fN];have e:(b_ "; ").length=2:=by decide
  omega
theorem kW (sep:Str):∀ (l:List Str) (x:Str),Nx sep (x :: l)=l.foldl (fun t y=>t ++ sep ++ y) x
 | [],x=>rfl
 | y :: l,x=>kW sep l (x ++ sep ++ y)
theorem iw (t:Str) (o:Option Str) (l:List Str):(o.toList ++ l).foldl (fun t y=>t ++ b_ "; " ++ y) t=l.foldl (fun t y=>t ++ b_ "; " ++ y) (step t o):=by
 cases o <;> rfl
def eS:Option Str→Dv
 | none=>.non
 | some x=>.str x
def eO:Option Int→Dv
 | none=>.non
 | some x=>.int x
def is (i:Int):Str:=b_ (SF i)
theorem qF {i:Int} (h0:0≤i) (h1:i≤9999):(is i).length≤10001:=by
 have:=PyProof.Rows.len_str_of_int i;unfold is;omega
theorem Fa {i:Int} (h0:0≤i) (h1:i≤9999):yw [.int i]=a_ (.ok (.str (is i))):=by
 show (if i.natAbs.log2 < 1920 then _ else ck)=_;rw [if_pos]
 · rfl
 · have e:i.natAbs < 2 ^ 1920:=J_ (show i.natAbs < 2 ^ 14 by omega) (Nat.pow_le_pow_right (by decide) (by decide));by_cases z:i.natAbs=0
   · rw [z]; decide
   · exact (Nat.log2_lt z).mpr e
structure Vv (nm w:Str) (h p:Option Str) (u l:Option Int) (R:Str):Prop where
 nm:nm.length≤50
 w:w.length≤50
 h:∀ x,h=a_ x→x.length≤50
 p:∀ x,p=a_ x→x.length≤50
 u:∀ i,u=a_ i→0≤i∧i≤9999
 l:∀ i,l=a_ i→0≤i∧i≤9999
abbrev gv (nm w:Str) (h p:Option Str) (u l:Option Int) (S:Bool) (R:Str):Dv:=.tup [.str nm,.str w,eS h,eS p,eO u,eO l,.bl S,.str R]
def oS (pre:String) (h:Option Str):Option Str:=h.map fun x=>b_ pre ++ x
def oI (pre:String) (h:Option Int):Option Str:=h.map fun x=>b_ pre ++ is x
def oB (x:String) (b:Bool):Option Str:=if b then a_ (b_ x) else ck
def Tz0 (nm w:Str):Str:=nm ++ b_ "=" ++ w
def jS (R:Str):Bool:=seq R (b_ "near")
def T (nm w:Str) (h p:Option Str) (u l:Option Int) (S:Bool) (R:Str):Str:=step (step (step (step (step (step (Tz0 nm w) (oS "for " h)) (oS "under " p)) (oI "until " u)) (oI "lasts " l)) (oB "safe" S)) (oB "near" (jS R))
theorem IA {x y:Str} (h:x.length + y.length≤100000):df (.str x) (.str y)=a_ (.ok (.str (x ++ y))):=by
 show (if x.length + y.length≤100000 then _ else ck)=_;rw [if_pos h]
theorem jX {x y:Str} (h:x.length + y.length≤100000):ci (.str x) (.str y)=a_ (.ok (.str (x ++ y))):=IA h
theorem lz (o:Option Str):o.toList.length≤1:=by cases o <;> simp
section
variable {nm w:Str} {h p:Option Str} {u l:Option Int} {S:Bool} {R:Str}
theorem Jz {pre:String} (hp:(b_ pre).length≤10) (hh:∀ x,h=a_ x→x.length≤50):∀ y,oS pre h=a_ y→y.length≤60:=by
 intro y hy;cases h with
 | none=>cases hy
 | some x=>cases hy; rw [fN]; have:=hh x rfl; omega
theorem JA {pre:String} (hp:(b_ pre).length≤10) (hh:∀ x,u=a_ x→0≤x∧x≤9999):∀ y,oI pre u=a_ y→y.length≤10020:=by
 intro y hy;cases u with
 | none=>cases hy
 | some x=>cases hy; rw [fN]; have:=qF (hh x rfl).1 (hh x rfl).2; omega
theorem Ku {x:String} {b:Bool} (hp:(b_ x).length≤10):∀ y,oB x b=a_ y→y.length≤60:=by
 intro y hy;cases b with
 | false=>cases hy
 | true=>cases hy; omega
end
theorem xJ {f:FnE} {ρ:Ev} {d:Dv} (h:f ρ=a_ (.ok d)):aA f ρ=a_ (.rt d):=by unfold aA; rw [h]; rfl
section
variable {nm w:Str} {h p:Option Str} {u l:Option Int} {S:Bool} {R:Str}
def EL (nm w:Str) (h p:Option Str) (u l:Option Int) (S:Bool) (R:Str) (t:Str) (a b:Option Dv):Ev:=[a_ (gv nm w h p u l S R),a_ (.str nm),a_ (.str w),a_ (eS h),a_ (eS p),a_ (eO u),a_ (eO l),a_ (.bl S),a_ (.str R),a_ (.str t),a,b]
theorem oj {t wd:Str} {a b:Option Dv} {ds:List Dv}:iz (gP 10 11) [11,10] aK (.tup [.str wd,.non] :: ds) (EL nm w h p u l S R t a b)=iz (gP 10 11) [11,10] aK ds (EL nm w h p u l S R t (a_ (.str wd)) (a_ .non)):=rfl
theorem lC {t wd y:Str} {d:Dv} {a b:Option Dv} {ds:List Dv} (hn:dz d .non=bo d_) (hs:By [d]=a_ (.ok (.str y))) (hl:t.length + 2 + wd.length + 1 + y.length≤100000) :
 iz (gP 10 11) [11,10] aK (.tup [.str wd,d] :: ds) (EL nm w h p u l S R t a b)=iz (gP 10 11) [11,10] aK ds (EL nm w h p u l S R (t ++ b_ "; " ++ wd ++ b_ " " ++ y) (a_ (.str wd)) (a_ d)):=by
 have e2:(b_ "; ").length=2:=by decide
 have e1:(b_ " ").length=1:=by decide
 have hb:aK (EL nm w h p u l S R t (a_ (.str wd)) (a_ d))=a_ (.nx (EL nm w h p u l S R (t ++ b_ "; " ++ wd ++ b_ " " ++ y) (a_ (.str wd)) (a_ d))):=by
  have c:fB (f2 dz (ae 11) (fC .non)) (EL nm w h p u l S R t (a_ (.str wd)) (a_ d))=a_ (.ok d_):=bU hn;have z:f2 ci (f2 ci (f2 ci (f2 ci (ae 9) (fC (.str "; "))) (ae 10)) (fC (.str " "))) (fB1 By (ac (ae 11) ah)) (EL nm w h p u l S R t (a_ (.str wd)) (a_ d))=a_ (.ok (.str (t ++ b_ "; " ++ wd ++ b_ " " ++ y))):=by
   refine (bf ((bf ((bf ((bf (x:=.str t) (y:=.str "; ") rfl rfl).trans (jX (by omega))) (y:=.str wd) rfl).trans (jX (by rw [fN]; omega))) (y:=.str " ") rfl).trans (jX (by rw [fN,fN]; omega))) ((dD (aj (x:=d) rfl aB)).trans hs)).trans ?_;exact jX (by rw [fN,fN,fN]; omega)
  unfold aK aR;rw [c];exact aW z rfl
 show (match aK (EL nm w h p u l S R t (a_ (.str wd)) (a_ d)) with
  | some (.nx ρ')=>iz (gP 10 11) [11,10] aK ds ρ'
  | o=>o)=_
 rw [hb]
theorem yG (t wd wd' y:Str) (hw:wd ++ b_ " "=wd'):t ++ b_ "; " ++ wd ++ b_ " " ++ y=t ++ b_ "; " ++ (wd' ++ y):=by
 rw [mC (t ++ b_ "; ") wd,hw,mC (t ++ b_ "; ") wd']
theorem Fb {t wd wd':Str} {o:Option Str} {a b:Option Dv} {ds:List Dv} (hw:wd ++ b_ " "=wd') (ho:∀ x,o=a_ x→x.length≤50) (hl:t.length≤80000) (hwl:wd.length≤10) :
 ∃ a' b',iz (gP 10 11) [11,10] aK (.tup [.str wd,eS o] :: ds) (EL nm w h p u l S R t a b)=iz (gP 10 11) [11,10] aK ds (EL nm w h p u l S R (step t (o.map fun x=>wd' ++ x)) a' b'):=by
 cases o with
 | none=>exact ⟨_,_,oj⟩
 | some x =>
  have:=ho x rfl;refine ⟨a_ (.str wd),a_ (.str x),(lC (d:=.str x) (y:=x) rfl rfl (by omega)).trans ?_⟩;rw [yG t wd wd' x hw]; rfl
theorem Fc {t wd wd':Str} {o:Option Int} {a b:Option Dv} {ds:List Dv} (hw:wd ++ b_ " "=wd') (ho:∀ x,o=a_ x→0≤x∧x≤9999) (hl:t.length≤80000) (hwl:wd.length≤10) :
 ∃ a' b',iz (gP 10 11) [11,10] aK (.tup [.str wd,eO o] :: ds) (EL nm w h p u l S R t a b)=iz (gP 10 11) [11,10] aK ds (EL nm w h p u l S R (step t (o.map fun x=>wd' ++ is x)) a' b'):=by
 cases o with
 | none=>exact ⟨_,_,oj⟩
 | some x =>
  have:=ho x rfl;have:=qF this.1 this.2;have e:By [.int x]=a_ (.ok (.str (is x))):=Fa (ho x rfl).1 (ho x rfl).2;refine ⟨a_ (.str wd),a_ (.int x),(lC (d:=.int x) (y:=is x) rfl e (by omega)).trans ?_⟩;rw [yG t wd wd' (is x) hw]; rfl
theorem AR (v:Vv nm w h p u l R):ei [gv nm w h p u l S R]=a_ (.ok (.str (T nm w h p u l S R))):=by
 have l1:=v.nm;have l2:=v.w;have lq:(b_ "=").length=1:=by decide
 have b0:(Tz0 nm w).length≤200:=by unfold Tz0; rw [fN,fN]; omega
 have b1:=jw (Tz0 nm w) (oS "for " h) 60 (Jz (by decide) v.h);have b2:=jw (step (Tz0 nm w) (oS "for " h)) (oS "under " p) 60 (Jz (by decide) v.p);have b3:=jw (step (step (Tz0 nm w) (oS "for " h)) (oS "under " p)) (oI "until " u) 10020 (JA (by decide) v.u);have b4:=jw (step (step (step (Tz0 nm w) (oS "for " h)) (oS "under " p)) (oI "until " u)) (oI "lasts " l) 10020 (JA (by decide) v.l);obtain ⟨a1,c1,e1⟩:=Fb (nm:=nm) (w:=w) (h:=h) (p:=p) (u:=u) (l:=l) (S:=S) (R:=R) (t:=Tz0 nm w) (wd:=b_ "for") (wd':=b_ "for ") (o:=h) (a:=ck) (b:=ck) (ds:=[.tup [.str "under",eS p],.tup [.str "until",eO u],.tup [.str "lasts",eO l]]) (by kernel_rfl) v.h (by omega) (by decide);obtain ⟨a2,c2,e2⟩:=Fb (nm:=nm) (w:=w) (h:=h) (p:=p) (u:=u) (l:=l) (S:=S) (R:=R) (t:=step (Tz0 nm w) (oS "for " h)) (wd:=b_ "under") (wd':=b_ "under ") (o:=p) (a:=a1) (b:=c1) (ds:=[.tup [.str "until",eO u],.tup [.str "lasts",eO l]]) (by kernel_rfl) v.p (by omega) (by decide);obtain ⟨a3,c3,e3⟩:=Fc (nm:=nm) (w:=w) (h:=h) (p:=p) (u:=u) (l:=l) (S:=S) (R:=R) (t:=step (step (Tz0 nm w) (oS "for " h)) (oS "under " p)) (wd:=b_ "until") (wd':=b_ "until ") (o:=u) (a:=a2) (b:=c2) (ds:=[.tup [.str "lasts",eO l]]) (by kernel_rfl) v.u (by omega) (by decide);obtain ⟨a4,c4,e4⟩:=Fc (nm:=nm) (w:=w) (h:=h) (p:=p) (u:=u) (l:=l) (S:=S) (R:=R) (t:=step (step (step (Tz0 nm w) (oS "for " h)) (oS "under " p)) (oI "until " u)) (wd:=b_ "lasts") (wd':=b_ "lasts ") (o:=l) (a:=a3) (b:=c3) (ds:=[]) (by kernel_rfl) v.l (by omega) (by decide)
 let t4:Str:=step (step (step (step (Tz0 nm w) (oS "for " h)) (oS "under " p)) (oI "until " u)) (oI "lasts " l)
 have t4l:t4.length≤90000:=by show (step (step (step (step (Tz0 nm w) (oS "for " h)) (oS "under " p)) (oI "until " u)) (oI "lasts " l)).length≤_; omega
 have hloop:iz (gP 10 11) [11,10] aK [.tup [.str "for",eS h],.tup [.str "under",eS p],.tup [.str "until",eO u],.tup [.str "lasts",eO l]] (EL nm w h p u l S R (Tz0 nm w) ck ck)=a_ (.nx (EL nm w h p u l S R t4 ck ck)) :=
  e1.trans (e2.trans (e3.trans (e4.trans rfl)))
 have hsrc:(fun ρ=>bnd ((ac (cx (ac (fC (.str "for")) (ac (fC (.str "under")) (ac (fC (.str "until")) (ac (fC (.str "lasts")) ah))))) (ac (eW (ae 0) (cG (fC (.int 2))) (cG (fC (.int 6)))) ah)) ρ) Bx) (EL nm w h p u l S R (Tz0 nm w) ck ck)=a_ (.ok [.tup [.str "for",eS h],.tup [.str "under",eS p],.tup [.str "until",eO u],.tup [.str "lasts",eO l]]):=by kernel_rfl
 have v9:f2 ci (f2 ci (ae 1) (fC (.str "="))) (ae 2) [a_ (gv nm w h p u l S R),a_ (.str nm),a_ (.str w),a_ (eS h),a_ (eS p),a_ (eO u),a_ (eO l),a_ (.bl S),a_ (.str R),ck,ck,ck]=a_ (.ok (.str (Tz0 nm w))) :=
  (bf ((bf (x:=.str nm) (y:=.str "=") rfl rfl).trans (jX (by omega))) (y:=.str w) rfl).trans (jX (by rw [fN]; omega))
 have f1:fIf (fB (ae 7)) (fC (.str "; safe")) (fC (.str "")) (EL nm w h p u l S R t4 ck ck)=a_ (.ok (.str (if S then b_ "; safe" else b_ ""))):=by cases S <;> rfl
 have g1:t4 ++ (if S then b_ "; safe" else b_ "")=step t4 (oB "safe" S):=by
  cases S
  · exact EZ t4
  · show t4 ++ b_ "; safe"=t4 ++ b_ "; " ++ b_ "safe";rw [mC];rfl
 have b5:=jw t4 (oB "safe" S) 60 (Ku (by decide));have z1:f2 ci (ae 9) (fIf (fB (ae 7)) (fC (.str "; safe")) (fC (.str ""))) (EL nm w h p u l S R t4 ck ck)=a_ (.ok (.str (step t4 (oB "safe" S)))):=by
  rw [← g1];refine (bf (x:=.str t4) rfl f1).trans (jX ?_);have:(if S then b_ "; safe" else b_ "").length≤10:=by cases S <;> decide
  omega
 have f2':fIf (fB (f2 eqX (ae 8) (fC (.str "near")))) (fC (.str "; near")) (fC (.str "")) (EL nm w h p u l S R t4 ck ck)=a_ (.ok (.str (if jS R then b_ "; near" else b_ ""))):=by
  have c:fB (f2 eqX (ae 8) (fC (.str "near"))) (EL nm w h p u l S R t4 ck ck)=a_ (.ok (jS R)):=rfl;unfold fIf;rw [c];cases jS R <;> rfl
 have g2:∀ t:Str,t ++ (if jS R then b_ "; near" else b_ "")=step t (oB "near" (jS R)):=by
  intro t;cases jS R
  · exact EZ t
  · show t ++ b_ "; near"=t ++ b_ "; " ++ b_ "near";rw [mC];rfl
 have z2:(f2 ci (f2 ci (ae 9) (fIf (fB (ae 7)) (fC (.str "; safe")) (fC (.str "")))) (fIf (fB (f2 eqX (ae 8) (fC (.str "near")))) (fC (.str "; near")) (fC (.str "")))) (EL nm w h p u l S R t4 ck ck)=a_ (.ok (.str (T nm w h p u l S R))):=by
  refine (bf z1 f2').trans ((jX ?_).trans ?_)
  · have:(if jS R then b_ "; near" else b_ "").length≤10:=by cases jS R <;> decide
    omega
  · rw [g2]; rfl
 refine fT ?_;show fu [a_ (gv nm w h p u l S R),ck,ck,ck,ck,ck,ck,ck,ck,ck,ck,ck]=_;unfold fu;rw [ao (show Dk [1,2,3,4] (eW (ae 0) dv (cG (fC (.int 4)))) [a_ (gv nm w h p u l S R),ck,ck,ck,ck,ck,ck,ck,ck,ck,ck,ck]=a_ (.nx [a_ (gv nm w h p u l S R),a_ (.str nm),a_ (.str w),a_ (eS h),a_ (eS p),ck,ck,ck,ck,ck,ck,ck]) by kernel_rfl)];rw [ao (show Dk [5,6,7,8] (eW (ae 0) (cG (fC (.int 4))) dv) [a_ (gv nm w h p u l S R),a_ (.str nm),a_ (.str w),a_ (eS h),a_ (eS p),ck,ck,ck,ck,ck,ck,ck]=a_ (.nx [a_ (gv nm w h p u l S R),a_ (.str nm),a_ (.str w),a_ (eS h),a_ (eS p),a_ (eO u),a_ (eO l),a_ (.bl S),a_ (.str R),ck,ck,ck]) by kernel_rfl)];rw [ao (aW (ρ':=EL nm w h p u l S R (Tz0 nm w) ck ck) v9 rfl)];have hfor:q9 (gP 10 11) [11,10] (fun ρ=>bnd ((ac (cx (ac (fC (.str "for")) (ac (fC (.str "under")) (ac (fC (.str "until")) (ac (fC (.str "lasts")) ah))))) (ac (eW (ae 0) (cG (fC (.int 2))) (cG (fC (.int 6)))) ah)) ρ) Bx) aK (EL nm w h p u l S R (Tz0 nm w) ck ck)=a_ (.nx (EL nm w h p u l S R t4 ck ck)):=by
  unfold q9;rw [hsrc];exact hloop
 rw [ao hfor];exact xJ z2
end
def om (p:Str):Option (Nat×Dv):=match aV [.str p] with
 | some (.ok (.tup [.int k,d]))=>a_ (k.toNat,d)
 | _=>ck
def eT:Option (Nat×Dv)→Dv
 | none=>.non
 | some (k,d)=>.tup [.int k,d]
def okT (p:Str):Bool:=match aV [.str p] with
 | some (.ok .non)=>d_
 | some (.ok (.tup [.int k,_]))=>u_ (2≤k) && u_ (k < 8)
 | _=>e_
theorem AS {p:Str} (h:okT p=d_):aV [.str p]=a_ (.ok (eT (om p)))∧∀ k d,om p=a_ (k,d)→2≤k∧k < 8:=by
 unfold okT at h;unfold om;split at h
 · rename_i e; rw [e]; exact ⟨rfl,fun k d z=>by cases z⟩
 · rename_i k d e;rw [e];rw [pi,decide_eq_true_eq,decide_eq_true_eq] at h;refine ⟨?_,fun k' d' z=>?_⟩
   · show _=a_ (Rs.ok (Dv.tup [.int (k.toNat:Int),d]));rw [Int.toNat_of_nonneg (by omega)]
   · cases z; omega
 · cases h
def blk:Str:=b_ " "
def bl2:Str:=b_ "  "
def gp (pre p post:Str):Bool:=seq (Mc (pre ++ p ++ post) blk) p && !((pre ++ p ++ post).cps.toList.contains 59)
def emp:Str:=b_ ""
def okS (p:Str):Bool:=gp emp p emp && (gp blk p emp && (gp bl2 p bl2 && (gp emp p bl2 && (gp bl2 p emp && u_ (p.length≤200)))))
def JB (p:Str):Bool:=okT p && okS p
def Kv:List Str:=[b_ "x=y",b_ "until",b_ "for A",b_ "under b",b_ "lasts 99999",b_ "SAFE",b_ "",b_ "safe near",b_ "until  7"]
def Fd:List Str:=[b_ "until 17",b_ "under /q",b_ "lasts 4",b_ "for q.r"]
def oq (n:Nat):List Int:=(o_ n).map fun i:Nat=>(i:Int)
def allP:List Str:=En.map (fun h=>b_ "for " ++ h) ++ (pths.map (fun h=>b_ "under " ++ h) ++ ((oq 60).map (fun i=>b_ "until " ++ is i) ++ ((oq 30).map (fun i=>b_ "lasts " ++ is i) ++ ([b_ "safe",b_ "near"] ++ (Kv ++ Fd)))))
theorem AT:allP.all JB=d_:=by kernel_rfl
theorem Fe:(En.all fun h=>match aV [.str (b_ "for " ++ h)] with | some (.ok (.tup [.int 2,.str z]))=>seq z h | _=>e_)=d_:=by kernel_rfl
theorem Ff:(pths.all fun h=>match aV [.str (b_ "under " ++ h)] with | some (.ok (.tup [.int 3,.str z]))=>seq z h | _=>e_)=d_:=by kernel_rfl
theorem Fg:((oq 60).all fun i=>match aV [.str (b_ "until " ++ is i)] with | some (.ok (.tup [.int 4,.int z]))=>z == i | _=>e_)=d_:=by kernel_rfl
theorem Fh:((oq 30).all fun i=>match aV [.str (b_ "lasts " ++ is i)] with | some (.ok (.tup [.int 5,.int z]))=>z == i | _=>e_)=d_:=by kernel_rfl
theorem IB {h:Str} (q:h∈En):om (b_ "for " ++ h)=a_ (2,.str h):=by
 have z:=aP Fe q;unfold om;split at z
 · rename_i y e; rw [e]; rw [eC z]; rfl
 · cases z
theorem IC {h:Str} (q:h∈pths):om (b_ "under " ++ h)=a_ (3,.str h):=by
 have z:=aP Ff q;unfold om;split at z
 · rename_i y e; rw [e]; rw [eC z]; rfl
 · cases z
theorem ID {i:Int} (q:i∈oq 60):om (b_ "until " ++ is i)=a_ (4,.int i):=by
 have z:=aP Fg q;unfold om;split at z
 · rename_i y e; rw [e]; rw [show y=i by simpa using z]; rfl
 · cases z
theorem IE {i:Int} (q:i∈oq 30):om (b_ "lasts " ++ is i)=a_ (5,.int i):=by
 have z:=aP Fh q;unfold om;split at z
 · rename_i y e; rw [e]; rw [show y=i by simpa using z]; rfl
 · cases z
theorem Fj:om (b_ "safe")=a_ (6,.bl d_):=by kernel_rfl
theorem Fk:om (b_ "near")=a_ (7,.str "near"):=by kernel_rfl
def put (ds:List Dv) (p:Str):List Dv:=match om p with
 | none=>ds
 | some (k,d)=>ds.set k d
theorem AU (ds:List Dv) (p:Str):(put ds p).length=ds.length:=by
 unfold put; split <;> simp
theorem ot:∀ l:List Str,imms (l.map Dv.str)=d_
 | []=>rfl
 | x :: l=>by show (imm (.str x) && imms (l.map Dv.str))=d_; rw [ot l]; rfl
def ER (x:Str) (L T3:Dv) (a b:Option Dv):Ev:=[a_ (.str x),a_ L,a_ T3,ck,a,b]
theorem AV {x p:Str} {L T3:Dv} {b:Option Dv} {ds:List Dv} (h:okT p=d_) (hl:ds.length=8):∃ b',bA (ER x L T3 (a_ (.str p)) b) ds=a_ (.nx (ER x L T3 (a_ (.str p)) b') (put ds p)):=by
 obtain ⟨e,hk⟩:=AS h;refine ⟨a_ (eT (om p)),?_⟩;have e1:fz 5 (ag aV 1 (ac (ae 4) ah)) (ER x L T3 (a_ (.str p)) b) ds=a_ (.nx (ER x L T3 (a_ (.str p)) (a_ (eT (om p)))) ds):=by
  unfold fz;rw [fR aV (f:=ae 4) (ρ:=ER x L T3 (a_ (.str p)) b) (a:=.str p) rfl e];rfl
 unfold bA;show (match fz 5 (ag aV 1 (ac (ae 4) ah)) (ER x L T3 (a_ (.str p)) b) ds with
  | some (.nx ρ' ds')=>(oIf (fB (f2 dz (ae 5) (fC .non))) (qj (f2 ixD (ae 5) (fC (.int 0))) (f2 ixD (ae 5) (fC (.int 1)))) Bv) ρ' ds'
  | o=>o)=_
 rw [e1];unfold put
 match ht:om p with
 | none=>rfl
 | some (k,d) =>
  have:=hk k d ht;show (if 0≤(k:Int)∧(k:Int) < ds.length then a_ (Fo.nx (ER x L T3 (a_ (.str p)) (a_ (.tup [.int k,d]))) (ds.set (k:Int).toNat d)) else ck)=_;rw [if_pos ⟨by omega,by omega⟩];rfl
theorem vt {x:Str} {L T3:Dv}:∀ (ps:List Str) (ds:List Dv) (a b:Option Dv),(∀ p∈ps,okT p=d_)→ds.length=8→iZ 4 [4,5] bA (ps.map Dv.str) (ER x L T3 a b) ds=a_ (.nx (ER x L T3 ck ck) (ps.foldl put ds))
 | [],ds,a,b,_,_=>rfl
 | p :: ps,ds,a,b,h,hl=>by
  obtain ⟨b',e⟩:=AV (x:=x) (L:=L) (T3:=T3) (b:=ck) (ds:=ds) (h p on) hl;show (match bA (ER x L T3 (a_ (.str p)) ck) ds with
   | some (.nx ρ' xs')=>iZ 4 [4,5] bA (ps.map Dv.str) ρ' xs'
   | o=>o)=_
  rw [e];exact vt ps (put ds p) (a_ (.str p)) b' (fun q hq=>h q (n_ _ hq)) (by rw [AU]; exact hl)
def AX (nm w:Str):Bool:=okS (Tz0 nm w) && (match lU (Tz0 nm w) [.str "="] with | some (.ok (.tup [.str a,.str b,.str c]))=>seq a nm && (seq b (b_ "=") && seq c w) | _=>e_) && (okY (aF [.str nm]) && okY (bw [.str w]))
theorem qG:(nms.all fun n=>wts.all fun w=>AX n w)=d_:=by kernel_rfl
def rd0 (nm w:Str):List Dv:=[.str nm,.str w,.non,.non,.non,.non,.bl e_,.str "any"]
theorem AY {x nm w:Str} {qs ps:List Str} (hx:x.length≤100000) (hnm:nm∈nms) (hw:w∈wts) (hs:Mz x (b_ ";")=qs) (hq:qs.length≤100)
 (ht:qs.map (fun q=>Mc q blk)=Tz0 nm w :: ps) (hl:∀ q∈qs,q.length≤1000) (hp:∀ p∈ps,okT p=d_):aJ [.str x]=a_ (.ok (.tup (ps.foldl put (rd0 nm w)))):=by
 have hf:=aP (p:=fun w=>AX nm w) (aP (p:=fun n=>wts.all fun w=>AX n w) qG hnm) hw;unfold AX at hf;simp only [pi] at hf;obtain ⟨⟨_,h2⟩,h3,h4⟩:=hf;have e3:=gm h3;have e4:=gm h4;have e2:lU (Tz0 nm w) [.str "="]=a_ (.ok (.tup [.str nm,.str "=",.str w])):=by
  split at h2
  · rename_i a b c e;simp only [pi] at h2;rw [e,eC h2.1,eC h2.2.1,eC h2.2.2]
  · cases h2
 have v1:cp 1 [] (dR (fM (gK) (ae 0) (ac (fC (.str ";")) ah))) (gN 0) ck (fM (ko) (ae 0) (ac (fC (.str " ")) ah)) [a_ (.str x),ck,ck,ck,ck,ck]=a_ (.ok (.lst ((Tz0 nm w :: ps).map Dv.str))):=by
  have hsrc:dR (fM (gK) (ae 0) (ac (fC (.str ";")) ah)) [a_ (.str x),ck,ck,ck,ck,ck]=a_ (.ok (qs.map Dv.str)):=by
   have z:fM (gK) (ae 0) (ac (fC (.str ";")) ah) [a_ (.str x),ck,ck,ck,ck,ck]=a_ (.ok (.lst (qs.map Dv.str))):=by
    show gK x [.str ";"]=_;show (if (b_ ";").length≠0∧x.length≤100000∧(Mz x (b_ ";")).length≤100000 then _ else ck)=_;rw [if_pos ⟨by decide,hx,by rw [hs]; omega⟩,hs]
   unfold dR;rw [z];rfl
  have e:=oa (cs:=[]) (elt:=fM (ko) (ae 0) (ac (fC (.str " ")) ah)) Dv.str (fun q=>Dv.str (Mc q blk)) hsrc (by omega) fun q hq'=>by
   show ko q [.str " "]=_;show (if q.length≤100000 then _ else ck)=_;rw [if_pos (by have:=hl q hq'; omega)];rfl
  rw [e,← ht,Om];rfl
 let L:Dv:=.lst ((Tz0 nm w :: ps).map Dv.str)
 let T3:Dv:=.tup [.str nm,.str "=",.str w]
 have v2:fM (lU) (f2 ixD (ae 1) (fC (.int 0))) (ac (fC (.str "=")) ah) [a_ (.str x),a_ L,ck,ck,ck,ck]=a_ (.ok T3):=e2;have c1:(bOr (fB (f2 eqX (f2 ixD (ae 2) (fC (.int 1))) (fC (.str "")))) (bOr (br (fB (ag aF 1 (ac (f2 ixD (ae 2) (fC (.int 0))) ah)))) (br (fB (ag bw 1 (ac (f2 ixD (ae 2) (fC (.int 2))) ah)))))) (ER x L T3 ck ck)=a_ (.ok e_):=by
  have y1:ag aF 1 (ac (f2 ixD (ae 2) (fC (.int 0))) ah) (ER x L T3 ck ck)=bo d_:=fR aF rfl e3;have y2:ag bw 1 (ac (f2 ixD (ae 2) (fC (.int 2))) ah) (ER x L T3 ck ck)=bo d_:=fR bw rfl e4;have y0:fB (f2 eqX (f2 ixD (ae 2) (fC (.int 1))) (fC (.str ""))) (ER x L T3 ck ck)=a_ (.ok e_):=by kernel_rfl
  unfold bOr;rw [y0];show (bOr (br (fB (ag aF 1 (ac (f2 ixD (ae 2) (fC (.int 0))) ah)))) (br (fB (ag bw 1 (ac (f2 ixD (ae 2) (fC (.int 2))) ah))))) (ER x L T3 ck ck)=_;unfold bOr br;rw [bU y1,bU y2];rfl
 have hsrc2:dR (rS (ae 1) (cG (fC (.int 1))) dv) (ER x L T3 ck ck)=a_ (.ok (ps.map Dv.str)):=by
  have z:rS (ae 1) (cG (fC (.int 1))) dv (ER x L T3 ck ck)=a_ (.ok (.lst (ps.map Dv.str))):=by
   show a_ (Rs.ok (Dv.lst (yi ((Tz0 nm w :: ps).map Dv.str) (a_ 1) ck)))=_;congr 3;show (((Tz0 nm w :: ps).map Dv.str).drop (min 1 ((Tz0 nm w :: ps).map Dv.str).length)).take (((Tz0 nm w :: ps).map Dv.str).length - min 1 ((Tz0 nm w :: ps).map Dv.str).length)=_;rw [Nat.min_eq_left (by simp)];rw [K0,List.drop_succ_cons,QV,Ol (by simp)]
  unfold dR;rw [z];rfl
 have hfor:qc 4 [4,5] (dR (rS (ae 1) (cG (fC (.int 1))) dv)) bA (ER x L T3 ck ck) (rd0 nm w)=a_ (.nx (ER x L T3 ck ck) (ps.foldl put (rd0 nm w))):=by
  unfold qc;rw [hsrc2];show (if imms (ps.map Dv.str)=d_ then _ else ck)=_;rw [if_pos (ot ps)];exact vt ps (rd0 nm w) ck ck hp rfl
 refine jR ?_;show dG [a_ (.str x),ck,ck,ck,ck,ck]=_;unfold dG;rw [ao (bL (show br (fB (f1 (cO bH) (ae 0))) [a_ (.str x),ck,ck,ck,ck,ck]=a_ (.ok e_) from rfl))];rw [ao (aW (ρ':=[a_ (.str x),a_ L,ck,ck,ck,ck]) v1 rfl)];rw [ao (aW (ρ':=ER x L T3 ck ck) v2 rfl)];rw [ao (bL c1)];unfold p9;rw [show (ac (f2 ixD (ae 2) (fC (.int 0))) (ac (f2 ixD (ae 2) (fC (.int 2))) (ac (fC .non) (ac (fC .non) (ac (fC .non) (ac (fC .non) (ac (fC (.bl e_)) (ac (fC (.str "any")) ah)))))))) (ER x L T3 ck ck)=a_ (.ok (rd0 nm w)) from rfl];show (match (eE (qc 4 [4,5] (dR (rS (ae 1) (cG (fC (.int 1))) dv)) bA) (tW 3 (fB1 gL (ac (ae 3) ah)))) (ER x L T3 ck ck) (rd0 nm w) with
  | some (.nx ρ' ds')=>a_ (Fl.nx (ρ'.set 3 (a_ (.lst ds'))))
  | some (.rt d)=>a_ (.rt d)
  | none=>ck)=_
 unfold eE;rw [hfor];rfl
theorem io (a b:Str):(a ++ b).cps.toList=a.cps.toList ++ b.cps.toList:=Array.toList_append
def lb (po pr:Str):Str→Str→List Str→List Str
 | pre,x,[]=>[pre ++ x ++ emp]
 | pre,x,y :: l=>(pre ++ x ++ po) :: lb po pr pr y l
theorem qH (po pr:Str):∀ (l:List Str) (pre x:Str),∃ q r,lb po pr pre x l=q :: r
 | [],_,_=>⟨_,_,rfl⟩
 | _ :: _,_,_=>⟨_,_,rfl⟩
def JS:List Str→List Nat
 | []=>[]
 | q :: r=>J [59] q.cps.toList (r.map fun s=>s.cps.toList)
theorem vv (sep x y:Str) (l:List Str):Nx sep (x :: y :: l)=x ++ sep ++ Nx sep (y :: l):=by
 show RO sep (x :: y :: l)=x ++ sep ++ RO sep (y :: l);rw [Qr,Qr];rfl
theorem Fm {sep po pr:Str} (hs:sep.cps.toList=po.cps.toList ++ 59 :: pr.cps.toList):∀ (l:List Str) (pre x:Str),pre.cps.toList ++ (Nx sep (x :: l)).cps.toList=JS (lb po pr pre x l)
 | [],pre,x=>by
  show pre.cps.toList ++ x.cps.toList=(pre ++ x ++ emp).cps.toList;rw [io,io];show _=_ ++ [];simp
 | y :: l,pre,x=>by
  have ih:=Fm hs l pr y;obtain ⟨q,r,e⟩:=qH po pr l pr y;rw [vv,io,io,hs];show _=JS ((pre ++ x ++ po) :: lb po pr pr y l);rw [e] at ih ⊢;show _=(pre ++ x ++ po).cps.toList ++ ([59] ++ J [59] q.cps.toList (r.map fun s=>s.cps.toList));rw [show J [59] q.cps.toList (r.map fun s=>s.cps.toList)=JS (q :: r) from rfl,← ih,io,io];simp
def okQ (po pr p:Str):Bool:=gp emp p po && (gp emp p emp && (gp pr p po && gp pr p emp))
theorem kX {pre p post:Str} (h:gp pre p post=d_):Mc (pre ++ p ++ post) blk=p∧59 ∉ (pre ++ p ++ post).cps.toList:=by
 unfold gp at h;rw [pi] at h;exact ⟨eC h.1,by simpa using h.2⟩
theorem vw {po pr:Str}:∀ (l:List Str) (pre x:Str),(gp pre x po=d_∧gp pre x emp=d_)→(∀ p∈l,okQ po pr p=d_) →
 (lb po pr pre x l).map (fun q=>Mc q blk)=x :: l∧∀ q∈lb po pr pre x l,59 ∉ q.cps.toList
 | [],pre,x,hx,_=>by
  obtain ⟨h1,h2⟩:=kX hx.2;exact ⟨by show [Mc (pre ++ x ++ emp) blk]=[x]; rw [h1],fun q hq=>by rw [KN.mp hq]; exact h2⟩
 | y :: l,pre,x,hx,hl=>by
  obtain ⟨h1,h2⟩:=kX hx.1;have hy:=hl y on;unfold okQ at hy;simp only [pi] at hy;obtain ⟨g1,g2⟩:=vw l pr y ⟨hy.2.2.1,hy.2.2.2⟩ fun p hp=>hl p (n_ _ hp);refine ⟨by show Mc (pre ++ x ++ po) blk :: (lb po pr pr y l).map _=_; rw [h1,g1],fun q hq=>?_⟩;rcases s_.mp hq with rfl | hq
  · exact h2
  · exact g2 q hq
theorem qI {po pr:Str} (h1:po.length≤2) (h2:pr.length≤2):∀ (l:List Str) (pre x:Str),pre.length≤2→x.length≤200→(∀ p∈l,p.length≤200)→(lb po pr pre x l).length=l.length + 1∧∀ q∈lb po pr pre x l,q.length≤300
 | [],pre,x,hp,hx,_=>⟨rfl,fun q hq=>by
  rw [KN.mp hq,fN,fN];have:emp.length=0:=by decide
  omega⟩
 | y :: l,pre,x,hp,hx,hl=>by
  obtain ⟨g1,g2⟩:=qI h1 h2 l pr y h2 (hl y on) fun p hp=>hl p (n_ _ hp);refine ⟨by show (lb po pr pr y l).length + 1=_; rw [g1]; rfl,fun q hq=>?_⟩;rcases s_.mp hq with rfl | hq
  · rw [fN,fN]; omega
  · exact g2 q hq
theorem qJ (sep:Str) (hs:sep.length≤10):∀ (l:List Str) (x:Str),(∀ p∈l,p.length≤200)→(l.foldl (fun t y=>t ++ sep ++ y) x).length≤x.length + l.length * 210
 | [],x,_=>by simp
 | y :: l,x,h=>by
  have ih:=qJ sep hs l (x ++ sep ++ y) fun p hp=>h p (n_ _ hp);have h0:=h y on;rw [fN,fN] at ih;show (l.foldl _ (x ++ sep ++ y)).length≤_;rw [MX];omega
theorem kY {sep po pr nm w:Str} {ps:List Str} (hs:sep.cps.toList=po.cps.toList ++ 59 :: pr.cps.toList) (hsl:sep.length≤10) (h1:po.length≤2) (h2:pr.length≤2) (hnm:nm∈nms) (hw:w∈wts) (hF:okQ po pr (Tz0 nm w)=d_) (hFl:(Tz0 nm w).length≤200)
 (hQ:∀ p∈ps,okQ po pr p=d_) (hl:∀ p∈ps,p.length≤200) (hn:ps.length≤50) (hT:∀ p∈ps,okT p=d_):aJ [.str (Nx sep (Tz0 nm w :: ps))]=a_ (.ok (.tup (ps.foldl put (rd0 nm w)))):=by
 obtain ⟨q,r,e⟩:=qH po pr ps emp (Tz0 nm w);unfold okQ at hF;simp only [pi] at hF;obtain ⟨g1,g2⟩:=vw (po:=po) (pr:=pr) ps emp (Tz0 nm w) ⟨hF.1,hF.2.1⟩ hQ;obtain ⟨k1,k2⟩:=qI h1 h2 ps emp (Tz0 nm w) (by decide) hFl hl;have hj:=Fm hs ps emp (Tz0 nm w);rw [e] at hj g1 g2 k1 k2;have hx:(Nx sep (Tz0 nm w :: ps)).cps.toList=J (b_ ";").cps.toList q.cps.toList (r.map fun s=>s.cps.toList):=by
  have z:emp.cps.toList=[]:=by kernel_rfl
  rw [z] at hj;exact hj
 refine AY (qs:=q :: r) ?_ hnm hw (pL (c:=59) (rest:=[]) (by kernel_rfl) (by kernel_rfl) g2 hx) (by rw [k1]; omega) g1 (fun s hs'=>by have:=k2 s hs'; omega) hT;rw [kW];have:=qJ sep hsl ps (Tz0 nm w) hl;omega
structure Gw (nm w:Str) (h p:Option Str) (u l:Option Int) (S:Bool) (R:Str):Prop where
 nm:nm∈nms
 w:w∈wts
 h:∀ x,h=a_ x→x∈En
 p:∀ x,p=a_ x→x∈pths
 u:∀ i,u=a_ i→0≤i∧i < 60
 l:∀ i,l=a_ i→0≤i∧i < 30
 r:R=b_ "any"∨R=b_ "near"
theorem IF {nm w:Str} {H P u l:Dv} {S:Bool} {R:Str} (g:Gv nm w H P u l S R):∃ h p u' l',Gw nm w h p u' l' S R∧gvn nm w H P u l S R=gv nm w h p u' l' S R:=by
 have a1:∃ h,H=eS h∧∀ x,h=a_ x→x∈En:=by
  rcases g.hh with rfl | ⟨n,hn,rfl⟩
  · exact ⟨ck,rfl,fun x e=>by cases e⟩
  · exact ⟨a_ n,rfl,fun x e=>by cases e; exact hn⟩
 have a2:∃ h,P=eS h∧∀ x,h=a_ x→x∈pths:=by
  rcases g.pp with rfl | ⟨n,hn,rfl⟩
  · exact ⟨ck,rfl,fun x e=>by cases e⟩
  · exact ⟨a_ n,rfl,fun x e=>by cases e; exact hn⟩
 have a3:∃ h,u=eO h∧∀ x,h=a_ x→0≤x∧x < 60:=by
  rcases g.u with rfl | ⟨n,h0,h1,rfl⟩
  · exact ⟨ck,rfl,fun x e=>by cases e⟩
  · exact ⟨a_ n,rfl,fun x e=>by cases e; exact ⟨h0,h1⟩⟩
 have a4:∃ h,l=eO h∧∀ x,h=a_ x→0≤x∧x < 30:=by
  rcases g.l with rfl | ⟨n,h0,h1,rfl⟩
  · exact ⟨ck,rfl,fun x e=>by cases e⟩
  · exact ⟨a_ n,rfl,fun x e=>by cases e; exact ⟨h0,h1⟩⟩
 obtain ⟨h,rfl,q1⟩:=a1;obtain ⟨p,rfl,q2⟩:=a2;obtain ⟨u,rfl,q3⟩:=a3;obtain ⟨l,rfl,q4⟩:=a4;exact ⟨h,p,u,l,⟨g.nm,g.w,q1,q2,q3,q4,g.r⟩,rfl⟩
theorem mD:(nms.all fun x=>u_ (x.length≤50))=d_∧(wts.all fun x=>u_ (x.length≤50))=d_∧(En.all fun x=>u_ (x.length≤50))=d_∧(pths.all fun x=>u_ (x.length≤50))=d_:=⟨by kernel_rfl,by kernel_rfl,by kernel_rfl,by kernel_rfl⟩
theorem vx:(nms.all fun x=>K6 (.str x))=d_∧(wts.all fun x=>K6 (.str x))=d_∧(En.all fun x=>K6 (.str x))=d_∧(pths.all fun x=>K6 (.str x))=d_:=⟨by kernel_rfl,by kernel_rfl,by kernel_rfl,by kernel_rfl⟩
section
variable {nm w:Str} {h p:Option Str} {u l:Option Int} {S:Bool} {R:Str}
theorem IG (g:Gw nm w h p u l S R):Vv nm w h p u l R :=
 ⟨by simpa using aP (p:=fun x:Str=>u_ (x.length≤50)) mD.1 g.nm,by simpa using aP (p:=fun x:Str=>u_ (x.length≤50)) mD.2.1 g.w,
  fun x e=>by simpa using aP (p:=fun x:Str=>u_ (x.length≤50)) mD.2.2.1 (g.h x e),fun x e=>by simpa using aP (p:=fun x:Str=>u_ (x.length≤50)) mD.2.2.2 (g.p x e),
  fun i e=>by have:=g.u i e; omega,fun i e=>by have:=g.l i e; omega⟩
theorem AZ (o:Option Int):It1 0 (eO o):=by cases o; exact yD; exact qA
theorem yH (a b:Option Int):Ld (bW (eO a)) (bW (eO b))=u_ (a=b):=by
 cases a <;> cases b <;> simp [eO,bW,Ld];rw [Lm]; simp
def PL (h p:Option Str) (u l:Option Int) (S:Bool) (R:Str):List Str:=(oS "for " h).toList ++ ((oS "under " p).toList ++ ((oI "until " u).toList ++ ((oI "lasts " l).toList ++ ((oB "safe" S).toList ++ ((oB "near" (jS R)).toList ++ [])))))
theorem Fp:Nx (b_ "; ") (Tz0 nm w :: PL h p u l S R)=T nm w h p u l S R:=by
 rw [kW];unfold PL;rw [iw,iw,iw,iw,iw,iw];rfl
theorem kc {n:Nat} {i:Int} (h0:0≤i) (h1:i < n):i∈oq n:=by
 unfold oq;exact KY.mpr ⟨i.toNat,Lk.mpr (by omega),by omega⟩
theorem Fq (g:Gw nm w h p u l S R):∀ x∈PL h p u l S R,x∈allP:=by
 intro x hx;simp only [PL,D_,Option.mem_toList,I_,or_false] at hx;unfold allP;rcases hx with e | e | e | e | e | e
 · refine G_ _ ?_;cases h with
   | none=>cases e
   | some y=>cases e; exact KY.mpr ⟨y,g.h y rfl,rfl⟩
 · refine m_ _ (G_ _ ?_);cases p with
   | none=>cases e
   | some y=>cases e; exact KY.mpr ⟨y,g.p y rfl,rfl⟩
 · refine m_ _ (m_ _ (G_ _ ?_));cases u with
   | none=>cases e
   | some y=>cases e; exact KY.mpr ⟨y,kc (g.u y rfl).1 (g.u y rfl).2,rfl⟩
 · refine m_ _ (m_ _ (m_ _ (G_ _ ?_)));cases l with
   | none=>cases e
   | some y=>cases e; exact KY.mpr ⟨y,kc (g.l y rfl).1 (g.l y rfl).2,rfl⟩
 · refine m_ _ (m_ _ (m_ _ (m_ _ (G_ _ ?_))));unfold oB at e;split at e
   · cases e; simp
   · cases e
 · refine m_ _ (m_ _ (m_ _ (m_ _ (G_ _ ?_))));unfold oB at e;split at e
   · cases e; simp
   · cases e
structure Ptk (x:Str):Prop where
 t:okT x=d_
 q1:okQ emp blk x=d_
 q2:okQ emp emp x=d_
 q3:okQ bl2 bl2 x=d_
 l:x.length≤200
 n:59 ∉ x.cps.toList
theorem Ft {x:Str} (h:okS x=d_):okQ emp blk x=d_∧okQ emp emp x=d_∧okQ bl2 bl2 x=d_∧x.length≤200∧59 ∉ x.cps.toList:=by
 unfold okS at h;simp only [pi,decide_eq_true_eq] at h;obtain ⟨h1,h2,h3,h4,h5,h6⟩:=h;unfold okQ;simp only [pi];refine ⟨⟨h1,h1,h2,h2⟩,⟨h1,h1,h1,h1⟩,⟨h4,h1,h3,h5⟩,h6,?_⟩;have:=(kX h1).2;rw [io,io] at this;intro hm;exact this (G_ _ (m_ _ hm))
theorem ptk {x:Str} (hx:x∈allP):Ptk x:=by
 have h:=aP AT hx;unfold JB at h;rw [pi] at h;obtain ⟨h1,h2,h3,h4,h5⟩:=Ft h.2;exact ⟨h.1,h1,h2,h3,h4,h5⟩
theorem Ba (hnm:nm∈nms) (hw:w∈wts):okS (Tz0 nm w)=d_:=by
 have hf:=aP (p:=fun w=>AX nm w) (aP (p:=fun n=>wts.all fun w=>AX n w) qG hnm) hw;unfold AX at hf;simp only [pi] at hf;exact hf.1.1
theorem Bb {ps:List Str} (hnm:nm∈nms) (hw:w∈wts) (hp:∀ x∈ps,x∈allP) (hl:ps.length≤50) :
 aJ [.str (Nx (b_ "; ") (Tz0 nm w :: ps))]=a_ (.ok (.tup (ps.foldl put (rd0 nm w))))∧aJ [.str (Nx (b_ ";") (Tz0 nm w :: ps))]=a_ (.ok (.tup (ps.foldl put (rd0 nm w))))∧aJ [.str (Nx (b_ "  ;  ") (Tz0 nm w :: ps))]=a_ (.ok (.tup (ps.foldl put (rd0 nm w)))):=by
 obtain ⟨f1,f2,f3,f4,f5⟩:=Ft (Ba hnm hw);exact ⟨kY (po:=emp) (pr:=blk) (by kernel_rfl) (by decide) (by decide) (by decide) hnm hw f1 f4 (fun x hx=>(ptk (hp x hx)).q1) (fun x hx=>(ptk (hp x hx)).l) hl fun x hx=>(ptk (hp x hx)).t,
  kY (po:=emp) (pr:=emp) (by kernel_rfl) (by decide) (by decide) (by decide) hnm hw f2 f4 (fun x hx=>(ptk (hp x hx)).q2) (fun x hx=>(ptk (hp x hx)).l) hl fun x hx=>(ptk (hp x hx)).t,
  kY (po:=bl2) (pr:=bl2) (by kernel_rfl) (by decide) (by decide) (by decide) hnm hw f3 f4 (fun x hx=>(ptk (hp x hx)).q3) (fun x hx=>(ptk (hp x hx)).l) hl fun x hx=>(ptk (hp x hx)).t⟩
theorem Fu:(PL h p u l S R).length≤6:=by
 have f1:=lz (oS "for " h);have f2':=lz (oS "under " p);have f3:=lz (oI "until " u);have f4:=lz (oI "lasts " l);have f5:=lz (oB "safe" S);have f6:=lz (oB "near" (jS R));simp [PL]; omega
def gs (o:Option Str) (c:Dv):Dv:=match o with | none=>c | some x=>.str x
def gi (o:Option Int) (c:Dv):Dv:=match o with | none=>c | some x=>.int x
def gb (o:Bool) (c d:Dv):Dv:=if o then d else c
theorem Kw (hh:∀ x,h=a_ x→x∈En) (L:List Str) (a b c d e f g i:Dv):((oS "for " h).toList ++ L).foldl put [a,b,c,d,e,f,g,i]=L.foldl put [a,b,gs h c,d,e,f,g,i]:=by
 cases h with
 | none=>rfl
 | some x=>show L.foldl put (put _ (b_ "for " ++ x))=_; unfold put; rw [IB (hh x rfl)]; rfl
theorem Kx (hh:∀ x,p=a_ x→x∈pths) (L:List Str) (a b c d e f g i:Dv):((oS "under " p).toList ++ L).foldl put [a,b,c,d,e,f,g,i]=L.foldl put [a,b,c,gs p d,e,f,g,i]:=by
 cases p with
 | none=>rfl
 | some x=>show L.foldl put (put _ (b_ "under " ++ x))=_; unfold put; rw [IC (hh x rfl)]; rfl
theorem Ky (hh:∀ x,u=a_ x→0≤x∧x < 60) (L:List Str) (a b c d e f g i:Dv):((oI "until " u).toList ++ L).foldl put [a,b,c,d,e,f,g,i]=L.foldl put [a,b,c,d,gi u e,f,g,i]:=by
 cases u with
 | none=>rfl
 | some x=>show L.foldl put (put _ (b_ "until " ++ is x))=_; unfold put; rw [ID (kc (hh x rfl).1 (hh x rfl).2)]; rfl
theorem Kz (hh:∀ x,l=a_ x→0≤x∧x < 30) (L:List Str) (a b c d e f g i:Dv):((oI "lasts " l).toList ++ L).foldl put [a,b,c,d,e,f,g,i]=L.foldl put [a,b,c,d,e,gi l f,g,i]:=by
 cases l with
 | none=>rfl
 | some x=>show L.foldl put (put _ (b_ "lasts " ++ is x))=_; unfold put; rw [IE (kc (hh x rfl).1 (hh x rfl).2)]; rfl
theorem KB (L:List Str) (a b c d e f g i:Dv):((oB "safe" S).toList ++ L).foldl put [a,b,c,d,e,f,g,i]=L.foldl put [a,b,c,d,e,f,gb S g (.bl d_),i]:=by
 cases S with
 | false=>rfl
 | true=>show L.foldl put (put _ (b_ "safe"))=_; unfold put; rw [Fj]; rfl
theorem KC (k:Bool) (L:List Str) (a b c d e f g i:Dv):((oB "near" k).toList ++ L).foldl put [a,b,c,d,e,f,g,i]=L.foldl put [a,b,c,d,e,f,g,gb k i (.str "near")]:=by
 cases k with
 | false=>rfl
 | true=>show L.foldl put (put _ (b_ "near"))=_; unfold put; rw [Fk]; rfl
theorem Fv (g:Gw nm w h p u l S R) (a b c d e f k i:Dv):(PL h p u l S R).foldl put [a,b,c,d,e,f,k,i]=[a,b,gs h c,gs p d,gi u e,gi l f,gb S k (.bl d_),gb (jS R) i (.str "near")]:=by
 unfold PL;rw [Kw g.h,Kx g.p,Ky g.u,Kz g.l,KB,KC];rfl
theorem Fw (g:Gw nm w h p u l S R):gb (jS R) (.str "any") (.str "near")=.str R:=by
 rcases g.r with e | e <;> rw [e] <;> rfl
theorem yI (o:Option Str):gs o .non=eS o:=by cases o <;> rfl
theorem yJ (o:Option Int):gi o .non=eO o:=by cases o <;> rfl
theorem KD (S:Bool):gb S (.bl e_) (.bl d_)=.bl S:=by cases S <;> rfl
theorem IH (g:Gw nm w h p u l S R):Dv.tup ((PL h p u l S R).foldl put (rd0 nm w))=gv nm w h p u l S R:=by
 unfold rd0;rw [Fv g,Fw g,yI,yI,yJ,yJ,KD]
theorem Fx (i:Int):au [.int i]=bo (u_ (0≤i) && u_ (i≤9999)):=by
 have e:aQ [.int i,.int 0,.int 9999]=bo (u_ (0≤i) && u_ (i≤9999)):=by
  by_cases h0:0≤i
  · simp [aQ,bu,bd,av,sq,aR,aA,bh,bV,bnd,bOr,br,fB,toB,ae,fC,f1,f2,c0,cO,aH,bM,leX,h0]
  · simp [aQ,bu,bd,av,sq,aR,aA,bh,aS,bc,bV,bnd,bOr,cM,br,fB,toB,ag,am,ac,ah,ae,fC,f1,f2,ixD,atD,vOr,c0,fw,fIf,cx,bJ,fB1,fM,aG,aY,isN,dz,cO,aH,bK,bH,bM,leX,h0]
 have e2:bj [.int i]=bo (u_ (0≤i) && u_ (i≤9999)):=by simp [bj,bu,dU,av,sq,aR,aA,bh,aS,bc,bV,bnd,bOr,cM,br,fB,toB,ag,am,ac,ah,ae,fC,f1,f2,ixD,atD,vOr,c0,fw,fIf,cx,bJ,fB1,fM,aG,aY,isN,dz,cO,aH,bK,bH,bM,e]
 simp [au,bu,aT,av,sq,aR,aA,bh,aS,bc,bV,bnd,bOr,cM,br,fB,toB,ag,am,ac,ah,ae,fC,f1,f2,ixD,atD,vOr,c0,fw,fIf,cx,bJ,fB1,fM,aG,aY,isN,dz,cO,aH,bK,bH,bM,e2]
theorem Fy (g:Gw nm w h p u l S R):aJ [.str (T nm w h p u l S R)]=a_ (.ok (gv nm w h p u l S R)):=by
 have:=(Bb (nm:=nm) (w:=w) g.nm g.w (Fq g) (K5 Fu (by omega))).1;rw [Fp,IH g] at this;exact this
end
section
variable {nm w:Str} {H P u l:Dv} {S:Bool} {R:Str} {t:List Dv} {h p:Str} {O:Dv} {s:Bool} {house path:Str} {ex:Bool} {wd:Dv} {now:Int}
abbrev ntn (nm w house:Str) (ex:Bool) (path:Str) (ends:Dv) (S:Bool) (R:Str) (now:Int):Dv:=.tup [.str nm,.str w,.str house,.bl ex,.str path,ends,.bl S,.str R,.int now,.int now]
theorem Bc {k:Nat} {d:Dv} (h:It1 k d) (hk:k≤64):neX d d=a_ (.ok (.bl e_)):=AK (h.okP hk) h.p
def yK (u l:Dv) (now:Int):Dv:=match l with
 | .int i=>.int (if 9999 < now + i then 9999 else now + i)
 | _=>u
theorem Fz (g:Gv nm w H P u l S R):ic [gvn nm w H P u l S R,.int now]=a_ (.ok (yK u l now)):=by
 rcases g.l with rfl | ⟨i,i0,i1,rfl⟩
 · simp [ic,bu,ib,av,sq,aR,aA,bh,bV,bnd,fB,toB,ac,ah,ae,fC,f2,ixD,atD,fB1,isN,yK]
 · simp [ic,bu,ib,av,sq,aR,aA,bh,aS,bc,bV,bnd,bOr,cM,br,fB,toB,ag,am,ac,ah,ae,fC,f1,f2,ixD,atD,vOr,c0,fw,fIf,cx,bJ,fB1,fM,aG,aY,isN,dz,cO,aH,bK,bH,bM,df,Gf,yK]
theorem FB (g:Gv nm w H P u l S R) (n0:0≤now):Mo (yK u l now):=by
 rcases g.l with rfl | ⟨i,i0,i1,rfl⟩
 · exact g.mu
 · refine .inr ⟨_,?_,?_,rfl⟩ <;> split <;> omega
theorem yL (ht:t∈iQ rules) (a:Ak h p O) (g:Gv nm w H P u l S R) (n0:0≤now) (n1:now≤9999) (W:Wt t h p O nm w H P u l S R s house path ex .non) :
 cH [.tup t,akn s h p O,gvn nm w H P u l S R,.int now]=a_ (.ok (ntn nm w house ex path (yK u l now) S R now)):=by
 have e1:=Gk (il ht);have e2:=Gm (xD (s:=s) a);have e3:=Jy (vn g);have e4:=xC (la n0 n1);have w2:=W.why;have k1:=W.hf;have k2:=W.ix;have k3:=W.pf;have k4:=Fz (now:=now) g;simp [cH,eV,mo,av,sq,aR,aA,bh,aS,bV,bnd,fB,toB,ag,am,ac,ah,ae,fC,f2,ixD,atD,cx,aG,dz,e1,e2,e3,e4,w2,k1,k2,k3,k4]
end
end G
namespace G
namespace J
open PySem PySem.Spec PyProof.Rows L2 FD
theorem vh:(nms.all fun n=>okY (aF [.str n]))=d_:=by kernel_rfl
theorem vi:(wts.all fun n=>okY (bw [.str n]))=d_:=by kernel_rfl
theorem vj:(En.all fun n=>okY (bS [.str n]))=d_:=by kernel_rfl
theorem vk:(pths.all fun n=>okY (bZ [.str n]))=d_:=by kernel_rfl
theorem Ix {n:Str} (h:n∈nms):aF [.str n]=bo d_:=gm (aP (p:=fun n=>okY (aF [.str n])) vh h)
theorem Iy {n:Str} (h:n∈wts):bw [.str n]=bo d_:=gm (aP (p:=fun n=>okY (bw [.str n])) vi h)
theorem vO {n:Str} (h:n∈En):bS [.str n]=bo d_:=gm (aP (p:=fun n=>okY (bS [.str n])) vj h)
theorem vP {n:Str} (h:n∈pths):bZ [.str n]=bo d_:=gm (aP (p:=fun n=>okY (bZ [.str n])) vk h)
theorem gQ {l:List Dv} {d:Int} (h0:0≤d) (h1:d < l.length):∃ x∈l,ixD (.lst l) (.int d)=a_ (.ok x):=by
 have h2:d.toNat < l.length:=by omega
 refine ⟨l[d.toNat],OA h2,?_⟩;show (match atD l d with | some d=>_ | none=>_)=_
 unfold atD;rw [if_pos h0,B_ h2]
theorem xJ {f:FnE} {ρ:Ev} {d:Dv} (h:f ρ=a_ (.ok d)):aA f ρ=a_ (.rt d):=by unfold aA; rw [h]; rfl
theorem vy {a b:FnB} {ρ:Ev} {x y:Bool} (ha:a ρ=a_ (.ok x)) (hb:b ρ=a_ (.ok y)):bOr a b ρ=a_ (.ok (x || y)):=by
 unfold bOr; rw [ha]; cases x
 · exact hb
 · rfl
theorem Fx (i:Int):bj [.int i]=bo (u_ (0≤i) && u_ (i≤9999)):=by
 have e:aQ [.int i,.int 0,.int 9999]=bo (u_ (0≤i) && u_ (i≤9999)):=by
  by_cases h0:0≤i
  · simp [aQ,bu,bd,av,sq,aR,aA,bV,bnd,bOr,br,fB,toB,ae,f1,f2,c0,cO,aH,bM,leX,h0]
  · simp [aQ,bu,bd,av,sq,aR,aA,bV,bnd,bOr,br,fB,toB,ae,f1,f2,c0,cO,aH,bM,leX,h0]
 simp [bj,bu,dU,aA,bV,bnd,ag,ac,ah,ae,fC,e]
theorem la {i:Int} (h0:0≤i) (h1:i≤9999):bj [.int i]=bo d_:=by
 rw [Fx]; simp [h0,h1]
def Mo (u:Dv):Prop:=u=.non∨∃ i:Int,0≤i∧i≤9999∧u=.int i
theorem qD {u:Dv} (h:Mo u):au [u]=bo d_:=by
 rcases h with rfl | ⟨i,h0,h1,rfl⟩
 · simp [au,bu,aT,aA,bV,bnd,toB,ae,fC,f2,vOr,isN]
 · simp [au,bu,aT,aA,bV,bnd,toB,ag,ac,ah,ae,fC,f2,vOr,isN,la h0 h1]
theorem mB {R:Str} (h:R=b_ "any"∨R=b_ "near"):eQ [.str R]=bo d_∧∃ r,eqX (.str R) (.str "any")=bo r∧eqX (.str R) (.str "near")=bo (!r):=by
 rcases h with rfl | rfl
 · exact ⟨by kernel_rfl,d_,by kernel_rfl,by kernel_rfl⟩
 · exact ⟨by kernel_rfl,e_,by kernel_rfl,by kernel_rfl⟩
structure Note where
 nm:Str
 w:Str
 house:Str
 ex:Bool
 path:Str
 ends:Option Int
 S:Bool
 R:Str
 md:Int
 us:Int
deriving DecidableEq
def eO:Option Int→Dv
 | none=>.non
 | some i=>.int i
def enc (n:Note):Dv:=.tup [.str n.nm,.str n.w,.str n.house,.bl n.ex,.str n.path,eO n.ends,.bl n.S,.str n.R,.int n.md,.int n.us]
def ek (n:Note):Dv:=.tup [.str n.nm,.str n.house,.str n.path]
def key (n:Note):List Str:=[n.nm,n.house,n.path]
structure Good (n:Note):Prop where
 nm:n.nm∈nms
 w:n.w∈wts
 house:n.house∈En
 path:n.path∈pths
 R:n.R=b_ "any"∨n.R=b_ "near"
 ends:∀ i,n.ends=a_ i→0≤i∧i≤9999
 mk0:0≤n.md
 mu:n.md≤n.us
 us:n.us≤99
theorem II {n:Note} (g:Good n):Mo (eO n.ends):=by
 cases h:n.ends with
 | none=>exact .inl rfl
 | some i=>exact .inr ⟨i,(g.ends i h).1,by have:=(g.ends i h).2; omega,rfl⟩
theorem FF {n:Note} (g:Good n):eY [enc n]=bo d_:=by
 have e0:ce [enc n,.int 10]=bo d_:=by kernel_rfl
 have e1:=la g.mk0 (by have:=g.mu; have:=g.us; omega);have e2:=la (Int.le_trans g.mk0 g.mu) (by have:=g.us; omega);have e3:au [eO n.ends]=bo d_:=qD (II g);unfold enc at e0 ⊢;simp [eY,bu,jg,av,sq,aR,aA,bV,bnd,bOr,br,fB,toB,ag,ac,ah,ae,fC,f1,f2,ixD,atD,bJ,fB1,cO,aH,e0,e1,e2,Ix g.nm,Iy g.w,vO g.house,vP g.path,e3,(mB g.R).1,iW,eI,leX,g.mu]
def signs0:List Str:=nms ++ (wts ++ (En ++ (pths ++ [b_ "any",b_ "near"])))
theorem vx:(signs0.all fun x=>K6 (.str x))=d_:=by kernel_rfl
theorem jT {x:Str} (h:x∈signs0):K6 (.str x)=d_:=aP (p:=fun x=>K6 (.str x)) vx h
theorem AZ (o:Option Int):It1 0 (eO o):=by cases o; exact yD; exact qA
theorem Good.sR {n:Note} (g:Good n):n.R∈signs0:=by
 unfold signs0;rcases g.R with h | h <;> rw [h] <;> simp
theorem ou {n:Note} (g:Good n):It1 1 (enc n):=by
 refine qz (k:=0) fun d hd=>?_;simp only [s_,I_,or_false] at hd;rcases hd with rfl | rfl | rfl | rfl | rfl | rfl | rfl | rfl | rfl | rfl
 · exact fH (jT (by simp [signs0,g.nm]))
 · exact fH (jT (by simp [signs0,g.w]))
 · exact fH (jT (by simp [signs0,g.house]))
 · exact xA
 · exact fH (jT (by simp [signs0,g.path]))
 · exact AZ _
 · exact xA
 · exact fH (jT g.sR)
 · exact qA
 · exact qA
theorem FH {n:Note} (g:Good n):It1 1 (ek n):=by
 refine qz (k:=0) fun d hd=>?_;simp only [s_,I_,or_false] at hd;rcases hd with rfl | rfl | rfl
 · exact fH (jT (by simp [signs0,g.nm]))
 · exact fH (jT (by simp [signs0,g.house]))
 · exact fH (jT (by simp [signs0,g.path]))
theorem FJ (a b:Note):Ld (bW (ek a)) (bW (ek b))=u_ (key a=key b):=by
 rw [Lm];simp [ek,key,bW,toPys,Ld,L_]
theorem yH (a b:Option Int):Ld (bW (eO a)) (bW (eO b))=u_ (a=b):=by
 cases a <;> cases b <;> simp [eO,bW,Ld];rw [Lm]; simp
theorem Bd (a b:Note):Ld (bW (enc a)) (bW (enc b))=u_ (a=b):=by
 rw [Lm];have e:=yH a.ends b.ends;cases a; cases b;simp [enc,bW,toPys,Ld,L_,e]
theorem eq_ek {a b:Note} (ga:Good a) (gb:Good b):eqX (ek a) (ek b)=bo (u_ (key a=key b))∧neX (ek a) (ek b)=bo (!u_ (key a=key b)):=by
 have h1:=(FH ga).okP (by omega);have h2:=(FH gb).okP (by omega);have h3:=FJ a b;have h0:eqS (ek a) (ek b)=ck:=rfl;constructor
 · unfold eqX; rw [h0,h1,h2,h3]; rfl
 · unfold neX; rw [h0,h1,h2,h3]; rfl
def ended (n:Note) (now:Int):Bool:=match n.ends with
 | none=>e_
 | some i=>u_ (i≤now)
def ej (js:List Note):Dv:=.tup (js.map enc)
structure Jar (js:List Note):Prop where
 g:∀ n∈js,Good n
 s:∀ i (h:i + 1 < js.length),js[i].md≤js[i + 1].md
 k:(js.map key).Nodup
 l:js.length≤18
theorem yM {α β:Type} {o:Option (Rs α)} {a:α} {k:α→Option (Rs β)} (h:o=a_ (.ok a)):bnd o k=k a:=by rw [h]; rfl
theorem pN:∀ (n:Nat) (lo:Int),rng lo n=(o_ n).map fun i:Nat=>Dv.int (lo + (i:Int))
 | 0,lo=>rfl
 | n + 1,lo=>by
  rw [Qd];show Dv.int lo :: rng (lo + 1) n=_;rw [pN n (lo + 1)];simp only [K0,Om];congr 1
  · simp
  · congr 1;funext i;simp only [S5];congr 1;omega
theorem vz {f g:iX} {ρ ρ':Ev} {ds ds':List Dv} (h:f ρ ds=a_ (.nx ρ' ds')):eE f g ρ ds=g ρ' ds':=by unfold eE; rw [h]
theorem Be {xs:List Dv} {i:Nat} {ρ:Ev} (h:ρ[i]?=a_ (a_ (.lst xs))):dR (ae i) ρ=a_ (.ok xs):=by
 unfold dR ae;rw [h];rfl
theorem src_of {js:List Note} {i:Nat} {ρ:Ev} (h:ρ[i]?=a_ (a_ (ej js))):dR (ae i) ρ=a_ (.ok (js.map enc)):=by
 unfold dR ae;rw [h];rfl
theorem vA {xs:List Note} (hg:∀ o∈xs,Good o):It1 2 (.lst (xs.map enc)):=ve fun d hd=>by
 obtain ⟨x,hx,rfl⟩:=KY.mp hd;exact ou (hg x hx)
theorem it_ej {xs:List Note} (hg:∀ o∈xs,Good o):It1 2 (ej xs):=qz fun d hd=>by
 obtain ⟨x,hx,rfl⟩:=KY.mp hd;exact ou (hg x hx)
theorem nil_eq {xs:List Note} (hg:∀ o∈xs,Good o):eqX (.lst (xs.map enc)) (.lst [])=bo xs.isEmpty:=by
 cases xs with
 | nil=>kernel_rfl
 | cons o rest =>
  have i2:=(vA hg).okP (by omega);have i3:okP (.lst [])=d_:=by kernel_rfl
  unfold eqX;rw [show eqS (.lst ((o :: rest).map enc)) (.lst [])=ck from rfl,i2,i3];simp [bW,toPys,Ld,L_]
theorem ow:∀ l:List Int,imms (l.map Dv.int)=d_
 | []=>rfl
 | i :: l=>by show (imm (.int i) && imms (l.map Dv.int))=d_; rw [ow l]; rfl
theorem vB (a b:Int):ci (.int a) (.int b)=a_ (.ok (.int (a + b))):=rfl
end J
namespace J
open PySem PySem.Spec PyProof.Rows L2 FD
def nm4:List Str:=[b_ "n",b_ "m-1",b_ "safe-a",b_ "N_2"]
theorem Bf {x:Str} (h:x∈nm4):x∈nms:=by
 unfold nm4 at h;simp only [s_,I_,or_false] at h;rcases h with rfl | rfl | rfl | rfl <;> simp [nms]
structure JI (B:Nat) (js:List Note) (now:Int):Prop where
 g:∀ n∈js,Good n
 s:js.Pairwise fun a b=>a.md≤b.md
 k:(js.map key).Nodup
 l:js.length≤B
 n0:0≤now
 n1:now≤3 * B
 m:∀ n∈js,n.md≤now
 u:∀ n∈js,n.us≤39
 nn:∀ n∈js,n.nm∈nm4
theorem JI.keep {B:Nat} {js:List Note} {now d:Int} (J:JI B js now) (h0:0≤d) (h1:d < 4):JI (B + 1) js (now + d) :=
 ⟨J.g,J.s,J.k,by have:=J.l; omega,by have:=J.n0; omega,by have:=J.n1; omega,fun n hn=>by have:=J.m n hn; omega,J.u,J.nn⟩
theorem JI.add {B:Nat} {js:List Note} {now d:Int} {n:Note} (J:JI B js now) (h0:0≤d) (h1:d < 4) (g:Good n) (hu:n.us≤39) (h4:n.nm∈nm4) (hm:n.md=now + d) (hf:js.filter (fun o=>u_ (key o=key n))=[]):JI (B + 1) (js ++ [n]) (now + d):=by
 have hk:∀ o∈js,key o≠key n:=fun o ho e=>by
  have:o∈js.filter (fun o=>u_ (key o=key n)):=Ll.mpr ⟨ho,by simp [e]⟩;rw [hf] at this; cases this
 refine ⟨fun x hx=>?_,?_,?_,by have:=J.l; simp; omega,by have:=J.n0; omega,by have:=J.n1; omega,fun x hx=>?_,fun x hx=>?_,fun x hx=>?_⟩
 · rcases D_.mp hx with h | h
   · exact J.g x h
   · rw [KN.mp h]; exact g
 · refine QT.mpr ⟨J.s,NZ ..,fun a ha b hb=>?_⟩;rw [KN.mp hb,hm];have:=J.m a ha;omega
 · rw [LP];refine RU.mpr ⟨J.k,by simp,fun a ha b hb e=>?_⟩;obtain ⟨o,ho,rfl⟩:=KY.mp ha;simp only [K0,List.map_nil,KN] at hb;exact hk o ho (e.trans hb)
 · rcases D_.mp hx with h | h
   · have:=J.m x h; omega
   · rw [KN.mp h,hm]; omega
 · rcases D_.mp hx with h | h
   · exact J.u x h
   · rw [KN.mp h]; exact hu
 · rcases D_.mp hx with h | h
   · exact J.nn x h
   · rw [KN.mp h]; exact h4
theorem JI.jar {B:Nat} {js:List Note} {now:Int} (J:JI B js now) (hB:B≤18):Jar js :=
 ⟨J.g,fun i h=>NK.mp J.s i (i + 1) (by omega) h (by omega),J.k,by have:=J.l; omega⟩
def jb (ns:List Int) (z m now:Int):Ev:=[a_ (.scr ns),a_ (.int z),a_ (.int m),ck,a_ (.int now),ck,ck,ck,ck,ck,ck,ck,ck,ck,ck,ck]
def cJ:FnB:=(fB (f2 eqX (cF [("_law_note",15)] (dR (ae 3)) (a_ (fB (f2 eqX (cx (ac (f2 ixD (ae 0) (fC (.int 0))) (ac (f2 ixD (ae 0) (fC (.int 2))) (ac (f2 ixD (ae 0) (fC (.int 4))) ah)))) (cx (ac (f2 ixD (ae 1) (fC (.int 0))) (ac (f2 ixD (ae 1) (fC (.int 2))) (ac (f2 ixD (ae 1) (fC (.int 4))) ah))))))) (ae 0)) (bJ ah)))
theorem IJ {js:List Note} {n:Note} {ρ:Ev} (hg:∀ o∈js,Good o) (gn:Good n) (hl:js.length≤18) (h3:ρ[3]?=a_ (a_ (.lst (js.map enc)))) (h15:ρ[15]?=a_ (a_ (enc n))):cJ ρ=a_ (.ok (js.filter (fun o=>u_ (key o=key n))).isEmpty):=by
 have hc:yb [("_law_note",15)] ρ=[ck,a_ (enc n)]:=by simp [yb,h15]
 have e1:=ju (cs:=[("_law_note",15)]) (src:=dR (ae 3)) (tst:=(fB (f2 eqX (cx (ac (f2 ixD (ae 0) (fC (.int 0))) (ac (f2 ixD (ae 0) (fC (.int 2))) (ac (f2 ixD (ae 0) (fC (.int 4))) ah)))) (cx (ac (f2 ixD (ae 1) (fC (.int 0))) (ac (f2 ixD (ae 1) (fC (.int 2))) (ac (f2 ixD (ae 1) (fC (.int 4))) ah))))))) (elt:=ae 0) (ρ:=ρ) enc (fun o=>u_ (key o=key n)) enc (Be h3) (by omega) fun o ho=>⟨by
  rw [hc];exact bU ((bf (x:=ek o) (y:=ek n) rfl rfl).trans (eq_ek (hg o ho) gn).1),by rw [hc]; rfl⟩
 exact bU ((bf e1 rfl).trans (nil_eq fun o ho=>hg o (Ll.mp ho).1))
theorem vC (ns:List Int) (hl:ns.length≤63) (z m now k:Int) {B:Nat} {js:List Note} (J:JI B js now) (hB:B≤10) :
 ∃ ρ' js' now',bP ((jb ns z m now).set 5 (a_ (.int k))) (js.map enc)=a_ (.nx ρ' (js'.map enc))∧fgt [5,6,7,8,9,10,11,12,13,14,15] ρ'=jb ns z m now'∧JI (B + 1) js' now':=by
 obtain ⟨here,hh⟩:∃ here,here=z + 1 + 14 * k:=⟨_,rfl⟩;obtain ⟨d0,a0,b0,e0⟩:=aX ns hl here 4 (by omega);obtain ⟨d1,a1,b1,e1⟩:=aX ns hl (here + 1) 4 (by omega);obtain ⟨d2,a2,b2,e2⟩:=aX ns hl (here + 2) 3 (by omega);obtain ⟨d4,a4,b4,e4⟩:=aX ns hl (here + 4) 2 (by omega);obtain ⟨d6,a6,b6,e6⟩:=aX ns hl (here + 6) 2 (by omega);obtain ⟨d7,a7,b7,e7⟩:=aX ns hl (here + 7) 60 (by omega);obtain ⟨d8,a8,b8,e8⟩:=aX ns hl (here + 8) 2 (by omega);obtain ⟨d9,a9,b9,e9⟩:=aX ns hl (here + 9) 3 (by omega);obtain ⟨d10,a10,b10,e10⟩:=aX ns hl (here + 10) 5 (by omega);obtain ⟨n3,hn3,e3⟩:=my ns hl (here + 3);obtain ⟨p5,hp5,e5⟩:=pM ns hl (here + 5);obtain ⟨x1,m1,i1⟩:=gQ (l:=[.str "n",.str "m-1",.str "safe-a",.str "N_2"]) a1 b1;obtain ⟨x2,m2,i2⟩:=gQ (l:=[.str "5",.str "",.str "a!b~"]) a2 b2;obtain ⟨x6,m6,i6⟩:=gQ (l:=[.non,.int d7]) a6 b6;obtain ⟨x9,m9,i9⟩:=gQ (l:=[.str "any",.str "any",.str "near"]) a9 b9;have g1:∃ nm∈nm4,x1=.str nm:=by
  simp only [s_,I_,or_false] at m1;rcases m1 with rfl | rfl | rfl | rfl <;> exact ⟨_,by simp [nm4],rfl⟩
 have g2:∃ nm∈wts,x2=.str nm:=by
  simp only [s_,I_,or_false] at m2;rcases m2 with rfl | rfl | rfl <;> exact ⟨_,by simp [wts],rfl⟩
 have g6:∃ o:Option Int,(∀ i,o=a_ i→0≤i∧i≤9999)∧x6=eO o:=by
  simp only [s_,I_,or_false] at m6;rcases m6 with rfl | rfl
  · exact ⟨ck,by simp,rfl⟩
  · exact ⟨a_ d7,fun i hi=>by cases hi; omega,rfl⟩
 have g9:∃ R,(R=b_ "any"∨R=b_ "near")∧x9=.str R:=by
  simp only [s_,I_,or_false] at m9;rcases m9 with rfl | rfl | rfl
  · exact ⟨_,.inl rfl,rfl⟩
  · exact ⟨_,.inl rfl,rfl⟩
  · exact ⟨_,.inr rfl,rfl⟩
 obtain ⟨nm,h4,rfl⟩:=g1;have hnm:=Bf h4;obtain ⟨w,hw,rfl⟩:=g2;obtain ⟨o,ho,rfl⟩:=g6;obtain ⟨R,hR,rfl⟩:=g9
 let n:Note:=⟨nm,w,n3,d4 == 0,p5,o,d8 == 0,R,now + d0,now + d0 + d10⟩
 have q0:=J.n0;have q1:=J.n1;have gn:Good n:=⟨hnm,hw,me hn3,hp5,hR,ho,by show 0≤now + d0; omega,by show now + d0≤now + d0 + d10; omega,by show now + d0 + d10≤99; omega⟩
 let E15:Ev:=[a_ (.scr ns),a_ (.int z),a_ (.int m),ck,a_ (.int (now + d0)),a_ (.int k),a_ (.int here),a_ (.str nm),a_ (.str w),a_ (eO o),a_ (.bl (d4 == 0)),a_ (.tup [.str nm,.str w,.str n3,.bl (d4 == 0),.str p5]),a_ (.str R),a_ (.bl (d8 == 0)),a_ (.int (now + d0 + d10)),a_ (enc n)]
 have hc:=IJ (ρ:=E15.set 3 (a_ (.lst (js.map enc)))) J.g gn (by have:=J.l; omega) rfl rfl;have hmul:jx (.int 14) (.int k)=a_ (.ok (.int (14 * k))):=oh (.inl (by omega));have hrun:bP ((jb ns z m now).set 5 (a_ (.int k))) (js.map enc)=zR 3 cJ (rT (ae 15)) Bv E15 (js.map enc):=by
  have eB:bP=(eE (fz 6 (f2 ci (f2 ci (ae 1) (fC (.int 1))) (f2 jx (fC (.int 14)) (ae 5)))) (eE (fz 4 (f2 ci (ae 4) (ag ai 3 (ac (ae 0) (ac (ae 6) (ac (fC (.int 4)) ah)))))) (eE (fz 7 (f2 ixD (bJ (ac (fC (.str "n")) (ac (fC (.str "m-1")) (ac (fC (.str "safe-a")) (ac (fC (.str "N_2")) ah))))) (ag ai 3 (ac (ae 0) (ac (f2 ci (ae 6) (fC (.int 1))) (ac (fC (.int 4)) ah)))))) (eE (fz 8 (f2 ixD (bJ (ac (fC (.str "5")) (ac (fC (.str "")) (ac (fC (.str "a!b~")) ah)))) (ag ai 3 (ac (ae 0) (ac (f2 ci (ae 6) (fC (.int 2))) (ac (fC (.int 3)) ah)))))) (eE (fz 9 (f2 ixD (bJ (ac (fC .non) (ac (ag ai 3 (ac (ae 0) (ac (f2 ci (ae 6) (fC (.int 7))) (ac (fC (.int 60)) ah)))) ah))) (ag ai 3 (ac (ae 0) (ac (f2 ci (ae 6) (fC (.int 6))) (ac (fC (.int 2)) ah)))))) (eE (fz 10 (f2 eqX (ag ai 3 (ac (ae 0) (ac (f2 ci (ae 6) (fC (.int 4))) (ac (fC (.int 2)) ah)))) (fC (.int 0)))) (eE (fz 11 (cx (ac (ae 7) (ac (ae 8) (ac (ag ba 2 (ac (ae 0) (ac (f2 ci (ae 6) (fC (.int 3))) ah))) (ac (ae 10) (ac (ag cD 2 (ac (ae 0) (ac (f2 ci (ae 6) (fC (.int 5))) ah))) ah))))))) (eE (fz 12 (f2 ixD (bJ (ac (fC (.str "any")) (ac (fC (.str "any")) (ac (fC (.str "near")) ah)))) (ag ai 3 (ac (ae 0) (ac (f2 ci (ae 6) (fC (.int 9))) (ac (fC (.int 3)) ah)))))) (eE (fz 13 (f2 eqX (ag ai 3 (ac (ae 0) (ac (f2 ci (ae 6) (fC (.int 8))) (ac (fC (.int 2)) ah)))) (fC (.int 0)))) (eE (fz 14 (f2 ci (ae 4) (ag ai 3 (ac (ae 0) (ac (f2 ci (ae 6) (fC (.int 10))) (ac (fC (.int 5)) ah)))))) (eE (fz 15 (f2 ci (ae 11) (cx (ac (ae 9) (ac (ae 13) (ac (ae 12) (ac (ae 4) (ac (ae 14) ah)))))))) (zR 3 cJ (rT (ae 15)) Bv)))))))))))):=rfl;rw [eB];subst hh;simp [jb,eE,fz,p8,bnd,ag,ac,ah,ae,fC,f2,cx,bJ,vB,hmul,e0,e1,e2,e3,e4,e5,e6,e7,e8,e9,e10,i1,i2,i6,i9,eqX,eqS,E15,enc,n];simp [ci]
 rw [hrun];cases hf:(js.filter (fun o=>u_ (key o=key n))) with
 | nil =>
  rw [hf] at hc;refine ⟨E15,js ++ [n],now + d0,?_,rfl,J.add a0 b0 gn (by show now + d0 + d10≤39; omega) h4 rfl hf⟩;unfold zR;rw [hc];show (if (js.map enc).length < 100000 then _ else _)=_;rw [if_pos (by have:=J.l; simp; omega)];show a_ (Fo.nx _ (js.map enc ++ [enc n]))=_;simp
 | cons c r =>
  rw [hf] at hc;refine ⟨E15,js,now + d0,?_,rfl,J.keep a0 b0⟩;unfold zR;rw [hc];rfl
theorem qK (ns:List Int) (hl:ns.length≤63) (z m:Int):∀ (ks:List Int) (ρ:Ev) (now:Int) (B:Nat) (js:List Note),B + ks.length≤10→fgt [5,6,7,8,9,10,11,12,13,14,15] ρ=jb ns z m now→JI B js now →
 ∃ js' now',iZ 5 [5,6,7,8,9,10,11,12,13,14,15] bP (ks.map Dv.int) ρ (js.map enc)=a_ (.nx (jb ns z m now') (js'.map enc))∧JI (B + ks.length) js' now'
 | [],ρ,now,B,js,_,hρ,J=>⟨js,now,by show a_ (Fo.nx _ _)=_; rw [hρ],J⟩
 | k :: ks,ρ,now,B,js,hb,hρ,J=>by
  simp only [MX] at hb;obtain ⟨ρ',js',now',e,hρ',J'⟩:=vC ns hl z m now k J (by omega);obtain ⟨js2,now2,e2,J2⟩:=qK ns hl z m ks ρ' now' (B + 1) js' (by omega) hρ' J';refine ⟨js2,now2,?_,by rw [MX,show B + (ks.length + 1)=B + 1 + ks.length by omega]; exact J2⟩;show (match bP ((fgt _ ρ).set 5 (a_ (.int k))) (js.map enc) with
   | some (.nx ρ' xs')=>iZ 5 _ bP (ks.map Dv.int) ρ' xs'
   | o=>o)=_
  rw [hρ,e];exact e2
theorem jar_ok (ns:List Int) (hl:ns.length≤63) (z:Int) (m:Nat) (hm:m≤8):∃ js now,gl [.scr ns,.int z,.int m]=a_ (.ok (ej js))∧Jar js∧js.length≤m∧JI m js now:=by
 obtain ⟨d,a0,b0,e0⟩:=aX ns hl z (m + 1) (by omega);obtain ⟨c,rfl⟩:∃ c:Nat,d=(c:Int):=⟨d.toNat,by omega⟩;have hr:qV [.int (c:Int)]=a_ (.ok (((o_ c).map fun i:Nat=>(i:Int)).map Dv.int)):=by
  rw [EO (by omega),pN];simp
 obtain ⟨js,now,e,J⟩:=qK ns hl z m ((o_ c).map fun i:Nat=>(i:Int)) (jb ns z m 0) 0 0 [] (by simp; omega) rfl ⟨by simp,MK,by simp,by simp,by omega,by omega,by simp,by simp,by simp⟩;have hlen:((o_ c).map fun i:Nat=>(i:Int)).length=c:=by simp
 rw [hlen] at J;have J5:=J.l;refine ⟨js,now,?_,J.jar (by omega),by omega,⟨J.g,J.s,J.k,by omega,J.n0,by have:=J.n1; omega,J.m,J.u,J.nn⟩⟩;refine fT (d:=ej js) ?_;show p9 3 ah _ [a_ (.scr ns),a_ (.int z),a_ (.int m),ck,ck,ck,ck,ck,ck,ck,ck,ck,ck,ck,ck,ck]=_;have hsrc:(fun ρ=>bnd ((ac (ag ai 3 (ac (ae 0) (ac (ae 1) (ac (f2 ci (ae 2) (fC (.int 1))) ah)))) ah) ρ) qV) (jb ns z m 0)=a_ (.ok (((o_ c).map fun i:Nat=>(i:Int)).map Dv.int)):=by
  have h:(ac (ag ai 3 (ac (ae 0) (ac (ae 1) (ac (f2 ci (ae 2) (fC (.int 1))) ah)))) ah) (jb ns z m 0)=a_ (.ok [.int (c:Int)]):=by
   simp [bnd,ac,ah,ag,fC,ae,f2,jb,vB,e0]
  exact (yM (k:=qV) h).trans hr
 have hfor:qc 5 [5,6,7,8,9,10,11,12,13,14,15] (fun ρ=>bnd ((ac (ag ai 3 (ac (ae 0) (ac (ae 1) (ac (f2 ci (ae 2) (fC (.int 1))) ah)))) ah) ρ) qV) bP (jb ns z m 0) []=a_ (.nx (jb ns z m now) (js.map enc)):=by
  unfold qc;rw [hsrc];show (if imms (((o_ c).map fun i:Nat=>(i:Int)).map Dv.int)=d_ then _ else ck)=_;rw [if_pos (ow _)];exact e
 have hle:js.length≤100000:=by omega
 have hret:tW 3 (fB1 gL (ac (ae 3) ah)) (jb ns z m now) (js.map enc)=a_ (.rt (ej js)):=by
  unfold tW;rw [dD (aj (x:=.lst (js.map enc)) rfl aB)];rfl
 have hbody:(eE (fz 4 (fC (.int 0))) (eE (qc 5 [5,6,7,8,9,10,11,12,13,14,15] (fun ρ=>bnd ((ac (ag ai 3 (ac (ae 0) (ac (ae 1) (ac (f2 ci (ae 2) (fC (.int 1))) ah)))) ah) ρ) qV) bP) (tW 3 (fB1 gL (ac (ae 3) ah))))) [a_ (.scr ns),a_ (.int z),a_ (.int m),ck,ck,ck,ck,ck,ck,ck,ck,ck,ck,ck,ck,ck] []=a_ (.rt (ej js)):=by
  rw [vz (show fz 4 (fC (.int 0)) [a_ (.scr ns),a_ (.int z),a_ (.int m),ck,ck,ck,ck,ck,ck,ck,ck,ck,ck,ck,ck,ck] []=a_ (.nx (jb ns z m 0) []) from rfl)];rw [vz hfor];exact hret
 unfold p9;show (if ([]:List Dv).length≤100000 then _ else ck)=_;rw [if_pos (by simp)];exact (congrArg (fun o=>match o with | some (Fo.nx ρ' ds')=>a_ (Fl.nx (List.set ρ' 3 (a_ (Dv.lst ds')))) | some (Fo.rt d)=>a_ (Fl.rt d) | none=>ck) hbody).trans rfl
end J
namespace J
open PySem PySem.Spec PyProof.Rows L2 FD
theorem key_of (n:Note):dw [enc n]=a_ (.ok (ek n)):=by simp [dw,bu,xq,av,sq,aR,aA,bh,aS,bc,bV,bnd,bOr,cM,br,fB,toB,ag,am,ac,ah,ae,fC,f1,f2,ixD,atD,vOr,c0,fw,fIf,cx,bJ,fB1,fM,aG,aY,isN,dz,cO,aH,bK,bH,bM,enc,ek]
def kM (n:Note):List SM.Mx:=[a_ (.inr n.nm),a_ (.inr n.house),a_ (.inr n.path)]
theorem qM:∀ js:List Note,pk (js.map ek)=a_ (js.map kM)
 | []=>rfl
 | n :: js=>by
  show (match rB [.str n.nm,.str n.house,.str n.path],pk (js.map ek) with | some k,a_ ks=>a_ (k :: ks) | _,_=>ck)=_
  rw [qM js];rfl
theorem IK {js:List Note} (h:(js.map key).Nodup):(js.map kM).Nodup:=by
 unfold List.Nodup at h ⊢;rw [Ps] at h ⊢;refine h.imp fun {a b} hab e=>hab ?_;unfold kM at e;simp only [MC,Np,Sum.inr.injEq,and_true] at e;obtain ⟨e1,e2,e3⟩:=e;unfold key;rw [e1,e2,e3]
theorem xK {js:List Note} (J:Jar js):cL [ej js]=bo d_:=by
 have hl:=J.l;have e1:cp 1 [] (dR (ae 0)) (gN 0) ck (ag dw 1 (ac (ae 0) ah)) [a_ (ej js),ck]=a_ (.ok (.lst (js.map ek))) :=
  oa enc ek (src_of rfl) (by omega) fun n hn=>fR dw rfl (key_of n)
 have e2:kA [.lst (js.map ek)]=a_ (.ok (.int (js.length:Int))):=by
  show (match pk (js.map ek) with | some ks=>if ks.Nodup∧ks.length≤18 then (a_ (.ok (.int (ks.length:Nat))):Option (Rs Dv)) else ck | none=>ck)=_
  rw [qM];dsimp only;rw [if_pos ⟨IK J.k,by simp; omega⟩,KR]
 refine fT ?_;show cf [a_ (ej js),ck]=_;unfold cf;rw [ao (aW (ρ':=[a_ (ej js),a_ (.lst (js.map ek))]) e1 rfl)];refine cP ((bf ((dD (aj (x:=.lst (js.map ek)) rfl aB)).trans e2) (y:=.int js.length) (by show a_ (Rs.ok (Dv.int ((js.map ek).length:Int)))=_; rw [KR])).trans ?_);show a_ (Rs.ok (Dv.bl ((js.length:Int) == (js.length:Int))))=_;simp
theorem all_map {α:Type} (p:α→Bool) (l:List α):iW [.lst (l.map fun a=>Dv.bl (p a))]=bo (l.all p):=by
 unfold iW;dsimp only;rw [kU p l];dsimp only;rw [List.all_map];rfl
theorem qN {α:Type} (l:List α):iW [.lst (l.map fun _=>Dv.bl d_)]=bo d_:=by
 rw [all_map (fun _=>d_) l];simp
theorem FK {js:List Note} {i:Nat} (h:i < js.length):ixD (ej js) (.int i)=a_ (.ok (enc js[i])):=by
 show (match atD (js.map enc) (i:Int) with | some d=>_ | none=>_)=_
 unfold atD;rw [if_pos (by omega)];simp [h]
theorem FL (n:Note):ixD (enc n) (.int 8)=a_ (.ok (.int n.md)):=rfl
theorem FM (js:List Note) (hl:js.length≤18):(fun ρ=>bnd ((ac (fC (.int 1)) (ac (fB1 gU (ac (ae 0) ah)) ah)) ρ) vK) [a_ (ej js)]=a_ (.ok ((o_ (js.length - 1)).map fun i:Nat=>Dv.int (1 + (i:Int)))):=by
 have h:(ac (fC (.int 1)) (ac (fB1 gU (ac (ae 0) ah)) ah)) [a_ (ej js)]=a_ (.ok [.int 1,.int js.length]):=by
  simp [bnd,ac,ah,fB1,fC,ae,ej,gU]
 refine (yM (k:=vK) h).trans ?_;rw [EN (by omega),pN,show ((js.length:Int) - 1).toNat=js.length - 1 by omega]
def JC:FnE:=(f2 leX (f2 ixD (f2 ixD (ae 1) (f2 zo (ae 0) (fC (.int 1)))) (fC (.int 8))) (f2 ixD (f2 ixD (ae 1) (ae 0)) (fC (.int 8))))
theorem Bg {js:List Note} (J:Jar js) {i:Nat} (hi':i + 1 < js.length):JC [a_ (.int (1 + (i:Int))),a_ (ej js)]=a_ (.ok (.bl d_)):=by
 have hs:=J.s i hi';have h1:f2 ixD (ae 1) (f2 zo (ae 0) (fC (.int 1))) [a_ (.int (1 + (i:Int))),a_ (ej js)]=a_ (.ok (enc js[i])):=by
  have q:=FK (js:=js) (i:=i) (by omega);rw [show (i:Int)=1 + (i:Int) - 1 by omega] at q;exact q
 have h2:f2 ixD (ae 1) (ae 0) [a_ (.int (1 + (i:Int))),a_ (ej js)]=a_ (.ok (enc js[i + 1])):=by
  have q:=FK (js:=js) (i:=i + 1) hi';rw [show ((i + 1:Nat):Int)=1 + (i:Int) by omega] at q;exact q
 have h3:leX (.int js[i].md) (.int js[i + 1].md)=a_ (.ok (.bl d_)):=by simp [leX,hs]
 exact (bf ((bf h1 rfl).trans (FL _)) ((bf h2 rfl).trans (FL _))).trans h3
theorem IL {js:List Note} (J:Jar js):cF [("notes",0)] (fun ρ=>bnd ((ac (fC (.int 1)) (ac (fB1 gU (ac (ae 0) ah)) ah)) ρ) vK) ck JC [a_ (ej js)]=a_ (.ok (.lst ((o_ (js.length - 1)).map fun _=>Dv.bl d_))) :=
 gJ (fun i:Nat=>Dv.int (1 + (i:Int))) (fun _=>Dv.bl d_) (FM js J.l) (by have:=J.l; rw [On]; omega) fun i hi=>Bg J (by have:=Lk.mp hi; omega)
theorem Bh {js:List Note} (J:Jar js):fE [ej js]=bo d_ :=
 fT (d:=.bl d_) (cP ((dD (aj (IL J) aB)).trans (qN _)))
theorem t_a {js:List Note} (J:Jar js):cF [] (dR (ae 0)) ck (ag eY 1 (ac (ae 0) ah)) [a_ (ej js)]=a_ (.ok (.lst (js.map fun _=>Dv.bl d_))) :=
 gJ enc (fun _=>Dv.bl d_) (src_of rfl) (by have:=J.l; omega) fun n hn=>fR eY rfl (FF (J.g n hn))
theorem t_b {js:List Note} (J:Jar js):(bOr (br (fB (f1 (cO bK) (ae 0)))) (fB (f2 gtD (fB1 gU (ac (ae 0) ah)) (fC (.int 20))))) [a_ (ej js)]=a_ (.ok e_):=by
 have e3:¬ (20 < (js.length:Int)):=by have:=J.l; omega
 simp [av,sq,bOr,br,fB,f1,f2,cO,bK,ae,bnd,toB,fB1,ac,ah,fC,ej,gU,G5,e3]
theorem t_c {js:List Note} (J:Jar js):fB1 iW (ac (cF [] (dR (ae 0)) ck (ag eY 1 (ac (ae 0) ah))) ah) [a_ (ej js)]=bo d_:=(dD (aj (t_a J) aB)).trans (qN js)
theorem t_d {js:List Note} (J:Jar js):jh [a_ (ej js)]=a_ (.rt (.bl d_)):=by
 unfold jh;rw [ao (bL (t_b J))];rw [ao (bL (oW (k:=d_) (bU (t_c J))))];refine cP ?_;rw [yo (fR fE rfl (Bh J))];exact fR cL rfl (xK J)
theorem jar_y {js:List Note} (J:Jar js):eK [ej js]=bo d_:=fT (d:=.bl d_) (t_d J)
end J
namespace J
open PySem PySem.Spec PyProof.Rows L2 FD
abbrev zz1:FnA:=(ac (ae 0) (ac (ae 1) (ac (ae 2) (ac (ae 3) (ac (ae 4) ah)))))
abbrev zz2:FnA:=(ac (ae 0) (ac (ae 2) (ac (ae 3) (ac (ae 4) ah))))
theorem ke (n:Note) (k:Int):aZ [enc n,.int k]=bo (ended n k):=by
 cases h:n.ends <;> simp [aZ,bu,gH,sq,aA,bh,bV,bnd,toB,ae,fC,f2,ixD,atD,c0,dz,enc,eO,ended,h,leX]
theorem Bi:(pths.all fun p=>pths.all fun q=>okB (aU [.str p,.str q]))=d_:=by kernel_rfl
theorem IM {p q:Str} (h:p∈pths) (h':q∈pths):∃ k,aU [.str p,.str q]=bo k:=yF (aP (p:=fun q=>okB (aU [.str p,.str q])) (aP (p:=fun p=>pths.all fun q=>okB (aU [.str p,.str q])) Bi h) h')
def wiB (p q:Str):Bool:=okY (aw [.str p,.str q])
def unB (p q:Str):Bool:=okY (aU [.str p,.str q])
theorem Bj {p q:Str} (h:p∈En) (h':q∈En):aw [.str p,.str q]=bo (wiB p q):=by
 obtain ⟨k,e⟩:=Jx h h';unfold wiB;rw [e];cases k <;> rfl
theorem Bk {p q:Str} (h:p∈pths) (h':q∈pths):aU [.str p,.str q]=bo (unB p q):=by
 obtain ⟨k,e⟩:=IM h h';unfold unB;rw [e];cases k <;> rfl
def oE (o N:Note) (now:Int):Bool:=o.S && (!ended o now && (seq o.nm N.nm && ((wiB N.house o.house || wiB o.house N.house) && unB N.path o.path)))
theorem i0 (n:Note):ixD (enc n) (.int 0)=a_ (.ok (.str n.nm)):=rfl
theorem i2 (n:Note):ixD (enc n) (.int 2)=a_ (.ok (.str n.house)):=rfl
theorem i4 (n:Note):ixD (enc n) (.int 4)=a_ (.ok (.str n.path)):=rfl
theorem i6 (n:Note):ixD (enc n) (.int 6)=a_ (.ok (.bl n.S)):=rfl
theorem yN {c:FnB} {rest:FnS} {ρ:Ev} {b:Bool} (hc:c ρ=a_ (.ok b)):av (aR c (aA (fC (.bl e_))) (fun ρ=>a_ (.nx ρ))) rest ρ=if b=d_ then a_ (.rt (.bl e_)) else rest ρ:=by
 unfold av aR;rw [hc];cases b <;> rfl
theorem bAnd_o {a b:FnB} {ρ:Ev} {x y:Bool} (ha:a ρ=a_ (.ok x)) (hb:b ρ=a_ (.ok y)):cM a b ρ=a_ (.ok (x && y)):=by
 unfold cM; rw [ha]; cases x
 · rfl
 · exact hb
theorem jY {a:FnB} {ρ:Ev} {x:Bool} (ha:a ρ=a_ (.ok x)):br a ρ=a_ (.ok (!x)):=by
 unfold br; rw [ha]; rfl
theorem rQ {o N:Note} (go:Good o) (gN:Good N) (now:Int):ij [enc o,enc N,.int now]=bo (oE o N now):=by
 have w1:=Bj gN.house go.house;have w2:=Bj go.house gN.house;have u1:=Bk gN.path go.path;have c1:(bOr (br (fB (f2 ixD (ae 0) (fC (.int 6))))) (bOr (fB (ag aZ 2 (ac (ae 0) (ac (ae 2) ah)))) (fB (f2 neX (f2 ixD (ae 0) (fC (.int 0))) (f2 ixD (ae 1) (fC (.int 0))))))) [a_ (enc o),a_ (enc N),a_ (.int now)]=a_ (.ok (!o.S || (ended o now || !seq o.nm N.nm))) :=
  vy (jY (bU (k:=o.S) ((bf (x:=enc o) (y:=.int 6) rfl rfl).trans (i6 o)))) (vy (bU (fA aZ rfl rfl (ke o now))) (bU ((bf (x:=.str o.nm) (y:=.str N.nm) rfl rfl).trans rfl)))
 have c2:(cM (br (fB (ag aw 2 (ac (f2 ixD (ae 1) (fC (.int 2))) (ac (f2 ixD (ae 0) (fC (.int 2))) ah))))) (br (fB (ag aw 2 (ac (f2 ixD (ae 0) (fC (.int 2))) (ac (f2 ixD (ae 1) (fC (.int 2))) ah)))))) [a_ (enc o),a_ (enc N),a_ (.int now)]=a_ (.ok (!wiB N.house o.house && !wiB o.house N.house)) :=
  bAnd_o (jY (bU (fA aw rfl rfl w1))) (jY (bU (fA aw rfl rfl w2)))
 refine fT ?_;show ii [a_ (enc o),a_ (enc N),a_ (.int now)]=_;unfold ii;rw [yN c1,yN c2,xJ (fA aU rfl rfl u1)];unfold oE;cases o.S <;> cases ended o now <;> cases seq o.nm N.nm <;> cases wiB N.house o.house <;> cases wiB o.house N.house <;> rfl
end J
namespace J
open PySem PySem.Spec PyProof.Rows L2 FD
theorem vD {α:Type} (p:α→Bool) (l:List α):Ac [.lst (l.map fun a=>Dv.bl (p a))]=bo (l.any p):=by
 show (match eI (l.map fun a=>Dv.bl (p a)) with | some bs=>a_ (Rs.ok (Dv.bl (bs.any id))) | none=>ck)=_
 rw [kU];simp
section
variable {t:List Dv} {h p:Str} {O:Dv} {nm w:Str} {H P u l:Dv} {S:Bool} {R:Str} {s:Bool} {house path:Str} {ex:Bool} {wd:Dv} {now:Int} {js:List Note} {N:Note}
def wv (wd:Dv) (s:Bool) (js:List Note) (N:Note) (now:Int):Dv:=match wd with
 | .non=>if (!s && js.any fun o=>oE o N now)=d_ then .str "shadowed" else if ended N now=d_ then .str "gone" else .str "kept"
 | d=>d
theorem yO {c:FnB} {d:Dv} {rest:FnS} {ρ:Ev} {b:Bool} (hc:c ρ=a_ (.ok b)):av (aR c (aA (fC d)) (fun ρ=>a_ (.nx ρ))) rest ρ=if b=d_ then a_ (.rt d) else rest ρ:=by
 unfold av aR;rw [hc];cases b <;> rfl
theorem vE (W:Wt t h p O nm w H P u l S R s house path ex wd) (hw:wd≠.non):bq [.tup t,ej js,akn s h p O,gvn nm w H P u l S R,.int now]=a_ (.ok wd):=by
 obtain ⟨x,hx⟩:∃ x,wd=.str x:=by
  rcases W.win with e | ⟨x,_,e⟩
  · exact absurd e hw
  · exact ⟨_,e⟩
 subst hx;refine jR ?_;show d5 [a_ (.tup t),a_ (ej js),a_ (akn s h p O),a_ (gvn nm w H P u l S R),a_ (.int now),ck,ck]=_;unfold d5;have v5:am aL 3 (ac (ae 0) (ac (ae 2) (ac (ae 3) ah))) [a_ (.tup t),a_ (ej js),a_ (akn s h p O),a_ (gvn nm w H P u l S R),a_ (.int now),ck,ck]=a_ (.ok (.str x)):=cE aL (aj rfl (aj rfl (aj rfl aB))) rfl W.why;rw [ao (aW v5 rfl)];simp only [Mq,Mp];rfl
theorem FN (ht:t∈iQ rules) (a:Ak h p O) (g:Gv nm w H P u l S R) (n0:0≤now) (n1:now≤9999) (W:Wt t h p O nm w H P u l S R s house path ex .non) (hN:enc N=ntn nm w house ex path (yK u l now) S R now) (gN:Good N) (gj:∀ n∈js,Good n) (hl:js.length≤18) :
 bq [.tup t,ej js,akn s h p O,gvn nm w H P u l S R,.int now]=a_ (.ok (wv .non s js N now)):=by
 have em:=yL ht a g n0 n1 W;rw [← hN] at em;refine jR ?_;show d5 [a_ (.tup t),a_ (ej js),a_ (akn s h p O),a_ (gvn nm w H P u l S R),a_ (.int now),ck,ck]=_;unfold d5;have v5:am aL 3 (ac (ae 0) (ac (ae 2) (ac (ae 3) ah))) [a_ (.tup t),a_ (ej js),a_ (akn s h p O),a_ (gvn nm w H P u l S R),a_ (.int now),ck,ck]=a_ (.ok .non):=cE aL (aj rfl (aj rfl (aj rfl aB))) rfl W.why;rw [ao (aW v5 rfl)];simp only [Mq,Mp];rw [ao (bL (show fB (f2 dz (ae 5) (fC .non)) [a_ (.tup t),a_ (ej js),a_ (akn s h p O),a_ (gvn nm w H P u l S R),a_ (.int now),a_ .non,ck]=a_ (.ok e_) from rfl))];have v6:am cH 4 (ac (ae 0) (ac (ae 2) (ac (ae 3) (ac (ae 4) ah)))) [a_ (.tup t),a_ (ej js),a_ (akn s h p O),a_ (gvn nm w H P u l S R),a_ (.int now),a_ .non,ck]=a_ (.ok (enc N)):=cE cH (aj rfl (aj rfl (aj rfl (aj rfl aB)))) rfl em;rw [ao (aW v6 rfl)];simp only [Mq,Mp];have c1:(cM (br (fB (f2 ixD (ae 2) (fC (.int 0))))) (fB (fB1 Ac (ac (cF [("now",4),("note",6)] (dR (ae 1)) ck (ag ij 3 (ac (ae 0) (ac (ae 2) (ac (ae 1) ah))))) ah)))) [a_ (.tup t),a_ (ej js),a_ (akn s h p O),a_ (gvn nm w H P u l S R),a_ (.int now),a_ .non,a_ (enc N)]=a_ (.ok (!s && js.any fun o=>oE o N now)):=by
  refine bAnd_o (jY (bU (k:=s) rfl)) (bU ((dD (aj (x:=.lst (js.map fun o=>Dv.bl (oE o N now))) ?_ aB)).trans (vD _ _)));exact gJ enc (fun o=>Dv.bl (oE o N now)) (src_of rfl) (by omega) fun o ho=>rP ij rfl rfl rfl (rQ (gj o ho) gN now)
 rw [yO c1];have c2:fB (ag aZ 2 (ac (ae 6) (ac (ae 4) ah))) [a_ (.tup t),a_ (ej js),a_ (akn s h p O),a_ (gvn nm w H P u l S R),a_ (.int now),a_ .non,a_ (enc N)]=a_ (.ok (ended N now)):=bU (fA aZ rfl rfl (ke N now));rw [yO c2];show _=a_ (Fl.rt (if (!s && js.any fun o=>oE o N now)=d_ then .str "shadowed" else if ended N now=d_ then .str "gone" else .str "kept"));split
 · rfl
 · split <;> rfl
end
end J
namespace J
open PySem PySem.Spec PyProof.Rows L2 FD
def Bl (js:List Note) (n:Note):List Note:=match js.filter (fun o=>u_ (key o=key n)) with
 | []=>js ++ [n]
 | o :: _=>js.map fun x=>if key x=key n then { n with md:=o.md } else x
theorem FP {js:List Note} {n:Note} (hg:∀ o∈js,Good o) (gn:Good n) (hl:js.length≤18):xt [ej js,enc n]=a_ (.ok (ej (Bl js n))):=by
 have t1:∀ o∈js,∀ (r:Ev),(fB (f2 eqX (ag dw 1 (ac (ae 0) ah)) (ag dw 1 (ac (ae 1) ah)))) (a_ (enc o) :: a_ (enc n) :: r)=a_ (.ok (u_ (key o=key n))):=fun o ho r=>bU ((bf (fR dw rfl (key_of o)) (fR dw rfl (key_of n))).trans (eq_ek (hg o ho) gn).1);have e1:=jQ (cs:=[("note",1)]) (src:=dR (ae 0)) (tst:=(fB (f2 eqX (ag dw 1 (ac (ae 0) ah)) (ag dw 1 (ac (ae 1) ah))))) (elt:=ae 0) (ρ:=[a_ (ej js),a_ (enc n),ck,ck]) enc (fun o=>u_ (key o=key n)) enc (src_of rfl) (by omega) fun o ho=>⟨t1 o ho [],rfl⟩;unfold Bl;cases hf:js.filter (fun o=>u_ (key o=key n)) with
 | nil =>
  rw [hf] at e1;refine fT (d:=ej (js ++ [n])) ?_;show pJ [a_ (ej js),a_ (enc n),ck,ck]=_;unfold pJ;rw [ao (aW e1 rfl)];simp only [Mq,Mp];refine lV ?_;rw [xl (by kernel_rfl)];refine cP ?_;have hle:js.length + 1≤100000:=by omega
  simp [av,sq,aR,aA,bh,aS,bc,bV,bnd,bOr,cM,br,fB,toB,ag,am,ac,ah,ae,fC,f1,f2,ixD,atD,vOr,c0,fw,fIf,cx,bJ,fB1,fM,aG,aY,isN,dz,cO,aH,bK,bH,bM,ej,ci,hle]
 | cons o rest =>
  rw [hf] at e1;have ho:o∈js:=(Ll.mp (hf ▸ on:o∈js.filter _)).1;refine fT (d:=ej (js.map fun x=>if key x=key n then { n with md:=o.md } else x)) ?_;show pJ [a_ (ej js),a_ (enc n),ck,ck]=_;unfold pJ;rw [ao (aW e1 rfl)];simp only [Mq,Mp];have hne:(fB (f2 eqX (ae 2) (bJ ah))) [a_ (ej js),a_ (enc n),a_ (.lst ((o :: rest).map enc)),ck]=a_ (.ok e_):=by
   have i1:It1 2 (.lst ((o :: rest).map enc)):=ve fun d hd=>by
    obtain ⟨x,hx,rfl⟩:=KY.mp hd;have:x∈js.filter (fun o=>u_ (key o=key n)):=by rw [hf]; exact hx
    exact ou (hg x (Ll.mp this).1)
   have i2:=i1.okP (by omega);have i3:okP (.lst [])=d_:=by kernel_rfl
   have i4:eqX (.lst ((o :: rest).map enc)) (.lst [])=bo e_:=by
    unfold eqX;rw [show eqS (.lst ((o :: rest).map enc)) (.lst [])=ck from rfl,i2,i3];simp [bW,toPys,Ld,L_]
   exact bU i4
  rw [ao (bL hne)];have hnew:(f2 ci (f2 ci (eW (ae 1) dv (cG (fC (.int 8)))) (cx (ac (f2 ixD (f2 ixD (ae 2) (fC (.int 0))) (fC (.int 8))) ah))) (eW (ae 1) (cG (f2 ci (fC (.int 8)) (fC (.int 1)))) dv)) [a_ (ej js),a_ (enc n),a_ (.lst ((o :: rest).map enc)),ck]=a_ (.ok (enc { n with md:=o.md })):=by kernel_rfl
  rw [ao (aW hnew rfl)];simp only [Mq,Mp];refine cP ?_;have e2:=gJ (cs:=[("note",1),("newer",3)]) (src:=dR (ae 0)) (elt:=(fIf (fB (f2 eqX (ag dw 1 (ac (ae 0) ah)) (ag dw 1 (ac (ae 1) ah)))) (ae 2) (ae 0))) (ρ:=[a_ (ej js),a_ (enc n),a_ (.lst ((o :: rest).map enc)),a_ (enc { n with md:=o.md })]) enc (fun x=>enc (if key x=key n then { n with md:=o.md } else x)) (src_of rfl) (by omega) fun x hx=>by
   have t:=t1 x hx [a_ (enc { n with md:=o.md })];by_cases hk:key x=key n
   · rw [if_pos hk];rw [decide_eq_true hk] at t;exact (Hl t).trans rfl
   · rw [if_neg hk];rw [decide_eq_false hk] at t;exact (Hm t).trans rfl
  rw [dD (aj e2 aB)];show a_ (Rs.ok (Dv.tup _))=_;simp [ej]
def swp (js:List Note) (now:Int):List Note:=js.filter fun n=>!ended n now
theorem lD {js:List Note} {now:Int} (hl:js.length≤18):bC [ej js,.int now]=a_ (.ok (ej (swp js now))):=by
 refine fT ?_;show cT [a_ (ej js),a_ (.int now)]=_;unfold cT;refine cP ?_;have e:(cF [("now",1)] (dR (ae 0)) (a_ (br (fB (ag aZ 2 (ac (ae 0) (ac (ae 1) ah)))))) (ae 0)) [a_ (ej js),a_ (.int now)]=a_ (.ok (.lst ((swp js now).map enc))) :=
  ju enc _ enc (src_of rfl) (by omega) fun n hn=>⟨jY (bU (fA aZ rfl rfl (ke n now))),rfl⟩
 exact (dD (aj e aB)).trans rfl
end J
namespace J
open PySem PySem.Spec PyProof.Rows L2 FD
section
variable {T A Gd:Dv} {now:Int} {js:List Note} {N:Note} {d:Dv}
def E8 (T:Dv) (js:List Note) (A Gd:Dv) (now:Int) (x5 x6 x7:Option Dv):Ev:=[a_ T,a_ (ej js),a_ A,a_ Gd,a_ (.int now),x5,x6,x7]
theorem mE (hl:js.length≤18) (hw:bq [T,ej js,A,Gd,.int now]=a_ (.ok d)) {f:FnS} {r:Option Fl} (h:f (E8 T js A Gd now (a_ d) (a_ (ej (swp js now))) ck)=r) :
 av (bc 5 (am bq 5 zz1)) (av (bc 6 (ag bC 2 (ac (ae 1) (ac (ae 4) ah)))) f) (E8 T js A Gd now ck ck ck)=r:=by
 have s5:bc 5 (am bq 5 zz1) (E8 T js A Gd now ck ck ck)=a_ (.nx (E8 T js A Gd now (a_ d) ck ck)):=aW (cE bq (aj rfl (aj rfl (aj rfl (aj rfl (aj rfl aB))))) rfl hw) rfl;have s6:bc 6 (ag bC 2 (ac (ae 1) (ac (ae 4) ah))) (E8 T js A Gd now (a_ d) ck ck)=a_ (.nx (E8 T js A Gd now (a_ d) (a_ (ej (swp js now))) ck)):=aW (fA bC rfl rfl (lD hl)) rfl;rw [ao s5,ao s6];exact h
theorem yP:(swp js now).length≤js.length:=Mv _ _
theorem lE (hl:js.length≤18) (hw:bq [T,ej js,A,Gd,.int now]=a_ (.ok d)) (hk:eqX d (.str "kept")=bo e_) (hg:eqX d (.str "gone")=bo e_):cu [T,ej js,A,Gd,.int now]=a_ (.ok (ej (swp js now))):=by
 refine jR ?_;show cV (E8 T js A Gd now ck ck ck)=_;unfold cV;refine mE hl hw ?_;have c1:fB (f2 eqX (ae 5) (fC (.str "kept"))) (E8 T js A Gd now (a_ d) (a_ (ej (swp js now))) ck)=a_ (.ok e_):=bU ((bf (x:=d) (y:=.str "kept") rfl rfl).trans hk);have c2:fB (f2 eqX (ae 5) (fC (.str "gone"))) (E8 T js A Gd now (a_ d) (a_ (ej (swp js now))) ck)=a_ (.ok e_):=bU ((bf (x:=d) (y:=.str "gone") rfl rfl).trans hg);rw [ao (bL c1),ao (bL c2)];rfl
theorem oy (hl:js.length≤18) (gj:∀ n∈js,Good n) (gN:Good N) (hw:bq [T,ej js,A,Gd,.int now]=a_ (.ok (.str "kept"))) (em:cH [T,A,Gd,.int now]=a_ (.ok (enc N))):cu [T,ej js,A,Gd,.int now]=a_ (.ok (ej (Bl (swp js now) N))):=by
 refine jR ?_;show cV (E8 T js A Gd now ck ck ck)=_;unfold cV;refine mE hl hw ?_;have c1:fB (f2 eqX (ae 5) (fC (.str "kept"))) (E8 T js A Gd now (a_ (.str "kept")) (a_ (ej (swp js now))) ck)=a_ (.ok d_):=bU ((bf (x:=.str "kept") (y:=.str "kept") rfl rfl).trans (by kernel_rfl));refine lV ?_;rw [xl c1];have v:am cH 4 zz2 (E8 T js A Gd now (a_ (.str "kept")) (a_ (ej (swp js now))) ck)=a_ (.ok (enc N)):=cE cH (aj rfl (aj rfl (aj rfl (aj rfl aB)))) rfl em;exact cP (fA xt rfl v (FP (fun o ho=>gj o (Ll.mp ho).1) gN (K5 yP hl)))
theorem IN {o:Note} (go:Good o) (gN:Good N):neX (ek o) (ek N)=bo (!u_ (key o=key N)):=(eq_ek go gN).2
theorem oz (hl:js.length≤18) (gj:∀ n∈js,Good n) (gN:Good N) (hw:bq [T,ej js,A,Gd,.int now]=a_ (.ok (.str "gone"))) (em:cH [T,A,Gd,.int now]=a_ (.ok (enc N))):cu [T,ej js,A,Gd,.int now]=a_ (.ok (ej ((swp js now).filter fun o=>!u_ (key o=key N)))):=by
 have sl:(swp js now).length≤18:=K5 yP hl;refine jR ?_;show cV (E8 T js A Gd now ck ck ck)=_;unfold cV;refine mE hl hw ?_;have c1:fB (f2 eqX (ae 5) (fC (.str "kept"))) (E8 T js A Gd now (a_ (.str "gone")) (a_ (ej (swp js now))) ck)=a_ (.ok e_):=bU ((bf (x:=.str "gone") (y:=.str "kept") rfl rfl).trans (by kernel_rfl));have c2:fB (f2 eqX (ae 5) (fC (.str "gone"))) (E8 T js A Gd now (a_ (.str "gone")) (a_ (ej (swp js now))) ck)=a_ (.ok d_):=bU ((bf (x:=.str "gone") (y:=.str "gone") rfl rfl).trans (by kernel_rfl));rw [ao (bL c1)];refine lV ?_;rw [xl c2];have v:am cH 4 zz2 (E8 T js A Gd now (a_ (.str "gone")) (a_ (ej (swp js now))) ck)=a_ (.ok (enc N)):=cE cH (aj rfl (aj rfl (aj rfl (aj rfl aB)))) rfl em;have s7:bc 7 (ag dw 1 (ac (am cH 4 zz2) ah)) (E8 T js A Gd now (a_ (.str "gone")) (a_ (ej (swp js now))) ck)=a_ (.nx (E8 T js A Gd now (a_ (.str "gone")) (a_ (ej (swp js now))) (a_ (ek N)))):=aW (fR dw v (key_of N)) rfl;rw [ao s7];refine cP ?_;have e:(cF [("ended",7)] (dR (ae 6)) (a_ (fB (f2 neX (ag dw 1 (ac (ae 0) ah)) (ae 1)))) (ae 0)) (E8 T js A Gd now (a_ (.str "gone")) (a_ (ej (swp js now))) (a_ (ek N)))=a_ (.ok (.lst (((swp js now).filter fun o=>!u_ (key o=key N)).map enc))) :=
  ju enc (fun o=>!u_ (key o=key N)) enc (src_of rfl) (by omega) fun o ho=>⟨bU ((bf (x:=ek o) (y:=ek N) (fR dw rfl (key_of o)) rfl).trans (IN (gj o (Ll.mp ho).1) gN)),rfl⟩
 exact (dD (aj e aB)).trans rfl
end
end J
namespace J
open PySem PySem.Spec PyProof.Rows L2 FD
section
variable {T A X Jd N:Dv} {d:Dv} {c:Nat} {wy:Int}
theorem IP (h:eK [Jd]=bo d_):cC [Jd]=a_ (.ok .non):=by simp [cC,eV,gG,av,sq,aR,aA,bh,aS,bc,bV,bnd,bOr,cM,br,fB,toB,ag,am,ac,ah,ae,fC,h]
theorem dY (F:List Dv→Option (Rs Dv)) {a:Dv} {f:FnE} {ρ:Ev} (hf:f ρ=a_ (.ok a)) (h:F [a]=a_ (.ok .non)):aS (am F 1 (ac f ah)) ρ=a_ (.nx ρ):=p4 (cE F (aj hf aB) rfl h)
def E6 (T Jd A X N:Dv) (x:Option Dv):Ev:=[a_ T,a_ Jd,a_ A,a_ X,a_ N,x]
theorem rwy (h1:dX [T]=bo d_) (h2:eK [Jd]=bo d_) (h3:el [A]=bo d_) {Gd:Dv} (h4:aJ [X]=a_ (.ok Gd)) (h:bj [N]=bo d_):aC [T,Jd,A,X,N]=a_ (.ok Gd):=jR (by
 show bB (E6 T Jd A X N ck)=_;unfold bB;rw [ao (dY bN rfl (Gk h1)),ao (dY cC rfl (IP h2)),ao (dY cB rfl (Gm h3))];have s5:bc 5 (am aJ 1 (ac (ae 3) ah)) (E6 T Jd A X N ck)=a_ (.nx (E6 T Jd A X N (a_ Gd))):=aW (cE aJ (aj rfl aB) rfl h4) rfl;rw [ao s5,ao (dY bg rfl (xC h))];rfl)
def E7 (T:Dv) (js:List Note) (A X:Dv) (now:Int) (x5 x6:Option Dv):Ev:=[a_ T,a_ (ej js),a_ A,a_ X,a_ (.int now),x5,x6]
theorem Bm (hl:js.length≤18) {x5 x6:Option Dv}:fB (fB1 Ac (ac (cF [("now",4)] (dR (ae 1)) ck (f2 gtD (f2 ixD (ae 0) (fC (.int 9))) (ae 1))) ah)) (E7 T js A X now x5 x6)=a_ (.ok (js.any fun o=>u_ (o.us > now))):=by
 refine bU ((dD (aj (x:=.lst (js.map fun o=>Dv.bl (u_ (o.us > now)))) ?_ aB)).trans (vD _ _));exact gJ enc (fun o=>Dv.bl (u_ (o.us > now))) (src_of rfl) (by omega) fun o ho=>(bf (x:=.int o.us) (y:=.int now) rfl rfl).trans rfl
theorem s5T (hr:aC [T,ej js,A,X,.int now]=a_ (.ok Gd)):bc 5 (am aC 5 zz1) (E7 T js A X now ck ck)=a_ (.nx (E7 T js A X now (a_ Gd) ck)):=aW (cE aC (aj rfl (aj rfl (aj rfl (aj rfl (aj rfl aB))))) rfl hr) rfl
theorem xL {ys:List Note} (hl:js.length≤18) (hr:aC [T,ej js,A,X,.int now]=a_ (.ok Gd)) (h:(js.any fun o=>u_ (o.us > now))=e_) (ht:cu [T,ej js,A,Gd,.int now]=a_ (.ok (ej ys))) (hy:ys.length≤20):bT [T,ej js,A,X,.int now]=a_ (.ok (ej ys)):=jR (by
 show jq (E7 T js A X now ck ck)=_;unfold jq;rw [ao (s5T hr)];have c:=Bm (T:=T) (A:=A) (X:=X) (now:=now) (x5:=a_ Gd) (x6:=ck) hl;rw [h] at c;rw [ao (bL c)];have s6:bc 6 (am cu 5 (ac (ae 0) (ac (ae 1) (ac (ae 2) (ac (ae 5) (ac (ae 4) ah)))))) (E7 T js A X now (a_ Gd) ck)=a_ (.nx (E7 T js A X now (a_ Gd) (a_ (ej ys)))):=aW (cE cu (aj rfl (aj rfl (aj rfl (aj rfl (aj rfl aB))))) rfl ht) rfl;have nn:aN [ej ys]=a_ (.ok .non):=by
  have:¬ ((ys.length:Int) > 20):=by omega
  unfold aN eV;show (match aM [a_ (ej ys)] with | some (.nx _)=>a_ (Rs.ok Dv.non) | some (.rt d)=>a_ (Rs.ok d) | some (.exc c)=>a_ (Rs.exc c) | none=>ck)=_
  unfold aM;have c2:fB (f2 gtD (fB1 gU (ac (ae 0) ah)) (fC (.int 20))) [a_ (ej ys)]=a_ (.ok e_):=by
   refine bU ((bf (x:=.int (ys.length:Int)) (y:=.int 20) ((dD (aj (x:=ej ys) rfl aB)).trans ?_) rfl).trans ?_)
   · show a_ (Rs.ok (Dv.int ((ys.map enc).length:Int)))=_;rw [KR]
   · show a_ (Rs.ok (Dv.bl (u_ ((ys.length:Int) > 20))))=_;rw [decide_eq_false this]
  rw [bL c2]
 rw [ao s6,ao (dY aN rfl nn)];rfl)
end
end J
namespace J
open PySem PySem.Spec PyProof.Rows L2 FD
section
variable {t:List Dv} {h p:Str} {O:Dv} {nm w:Str} {H P u l:Dv} {S:Bool} {R:Str} {s:Bool} {house path:Str} {ex:Bool} {wd:Dv} {now:Int} {js:List Note}
theorem IQ (g:Gv nm w H P u l S R) (n0:0≤now):∃ e:Option Int,eO e=yK u l now∧∀ i,e=a_ i→0≤i∧i≤9999:=by
 rcases FB g n0 with q | ⟨i,h0,h1,q⟩
 · exact ⟨ck,q.symm,fun i hi=>by cases hi⟩
 · exact ⟨a_ i,q.symm,fun j hj=>by cases hj; exact ⟨h0,h1⟩⟩
theorem Bn (g:Gv nm w H P u l S R) (W:Wt t h p O nm w H P u l S R s house path ex wd) (n0:0≤now) (n1:now≤99):∃ N:Note,enc N=ntn nm w house ex path (yK u l now) S R now∧Good N∧N.us=now∧N.md=now∧N.nm=nm∧N.house=house∧N.ex=ex∧N.S=S∧N.R=R∧N.path=path:=by
 obtain ⟨e,he,hb⟩:=IQ (now:=now) g n0;refine ⟨⟨nm,w,house,ex,path,e,S,R,now,now⟩,?_,⟨g.nm,g.w,W.hs,W.ph,g.r,hb,n0,Sq _,n1⟩,rfl,rfl,rfl,rfl,rfl,rfl,rfl,rfl⟩;show Dv.tup [.str nm,.str w,.str house,.bl ex,.str path,eO e,.bl S,.str R,.int now,.int now]=_;rw [he]
structure Out (t:List Dv) (A Gd:Dv) (now:Int) (nm:Str) (s:Bool) (h:Str) (near:Prop) (wd:Str) (add:List Note):Prop where
 word:∀ X:List Note,(∀ n∈X,Good n)→X.length≤18→(∀ o∈X,o.nm≠nm)→bq [.tup t,ej X,A,Gd,.int now]=a_ (.ok (.str wd))
 take:∀ X:List Note,(∀ n∈X,Good n)→X.length≤18→(∀ o∈X,o.nm≠nm)→cu [.tup t,ej X,A,Gd,.int now]=a_ (.ok (ej (swp X now ++ add)))
 again:∀ X:List Note,(∀ n∈X,Good n)→X.length≤17→(∀ o∈X,o.nm≠nm∧ended o now=e_)→cu [.tup t,ej (X ++ add),A,Gd,.int now]=a_ (.ok (ej (X ++ add)))
 good:∀ n∈add,Good n∧n.us=now∧n.md=now∧n.nm=nm∧ended n now=e_
 len:add.length≤1
 kind:(wd∈[b_ "foreign",b_ "open",b_ "unsafe",b_ "marked",b_ "far"]∧add=[])∨∃ N:Note,cH [.tup t,A,Gd,.int now]=a_ (.ok (enc N))∧Good N∧N.us=now∧N.nm=nm∧aw [.str h,.str N.house]=bo d_∧(N.ex=d_→h=N.house)∧(N.S && !s)=e_∧(N.R=b_ "near"→near)∧((wd=b_ "gone"∧add=[])∨(wd=b_ "kept"∧add=[N]))
theorem yQ {o N:Note} (h:o.nm≠N.nm):oE o N now=e_:=by
 unfold oE;have:seq o.nm N.nm=e_:=by
  cases q:seq o.nm N.nm
  · rfl
  · exact absurd (eC q) h
 rw [this];cases o.S <;> cases ended o now <;> rfl
theorem Bo {X:List Note} {N:Note} (h:∀ o∈X,o.nm≠N.nm):Bl X N=X ++ [N]:=by
 unfold Bl;have e:X.filter (fun o=>u_ (key o=key N))=[]:=M_.mpr fun o ho=>by
  rw [decide_eq_true_eq];intro z;unfold key at z;simp only [MC] at z;exact h o ho z.1
 rw [e]
theorem Bp {X:List Note} {N:Note} (h:∀ o∈X,o.nm≠N.nm):Bl (X ++ [N]) N=X ++ [N]:=by
 unfold Bl;have hk:∀ o∈X,¬ key o=key N:=fun o ho z=>by
  unfold key at z;simp only [MC] at z;exact h o ho z.1
 have e:(X ++ [N]).filter (fun o=>u_ (key o=key N))=[N]:=by
  rw [RF,M_.mpr fun o ho=>by rw [decide_eq_true_eq]; exact hk o ho];simp
 rw [e];dsimp only;rw [LP];congr 1
 · conv=>rhs; rw [← List.map_id X]
   exact List.map_congr_left fun o ho=>by rw [if_neg (hk o ho)]; rfl
 · simp
theorem swp_all {X:List Note} (h:∀ o∈X,ended o now=e_):swp X now=X:=Rh.mpr fun o ho=>by rw [h o ho]; rfl
theorem vF {X:List Note} {N:Note} (h:∀ o∈X,o.nm≠N.nm):(X.filter fun o=>!u_ (key o=key N))=X:=Rh.mpr fun o ho=>by
 have:¬ key o=key N:=fun z=>by
  unfold key at z;simp only [MC] at z;exact h o ho z.1
 simp [this]
theorem out_ok (ht:t∈iQ rules) (a:Ak h p O) (g:Gv nm w H P u l S R) (n0:0≤now) (n1:now≤99):∃ wd add,Out t (akn s h p O) (gvn nm w H P u l S R) now nm s h (al [.tup t,akn s h p O]=bo d_) wd add:=by
 obtain ⟨house,path,ex,wd,W⟩:=Iz ht a g s;rcases W.win with rfl | ⟨x,hx,rfl⟩
 · obtain ⟨N,hN,gN,hus,hmd,hnm,hho,hex,hS,hR,hpa⟩:=Bn (now:=now) g W n0 n1;obtain ⟨f1,f2,f3,f4⟩:=W.nf rfl;have em:=yL ht a g n0 (by omega) W;rw [← hN] at em;have wy:∀ X:List Note,(∀ n∈X,Good n)→X.length≤18→(!s && X.any fun o=>oE o N now)=e_→bq [.tup t,ej X,akn s h p O,gvn nm w H P u l S R,.int now]=a_ (.ok (if ended N now=d_ then .str "gone" else .str "kept")):=by
    intro X gX lX hs;have e1:=FN (js:=X) ht a g n0 (by omega) W hN gN gX lX;unfold wv at e1;dsimp only at e1;rw [if_neg (by rw [hs]; decide)] at e1;exact e1
   have ns:∀ X:List Note,(∀ o∈X,o.nm≠nm)→(!s && X.any fun o=>oE o N now)=e_:=by
    intro X hX;have:(X.any fun o=>oE o N now)=e_:=by
     rw [Oo];intro o ho;rw [yQ (by rw [hnm]; exact hX o ho)]
     decide
    rw [this,Op]
   have nR:N.R=b_ "near"→al [.tup t,akn s h p O]=bo d_:=fun e=>f4 (by rw [← hR,e]; kernel_rfl);have sw:∀ X:List Note,(∀ o∈X,o.nm≠nm)→∀ o∈swp X now,o.nm≠N.nm:=fun X hX o ho=>by rw [hnm]; exact hX o (Ll.mp ho).1
   have k:=PZ gN (PZ hus (PZ hnm (PZ (hho ▸ f1) (PZ (fun z=>hho ▸ f2 (hex ▸ z)) (PZ (hS ▸ f3) nR)))));cases he:ended N now with
   | true =>
    rw [if_pos he] at wy;refine ⟨b_ "gone",[],fun X gX lX hX=>wy X gX lX (ns X hX),fun X gX lX hX=>?_,fun X gX lX hX=>?_,(fun n hn=>nomatch hn),by simp,.inr ⟨N,em,k.1,k.2.1,k.2.2.1,k.2.2.2.1,k.2.2.2.2.1,k.2.2.2.2.2.1,k.2.2.2.2.2.2,.inl ⟨rfl,rfl⟩⟩⟩
    · rw [LD,oz lX gX gN (wy X gX lX (ns X hX)) em,vF (sw X hX)]
    · rw [LD,oz (by omega) gX gN (wy X gX (by omega) (ns X fun o ho=>(hX o ho).1)) em,vF (sw X fun o ho=>(hX o ho).1),swp_all fun o ho=>(hX o ho).2]
   | false =>
    rw [if_neg (by rw [he]; decide)] at wy;refine ⟨b_ "kept",[N],fun X gX lX hX=>wy X gX lX (ns X hX),fun X gX lX hX=>?_,fun X gX lX hX=>?_,(fun n hn=>by rw [KN.mp hn]; exact ⟨gN,hus,hmd,hnm,he⟩),by simp,.inr ⟨N,em,k.1,k.2.1,k.2.2.1,k.2.2.2.1,k.2.2.2.2.1,k.2.2.2.2.2.1,k.2.2.2.2.2.2,.inr ⟨rfl,rfl⟩⟩⟩
    · rw [oy lX gX gN (wy X gX lX (ns X hX)) em,Bo (sw X hX)]
    · have gX':∀ n∈X ++ [N],Good n:=fun n hn=>by
       rcases D_.mp hn with q | q
       · exact gX n q
       · rw [KN.mp q]; exact gN
      have lX':(X ++ [N]).length≤18:=by simp; omega
      have hs:(!s && (X ++ [N]).any fun o=>oE o N now)=e_:=by
       rw [List.any_append];have h1:(X.any fun o=>oE o N now)=e_:=by
        rw [Oo];intro o ho;rw [yQ (by rw [hnm]; exact (hX o ho).1)]
        decide
       rw [h1,Bool.false_or];cases s with
       | true=>rfl
       | false =>
        have hS':N.S=e_:=by rw [hS]; simpa using f3
        show (d_ && ((oE N N now) || false))=e_;unfold oE;rw [hS'];rfl
      have e:swp (X ++ [N]) now=X ++ [N]:=swp_all fun o ho=>by
       rcases D_.mp ho with q | q
       · exact (hX o q).2
       · rw [KN.mp q]; exact he
      rw [oy lX' gX' gN (wy _ gX' lX' hs) em,e,Bp fun o ho=>by rw [hnm]; exact (hX o ho).1]
 · have hx':b_ x∈[b_ "foreign",b_ "open",b_ "unsafe",b_ "marked",b_ "far"]:=by
    simp only [s_,I_,or_false] at hx;rcases hx with rfl | rfl | rfl | rfl | rfl <;> simp
   have other:eqX (.str (b_ x)) (.str "kept")=bo e_∧eqX (.str (b_ x)) (.str "gone")=bo e_:=by
    simp only [s_,I_,or_false] at hx;rcases hx with rfl | rfl | rfl | rfl | rfl <;> exact ⟨by kernel_rfl,by kernel_rfl⟩
   refine ⟨b_ x,[],fun X _ _ _=>vE (js:=X) (now:=now) W (by simp),fun X _ lX _=>?_,fun X _ lX hX=>?_,(fun n hn=>nomatch hn),by simp,.inl ⟨hx',rfl⟩⟩
   · rw [LD]; exact lE lX (vE (js:=X) (now:=now) W (by simp)) other.1 other.2
   · rw [LD,lE (by omega) (vE (js:=X) (now:=now) W (by simp)) other.1 other.2,swp_all fun o ho=>(hX o ho).2]
end
end J
namespace J
open PySem PySem.Spec PyProof.Rows L2 FD TS
structure AW (h p:Str) (O:Dv):Prop where
 hn:h∈En
 pn:bZ [.str p]=bo d_
 o:O=.non∨∃ o∈menu,O=.str o
 un:∀ q∈pths,aU [.str p,.str q]=bo (unB p q)
theorem aw_of {h p:Str} {O:Dv} (a:Ak h p O):AW h p O:=⟨a.h,vP a.p,a.o,fun q hq=>Bk a.p hq⟩
def py (p:Str):Str:=p ++ b_ "/y"
theorem FQ {s:Bool} {h p:Str} {O:Dv} (a:AW h p O):el [akn s h p O]=bo d_:=by
 have e0:ce [.tup [.bl s,.str h,.str p,O],.int 4]=bo d_:=by kernel_rfl
 have e1:=vO a.hn;have e2:=a.pn;rcases a.o with rfl | ⟨o,ho,rfl⟩
 · simp [el,bu,gE,av,sq,aR,aA,bh,aS,bc,bV,bnd,bOr,cM,br,fB,toB,ag,am,ac,ah,ae,fC,f1,f2,ixD,atD,vOr,c0,fw,fIf,cx,bJ,fB1,fM,aG,aY,isN,dz,cO,aH,bK,bH,bM,e0,e1,e2,iW,eI]
 · have e3:=vO (me ho);simp [el,bu,gE,av,sq,aR,aA,bh,aS,bc,bV,bnd,bOr,cM,br,fB,toB,ag,am,ac,ah,ae,fC,f1,f2,ixD,atD,vOr,c0,fw,fIf,cx,bJ,fB1,fM,aG,aY,isN,dz,cO,aH,bK,bH,bM,e0,e1,e2,e3,iW,eI]
theorem near_w {t:List Dv} (ht:t∈iQ rules) {h:Str} {O:Dv} (hh:h∈En) (oo:O=.non∨∃ o∈menu,O=.str o):∃ k,(O=.non→k=d_)∧∀ s p,al [.tup t,akn s h p O]=bo k:=by
 rcases oo with rfl | ⟨o,ho,rfl⟩
 · exact ⟨d_,fun _=>rfl,fun s p=>by simp [al,bu,aD,av,sq,aR,aA,bh,aS,bc,bV,bnd,bOr,cM,br,fB,toB,ag,am,ac,ah,ae,fC,f1,f2,ixD,atD,vOr,c0,fw,fIf,cx,bJ,fB1,fM,aG,aY,isN,dz,cO,aH,bK,bH,bM]⟩
 · obtain ⟨m1,o1,_,h1,e1⟩:=vf ht hh;obtain ⟨m2,o2,_,h2,e2⟩:=vf ht (me ho);cases q:seq o h with
   | true=>exact ⟨d_,fun _=>rfl,fun s p=>by simp [al,bu,aD,av,sq,aR,aA,bh,aS,bc,bV,bnd,bOr,cM,br,fB,toB,ag,am,ac,ah,ae,fC,f1,f2,ixD,atD,vOr,c0,fw,fIf,cx,bJ,fB1,fM,aG,aY,isN,dz,cO,aH,bK,bH,bM,eqX,eqS,q]⟩
   | false =>
    rcases h1 with rfl | ⟨z1,rfl⟩
    · exact ⟨e_,(fun z=>nomatch z),fun s p=>by simp [al,bu,aD,av,sq,aR,aA,bh,aS,bc,bV,bnd,bOr,cM,br,fB,toB,ag,am,ac,ah,ae,fC,f1,f2,ixD,atD,vOr,c0,fw,fIf,cx,bJ,fB1,fM,aG,aY,isN,dz,cO,aH,bK,bH,bM,eqX,eqS,q,e1,e2]⟩
    · rcases h2 with rfl | ⟨z2,rfl⟩
      · exact ⟨e_,(fun z=>nomatch z),fun s p=>by simp [al,bu,aD,av,sq,aR,aA,bh,aS,bc,bV,bnd,bOr,cM,br,fB,toB,ag,am,ac,ah,ae,fC,f1,f2,ixD,atD,vOr,c0,fw,fIf,cx,bJ,fB1,fM,aG,aY,isN,dz,cO,aH,bK,bH,bM,eqX,eqS,q,e1,e2]⟩
      · exact ⟨seq z1 z2,(fun z=>nomatch z),fun s p=>by simp [al,bu,aD,av,sq,aR,aA,bh,aS,bc,bV,bnd,bOr,cM,br,fB,toB,ag,am,ac,ah,ae,fC,f1,f2,ixD,atD,vOr,c0,fw,fIf,cx,bJ,fB1,fM,aG,aY,isN,dz,cO,aH,bK,bH,bM,eqX,eqS,q,e1,e2]⟩
theorem xM (x y:Str):seq x y=seq y x:=by
 unfold seq;rw [Lm];simp;exact ⟨fun h=>h.symm,fun h=>h.symm⟩
def gB (nr:Bool) (n:Note) (s:Bool) (h p:Str) (now:Int):Bool:=!ended n now && (if n.ex=d_ then seq h n.house else wiB h n.house) && unB p n.path && (!(n.S && !s)) && (seq n.R (b_ "any") || nr)
theorem vG {c:FnB} {rest:FnS} {ρ:Ev} {b:Bool} (hc:c ρ=a_ (.ok b)):av (aR c (aA (fC (.bl e_))) (fun ρ=>a_ (.nx ρ))) rest ρ=if b=d_ then a_ (.rt (.bl e_)) else rest ρ:=by
 unfold av aR;rw [hc];cases b <;> rfl
section
variable {ns:List Int} {t:List Dv} {js:List Note} {now:Int} {h p:Str} {O:Dv} {nr s:Bool}
theorem FR {n:Note} (g:Good n) (a:AW h p O) (hn:∀ s p,al [.tup t,akn s h p O]=bo nr):nX [.tup t,enc n,akn s h p O,.int now]=bo (gB nr n s h p now):=by
 have w1:=Bj a.hn g.house;have u1:=a.un n.path g.path;have q1:eqX (.str n.house) (.str h)=bo (seq h n.house):=by rw [xM]; rfl
 have e1:=ke n now;have n1:=hn s p;obtain ⟨ak,hak⟩:∃ d,d=akn s h p O:=⟨_,rfl⟩;have i0:ixD ak (.int 0)=a_ (.ok (.bl s)):=by rw [hak]; rfl
 have i1:ixD ak (.int 1)=a_ (.ok (.str h)):=by rw [hak]; rfl
 have i2:ixD ak (.int 2)=a_ (.ok (.str p)):=by rw [hak]; rfl
 rw [← hak] at n1 ⊢;have f1:iu [enc n,.str h]=bo (if n.ex=d_ then seq h n.house else wiB h n.house):=by
  cases hx:n.ex <;> simp [iu,bu,kb,av,sq,aR,aA,bh,aS,bc,bV,bnd,bOr,cM,br,fB,toB,ag,am,ac,ah,ae,fC,f1,f2,ixD,atD,vOr,c0,fw,fIf,cx,bJ,fB1,fM,aG,aY,isN,dz,cO,aH,bK,bH,bM,enc,hx,q1,w1]
 have c3:(cM (fB (f2 ixD (ae 1) (fC (.int 6)))) (br (fB (f2 ixD (ae 2) (fC (.int 0)))))) [a_ (.tup t),a_ (enc n),a_ ak,a_ (.int now)]=a_ (.ok (n.S && !s)) :=
  bAnd_o (bU (k:=n.S) rfl) (jY (bU ((bf (x:=ak) (y:=.int 0) rfl rfl).trans i0)))
 have z1:f2 eqX (f2 ixD (ae 1) (fC (.int 7))) (fC (.str "any")) [a_ (.tup t),a_ (enc n),a_ ak,a_ (.int now)]=bo (seq n.R (b_ "any")):=(bf (x:=.str n.R) (y:=.str "any") rfl rfl).trans rfl;have c1:(bOr (fB (ag aZ 2 (ac (ae 1) (ac (ae 3) ah)))) (br (fB (ag iu 2 (ac (ae 1) (ac (f2 ixD (ae 2) (fC (.int 1))) ah)))))) [a_ (.tup t),a_ (enc n),a_ ak,a_ (.int now)]=a_ (.ok (ended n now || !(if n.ex=d_ then seq h n.house else wiB h n.house))) :=
  vy (bU (fA aZ rfl rfl e1)) (jY (bU (fA iu rfl ((bf (x:=ak) (y:=.int 1) rfl rfl).trans i1) f1)))
 have c2:(br (fB (ag aU 2 (ac (f2 ixD (ae 2) (fC (.int 2))) (ac (f2 ixD (ae 1) (fC (.int 4))) ah))))) [a_ (.tup t),a_ (enc n),a_ ak,a_ (.int now)]=a_ (.ok (!unB p n.path)) :=
  jY (bU (fA aU ((bf (x:=ak) (y:=.int 2) rfl rfl).trans i2) rfl u1))
 have c4:(vOr (f2 eqX (f2 ixD (ae 1) (fC (.int 7))) (fC (.str "any"))) (ag al 2 (ac (ae 0) (ac (ae 2) ah)))) [a_ (.tup t),a_ (enc n),a_ ak,a_ (.int now)]=bo (seq n.R (b_ "any") || nr):=by
  have z2:ag al 2 (ac (ae 0) (ac (ae 2) ah)) [a_ (.tup t),a_ (enc n),a_ ak,a_ (.int now)]=bo nr:=fA al rfl rfl n1;unfold vOr;rw [z1];cases seq n.R (b_ "any")
  · exact z2
  · rfl
 refine fT ?_;show nW [a_ (.tup t),a_ (enc n),a_ ak,a_ (.int now)]=_;unfold nW;rw [vG c1,vG c2,vG c3,xJ c4];unfold gB;cases ended n now <;> cases (if n.ex=d_ then seq h n.house else wiB h n.house) <;> cases unB p n.path <;> cases (n.S && !s) <;> rfl
def gon (nr:Bool) (js:List Note) (s:Bool) (h p:Str) (now:Int):List Note:=js.filter fun n=>gB nr n s h p now
theorem Bq (n:Note):imm (enc n)=d_:=by
 unfold enc;cases h:n.ends <;> simp [imm,imms,eO]
theorem qO:∀ xs:List Note,imms (xs.map enc)=d_
 | []=>by simp [imms]
 | n :: xs=>by simp [imms,Bq n,qO xs]
def kp (n:Note):Int:=-(n.path.length:Int)
theorem Br:(pths.all fun p=>u_ (p.length≤100000))=d_:=by kernel_rfl
theorem IR {n:Note} (g:Good n):BB 1 (f1 yc (fB1 gU (ac (f2 ixD (ae 0) (fC (.int 4))) ah))) [enc n]=a_ (.ok (.int (kp n))):=by
 have h:n.path.length≤100000:=by simpa using aP (p:=fun p:Str=>u_ (p.length≤100000)) Br g.path
 show f1 yc (fB1 gU (ac (f2 ixD (ae 0) (fC (.int 4))) ah)) [a_ (enc n)]=_;have e:gU [.str n.path]=a_ (.ok (.int (n.path.length:Int))):=by
  show (if n.path.length≤100000 then a_ (Rs.ok (Dv.int (n.path.length:Int))) else ck)=_;rw [if_pos h]
 exact (Hk ((dD (aj (x:=.str n.path) rfl aB)).trans e)).trans rfl
theorem lF {F:List Dv→Option (Rs Dv)}:∀ {l:List Note},(∀ n∈l,F [enc n]=a_ (.ok (.int (kp n))))→hJ F (l.map enc)=a_ (l.map kp)
 | [],_=>rfl
 | n :: l,h=>by
  show (match F [enc n],hJ F (l.map enc) with | some (.ok (.int k)),a_ ks=>a_ (k :: ks) | _,_=>ck)=_
  rw [h n on,lF fun m hm=>h m (n_ _ hm)];rfl
def snt (l:List Note):List Note:=cm (fun a b=>!u_ (kp b < kp a)) l
theorem xN (l:List Note):(snt l).Perm l:=bF _ _
theorem xO {F:List Dv→Option (Rs Dv)} {l:List Note} (h:∀ n∈l,F [enc n]=a_ (.ok (.int (kp n)))) (hl:l.length < 64):rn F [.lst (l.map enc)]=a_ (.ok (.lst ((snt l).map enc))):=by
 show (match hJ F (l.map enc) with | some ks=>if ks.length < 64∧imms (l.map enc)=d_ then a_ (Rs.ok (Dv.lst (iJ ks (l.map enc)))) else ck | none=>ck)=_
 rw [lF h];dsimp only;rw [if_pos ⟨by simpa using hl,qO l⟩];unfold iJ snt;have e:(l.map kp).zip (l.map enc)=l.map fun n=>(kp n,enc n):=by
  clear h hl
  induction l with
  | nil=>rfl
  | cons n l ih=>rw [K0,K0,List.zip_cons_cons,ih]; rfl
 rw [e,← l7 (le:=fun a b=>!u_ (kp b < kp a)) (fun n=>(kp n,enc n)) l fun _ _ _ _=>rfl,Om];rfl
theorem a4 {f g k m:FnE} {ρ:Ev} {a b c d:Dv} (h:f ρ=a_ (.ok a)) (h':g ρ=a_ (.ok b)) (h'':k ρ=a_ (.ok c)) (h3:m ρ=a_ (.ok d)):ac f (ac g (ac k (ac m ah))) ρ=a_ (.ok [a,b,c,d]):=aj h (aj h' (aj h'' (aj h3 aB)))
theorem cE4 (F:List Dv→Option (Rs Dv)) {f g k m:FnE} {ρ:Ev} {a b c d:Dv} {r:Option (Rs Dv)} (h:f ρ=a_ (.ok a)) (h':g ρ=a_ (.ok b)) (h'':k ρ=a_ (.ok c)) (h3:m ρ=a_ (.ok d)) (hF:F [a,b,c,d]=r):am F 4 (ac f (ac g (ac k (ac m ah)))) ρ=r:=cE F (a4 h h' h'' h3) rfl hF
theorem IS (F:List Dv→Option (Rs Dv)) {f g k m:FnE} {ρ:Ev} {a b c d e:Dv} (h:f ρ=a_ (.ok a)) (h':g ρ=a_ (.ok b)) (h'':k ρ=a_ (.ok c)) (h3:m ρ=a_ (.ok d)) (hF:F [a,b,c,d]=a_ (.ok e)):ag F 4 (ac f (ac g (ac k (ac m ah)))) ρ=a_ (.ok e) :=
 j8 (a4 h h' h'' h3) rfl hF
theorem nsd (ht:t∈iQ rules) (Jr:Jar js) (a:AW h p O) (h1:0≤now) (h2:now≤9999):cR [.tup t,ej js,akn s h p O,.int now]=a_ (.ok .non):=by
 have e:cr [a_ (.tup t),a_ (ej js),a_ (akn s h p O),a_ (.int now)]=a_ (.nx [a_ (.tup t),a_ (ej js),a_ (akn s h p O),a_ (.int now)]):=by
  unfold cr;rw [ao (dY bN rfl (Gk (il ht))),ao (dY cC rfl (IP (jar_y Jr))),ao (dY cB rfl (Gm (FQ a)))];exact dY bg rfl (xC (la h1 h2))
 unfold cR eV;show (match cr [a_ (.tup t),a_ (ej js),a_ (akn s h p O),a_ (.int now)] with | some (.nx _)=>a_ (Rs.ok Dv.non) | some (.rt d)=>a_ (Rs.ok d) | some (.exc c)=>a_ (Rs.exc c) | none=>ck)=_
 rw [e]
theorem sent_w (ht:t∈iQ rules) (Jr:Jar js) (a:AW h p O) (hn:∀ s p,al [.tup t,akn s h p O]=bo nr) (h1:0≤now) (h2:now≤9999):kT [.tup t,ej js,akn s h p O,.int now]=a_ (.ok (.lst ((snt (gon nr js s h p now)).map enc))):=by
 have jl:=Jr.l;have hl:(gon nr js s h p now).length≤js.length:=Mv _ _;refine jR ?_;show kQ [a_ (.tup t),a_ (ej js),a_ (akn s h p O),a_ (.int now),ck]=_;unfold kQ;rw [ao (p4 (cE4 cR rfl rfl rfl rfl (nsd ht Jr a h1 h2)))];have e1:(cp 1 [("table",0),("ask",2),("now",3)] (dR (ae 1)) (gN 0) (a_ (fB (ag nX 4 (ac (ae 1) (ac (ae 0) (ac (ae 2) (ac (ae 3) ah))))))) (ae 0)) [a_ (.tup t),a_ (ej js),a_ (akn s h p O),a_ (.int now),ck]=a_ (.ok (.lst ((gon nr js s h p now).map enc))) :=
  jQ enc (fun n=>gB nr n s h p now) enc (src_of rfl) (by omega) fun n hn'=>⟨bU (IS nX rfl rfl rfl rfl (FR (Jr.g n hn') a hn)),rfl⟩
 rw [ao (aW (ρ':=[a_ (.tup t),a_ (ej js),a_ (akn s h p O),a_ (.int now),a_ (.lst ((gon nr js s h p now).map enc))]) e1 rfl)];exact cP ((dD (aj rfl aB)).trans (xO (fun n hn=>IR (Jr.g n (Ll.mp hn).1)) (by omega)))
theorem swept_w (Jr:Jar js) (h1:0≤now) (h2:now≤9999):jp [ej js,.int now]=a_ (.ok (ej (swp js now))):=by
 refine jR ?_;show jo [a_ (ej js),a_ (.int now)]=_;unfold jo;rw [ao (dY cC rfl (IP (jar_y Jr))),ao (dY bg rfl (xC (la h1 h2)))];exact cP (fA bC rfl rfl (lD Jr.l))
theorem mem_snt {n:Note}:n∈snt (gon nr js s h p now)↔n∈js∧gB nr n s h p now=d_:=by
 rw [(xN _).mem_iff];exact Ll
theorem sent_g (Jr:Jar js):∀ n∈snt (gon nr js s h p now),Good n:=fun n hn=>Jr.g n (mem_snt.mp hn).1
end
end J
namespace J
open PySem PySem.Spec PyProof.Rows L2 FD TS
def e8 (n:Note):List Dv:=[.str n.nm,.str n.w,.str n.house,.bl n.ex,.str n.path,eO n.ends,.bl n.S,.str n.R]
def sh (n:Note):Str:=(bW (.tup (e8 n))).shown
def bt (n:Note):Str:=sh n ++ is n.us
theorem FU:(signs0.all fun x=>u_ ((LU x).length≤1000))=d_:=by kernel_rfl
theorem FV {x:Str} (h:x∈signs0):(LU x).length≤1000:=by simpa using aP (p:=fun x:Str=>u_ ((LU x).length≤1000)) FU h
theorem it_e8 {n:Note} (g:Good n):It1 1 (.tup (e8 n)):=by
 refine qz fun d hd=>?_;unfold e8 at hd;simp only [s_,I_,or_false] at hd;rcases hd with rfl | rfl | rfl | rfl | rfl | rfl | rfl | rfl
 · exact fH (jT (by unfold signs0; simp [g.nm]))
 · exact fH (jT (by unfold signs0; simp [g.w]))
 · exact fH (jT (by unfold signs0; simp [g.house]))
 · exact xA
 · exact fH (jT (by unfold signs0; simp [g.path]))
 · exact AZ _
 · exact xA
 · exact fH (jT g.sR)
def bx (b:Bool):Str:=if b then "True" else "False"
theorem yR (b:Bool):(bx b).length≤5:=by cases b <;> decide
theorem FX {n:Note} (g:Good n):((bW (eO n.ends)).shown).length≤10001:=by
 cases h:n.ends with
 | none=>show (b_ "None").length≤10001; decide
 | some i=>exact qF (g.ends i h).1 (g.ends i h).2
theorem yS {n:Note} (g:Good n):(sh n).length≤30000:=by
 have h1:=FV (x:=n.nm) (by unfold signs0; simp [g.nm]);have h2:=FV (x:=n.w) (by unfold signs0; simp [g.w]);have h3:=FV (x:=n.house) (by unfold signs0; simp [g.house]);have h4:=FV (x:=n.path) (by unfold signs0; simp [g.path]);have h5:=FV g.sR;have h6:=FX g;have h7:=yR n.ex;have h8:=yR n.S;have e:sh n=(b_ "(" ++ SV ", " [LU n.nm,LU n.w,LU n.house,bx n.ex,LU n.path,(bW (eO n.ends)).shown,bx n.S,LU n.R]) ++ b_ ")":=by
  unfold sh e8;simp only [bW,toPys,PyData.shown,Sw];rfl
 rw [e,fN,fN];have hj:=join_length_add [LU n.nm,LU n.w,LU n.house,bx n.ex,LU n.path,(bW (eO n.ends)).shown,bx n.S,LU n.R] (by simp);simp only [piled_cons,piled_nil] at hj;have e1:(b_ "(").length=1:=by kernel_rfl
 have e2:(b_ ")").length=1:=by kernel_rfl
 omega
theorem Bs {n:Note} (g:Good n):BC [.tup (e8 n)]=a_ (.ok (.str (sh n))):=by
 have i:=it_e8 g;have hs:(bW (.tup (e8 n))).showable=d_:=by
  unfold e8;cases h:n.ends with
  | none=>rfl
  | some k =>
   have:=g.ends k h;have hk:k.natAbs.log2 < 1920:=by
    have h2:k.natAbs≤9999:=by omega
    have:k.natAbs < 2 ^ 14:=by omega
    by_cases z:k.natAbs=0
    · rw [z]; decide
    · have:=(Nat.log2_lt z).mpr this;omega
   simp [bW,toPys,PyData.showable,PyData.showableAll,eO,hk]
 have hd:(bW (.tup (e8 n))).hasDict=e_:=by
  unfold e8;cases n.ends <;> rfl
 show (if _∧_∧_∧_∧_ then a_ (Rs.ok (Dv.str (bW (.tup (e8 n))).shown)) else ck)=_;rw [if_pos ⟨i.c,by have:=i.dp; omega,hs,hd,by have:=yS g; unfold sh at this; omega⟩];rfl
theorem FY (x:Str) (l:List Str):fW ((x :: l).map Dv.str)=ck:=rfl
theorem lG:∀ ks:List Str,kv (ks.map Dv.str)=a_ ks
 | []=>rfl
 | k :: ks=>by
  show (kv (ks.map Dv.str)).map (k :: ·)=_;rw [lG ks];rfl
theorem vH {l:List Str} (h:l.length < 64):ux [.lst (l.map Dv.str)]=a_ (.ok (.lst ((cm leS l).map Dv.str))):=by
 cases l with
 | nil=>kernel_rfl
 | cons x l =>
  unfold ux;dsimp only;rw [FY x l,lG];dsimp only;rw [if_pos h]
theorem bare_of {X:List Note} (gX:∀ n∈X,Good n) (hl:X.length≤20):ef [ej X]=a_ (.ok (.lst ((cm leS (X.map bt)).map Dv.str))):=by
 refine fT ?_;show fq [a_ (ej X)]=_;unfold fq;have e:cF [] (dR (ae 0)) ck (f2 ci (fB1 BC (ac (eW (ae 0) dv (cG (fC (.int 8)))) ah)) (fB1 yw (ac (f2 ixD (ae 0) (fC (.int 9))) ah))) [a_ (ej X)]=a_ (.ok (.lst (X.map fun n=>Dv.str (bt n)))) :=
  gJ enc (fun n=>Dv.str (bt n)) (src_of rfl) (by omega) fun n hn=>by
   have g:=gX n hn;have z1:fB1 BC (ac (eW (ae 0) dv (cG (fC (.int 8)))) ah) [a_ (enc n)]=a_ (.ok (.str (sh n))):=(dD (aj (x:=.tup (e8 n)) rfl aB)).trans (Bs g);have z2:fB1 yw (ac (f2 ixD (ae 0) (fC (.int 9))) ah) [a_ (enc n)]=a_ (.ok (.str (is n.us))):=(dD (aj (x:=.int n.us) rfl aB)).trans (Fa (by have:=g.mk0; have:=g.mu; omega) (by have:=g.us; omega));refine (bf (g:=ci) z1 z2).trans ?_;have:=yS g;have l2:=qF (i:=n.us) (by have:=g.mk0; have:=g.mu; omega) (by have:=g.us; omega);show (if (sh n).length + (is n.us).length≤100000 then a_ (Rs.ok (Dv.str (sh n ++ is n.us))) else ck)=_;rw [if_pos (by omega)];rfl
 have e2:(X.map fun n=>Dv.str (bt n))=(X.map bt).map Dv.str:=by rw [Om]; rfl
 rw [e2] at e;exact cP ((dD (aj e aB)).trans (vH (by simp; omega)))
end J
end G
namespace G
open PySem PySem.Spec PyProof.Rows L2 FD
def oA:Nat→List (List Dv)
 | 0=>iQ rules
 | k + 1=>(oA k).drop 64
theorem vI {α:Type} {l:List α} {p:α→Bool} (n:Nat) (h1:(l.take n).all p=d_) (h2:(l.drop n).all p=d_):l.all p=d_:=by
 rw [← Qs n l,Sy,h1,h2]; rfl
def koB (t:List Dv):Bool:=okY (bE [.tup t])
theorem KF:((oA 0).take 64).all koB=d_:=by kernel_rfl
theorem KG:((oA 1).take 64).all koB=d_:=by kernel_rfl
theorem KH:((oA 2).take 64).all koB=d_:=by kernel_rfl
theorem KI:((oA 3).take 64).all koB=d_:=by kernel_rfl
theorem F0:(iQ rules).all koB=d_:=(vI (l:=oA 0) 64 KF (vI (l:=oA 1) 64 KG (vI (l:=oA 2) 64 KH KI)))
theorem KJ {t:List Dv} (h:t∈iQ rules):bE [.tup t]=bo d_:=gm (aP (p:=koB) F0 h)
end G
namespace G
namespace J
open PySem PySem.Spec PyProof.Rows L2 FD TS
def mxE:FnE:=(fB1 Aa (ac (f2 ci (cF [] (dR (ae 2)) ck (f2 ixD (ae 0) (fC (.int 9)))) (bJ (ac (fC (.int 0)) ah))) ah))
theorem vJ:∀ js:List Note,fW (js.map (fun o=>Dv.int o.us) ++ [.int 0])=a_ (js.map Note.us ++ [0])
 | []=>rfl
 | o :: js=>by
  show (fW (js.map (fun o=>Dv.int o.us) ++ [.int 0])).map (o.us :: ·)=_;rw [vJ js];rfl
theorem last_ok {js:List Note} (hl:js.length≤18) (g:∀ o∈js,0≤o.us∧o.us≤39) {ρ:Ev} (h:ρ[2]?=a_ (a_ (ej js))):∃ L:Int,mxE ρ=a_ (.ok (.int L))∧0≤L∧L≤39∧(∀ o∈js,o.us≤L)∧(0 < L→(js.any fun o=>u_ (o.us > L - 1))=d_):=by
 have e1:cF [] (dR (ae 2)) ck (f2 ixD (ae 0) (fC (.int 9))) ρ=a_ (.ok (.lst (js.map fun o=>Dv.int o.us))):=gJ enc (fun o=>Dv.int o.us) (src_of h) (by omega) fun o ho=>rfl;have e2:f2 ci (cF [] (dR (ae 2)) ck (f2 ixD (ae 0) (fC (.int 9)))) (bJ (ac (fC (.int 0)) ah)) ρ=a_ (.ok (.lst (js.map (fun o=>Dv.int o.us) ++ [.int 0]))):=by
  refine (bf e1 (jE (aj (x:=.int 0) rfl aB) (by show 1≤100000; decide))).trans ?_;show (if (js.map fun o=>Dv.int o.us).length + 1≤100000 then a_ (Rs.ok (Dv.lst (js.map (fun o=>Dv.int o.us) ++ [.int 0]))) else ck)=_;rw [if_pos (by simp; omega)]
 have e3:mxE ρ=Aa [.lst (js.map (fun o=>Dv.int o.us) ++ [.int 0])]:=dD (aj e2 aB);have e4:∃ x xs,js.map Note.us ++ [0]=x :: xs:=by
  cases js with
  | nil=>exact ⟨0,[],rfl⟩
  | cons o r=>exact ⟨_,_,rfl⟩
 obtain ⟨x,xs,e4⟩:=e4;have e5:Aa [.lst (js.map (fun o=>Dv.int o.us) ++ [.int 0])]=a_ (.ok (.int (mxL x xs))):=by
  show (match fW (js.map (fun o=>Dv.int o.us) ++ [.int 0]) with | some (n :: ns)=>a_ (Rs.ok (Dv.int (mxL n ns))) | _=>ck)=_
  rw [vJ,e4]
 obtain ⟨g1,g2,g3⟩:=uC xs x;have hall:∀ y∈js.map Note.us ++ [0],y≤mxL x xs:=by
  rw [e4];intro y hy;rcases s_.mp hy with rfl | hy
  · exact g1
  · exact g2 y hy
 have hin:mxL x xs∈js.map Note.us ++ [0]:=by
  rw [e4];rcases g3 with q | q
  · rw [q]; exact on
  · exact n_ _ q
 refine ⟨mxL x xs,e3.trans e5,hall 0 (by simp),?_,fun o ho=>hall _ (G_ _ (List.mem_map_of_mem ho)),fun hp=>?_⟩
 · rcases D_.mp hin with q | q
   · obtain ⟨o,ho,e⟩:=KY.mp q;rw [← e]; exact (g o ho).2
   · rw [KN.mp q]; omega
 · rw [MY];rcases D_.mp hin with q | q
   · obtain ⟨o,ho,e⟩:=KY.mp q;refine ⟨o,ho,?_⟩;rw [decide_eq_true_eq,e];omega
   · rw [KN.mp q] at hp; omega
theorem in_n {n:Note} {l:List Note} (hn:Good n) (hl:∀ a∈l,Good a):dk (enc n) (.lst (l.map enc))=a_ (.ok (.bl (!u_ (n∈l))))∧dk (enc n) (ej l)=a_ (.ok (.bl (!u_ (n∈l))))∧inX (enc n) (.lst (l.map enc))=a_ (.ok (.bl (u_ (n∈l)))):=by
 have e:(l.any fun a=>u_ (a=n))=u_ (n∈l):=by
  rw [Lm,MY,decide_eq_true_eq];constructor
  · rintro ⟨a,ha,h⟩;have:a=n:=by simpa using h
    rw [← this]; exact ha
  · intro h;exact ⟨n,h,by simp⟩
 have:=Ik (p:=fun a=>u_ (a=n)) ((ou hn).le (by omega)) rfl (fun a ha=>(ou (hl a ha)).le (by omega)) (fun a _=>Bd a n);rw [e] at this;exact ⟨this.2.1,this.2.2.2,this.1⟩
theorem oD {a b:Str} (ha:Ly a=d_) (hb:Ly b=d_):Ly (a ++ b)=d_:=by
 unfold Ly at *;show (a.cps ++ b.cps).all _=d_;rw [Array.all_append,ha,hb];rfl
theorem rR (s:String):Ly (b_ s)=d_:=by
 rw [Str.ofString_eq_toList];unfold Ly;rw [Array.all_eq_true'];intro c hc;simp only [List.mem_toArray,KY] at hc;obtain ⟨d,_,rfl⟩:=hc;rw [decide_eq_true_eq];have:=d.valid;unfold UInt32.isValidChar Nat.isValidChar at this;show d.val.toNat < 0x110000;omega
theorem F4:(signs0.all fun x=>Ly (LU x))=d_:=by kernel_rfl
theorem F5 {x:Str} (h:x∈signs0):Ly (LU x)=d_:=aP (p:=fun x=>Ly (LU x)) F4 h
theorem F6 (b:Bool):Ly (bx b)=d_:=by cases b <;> exact rR _
theorem IT (o:Option Int):Ly ((bW (eO o)).shown)=d_:=by
 cases o <;> exact rR _
theorem IU {n:Note} (g:Good n):Ly (bt n)=d_:=by
 refine oD ?_ (rR _);have e:sh n=(b_ "(" ++ SV ", " [LU n.nm,LU n.w,LU n.house,bx n.ex,LU n.path,(bW (eO n.ends)).shown,bx n.S,LU n.R]) ++ b_ ")":=by
  unfold sh e8;simp only [bW,toPys,PyData.shown,Sw];rfl
 rw [e];have cj {a:Str} {r:List Str} {b:Str} (ha:Ly a=d_) (h:Ly (SV ", " (b :: r))=d_):Ly (SV ", " (a :: b :: r))=d_:=oD (oD ha (rR _)) h;refine oD (oD (rR _) ?_) (rR _);exact cj (F5 (by unfold signs0; simp [g.nm])) (cj (F5 (by unfold signs0; simp [g.w])) (cj (F5 (by unfold signs0; simp [g.house])) (cj (F6 _) (cj (F5 (by unfold signs0; simp [g.path])) (cj (IT _) (cj (F6 _) (F5 g.sR)))))))
theorem bare_ne {X Y:List Note} (gX:∀ n∈X,Good n) (hp:X.Perm Y):neX (.lst ((cm leS (X.map bt)).map Dv.str)) (.lst ((cm leS (Y.map bt)).map Dv.str))=bo e_:=by
 have e:cm leS (Y.map bt)=cm leS (X.map bt):=gz ordS ((bF _ _).trans (((hp.map bt).symm).trans (bF _ _).symm)) (dF ordS _) (dF ordS _);rw [e];refine Bc (k:=1) (ve fun d hd=>?_) (by omega);obtain ⟨x,hx,rfl⟩:=KY.mp hd;obtain ⟨n,hn,rfl⟩:=KY.mp ((bF _ _).mem_iff.mp hx);exact fH (IU (gX n hn))
structure JS (now:Int) (Y:List Note):Prop where
 g:∀ n∈Y,Good n
 s:Y.Pairwise fun a b=>a.md≤b.md
 k:(Y.map key).Nodup
 u:∀ n∈Y,n.us≤now
theorem JS.jar {now:Int} {Y:List Note} (h:JS now Y) (l:Y.length≤18):Jar Y:=⟨h.g,fun i hi=>NK.mp h.s i (i + 1) (by omega) hi (by omega),h.k,l⟩
theorem JS.app {now:Int} {X add:List Note} (h:JS now X) (ha:∀ n∈add,Good n∧n.us=now∧n.md=now) (hl:add.length≤1) (hn:∀ x∈X,∀ n∈add,x.nm≠n.nm):JS now (X ++ add) where
 g:=fun n q=>(D_.mp q).elim (h.g n) fun q=>(ha n q).1
 s:=QT.mpr ⟨h.s,by
  match add,hl with
  | [],_=>exact MK
  | [a],_=>exact NZ ..,fun a qa b qb=>by
   have:=h.u a qa;have:=(h.g a qa).mu;have:=(ha b qb).2.2;omega⟩
 k:=by
  rw [LP];refine RU.mpr ⟨h.k,?_,fun a qa b qb e=>?_⟩
  · match add,hl with
    | [],_=>exact MK
    | [a],_=>exact NZ ..
  · obtain ⟨x,hx,rfl⟩:=KY.mp qa;obtain ⟨n,hq,rfl⟩:=KY.mp qb;unfold key at e;simp only [MC] at e;exact hn x hx n hq e.1
 u:=fun n q=>(D_.mp q).elim (h.u n) fun q=>by rw [(ha n q).2.1]; exact Sq _
theorem JS.swp {now:Int} {X:List Note} (h:JS now X):JS now (swp X now) where
 g:=fun n q=>h.g n (Ll.mp q).1
 s:=h.s.sublist Rg
 k:=h.k.sublist (Rg.map key)
 u:=fun n q=>h.u n (Ll.mp q).1
theorem text_ok {nm w:Str} {H P u l:Dv} {S:Bool} {R:Str} (g:Gv nm w H P u l S R):∃ X:Str,ei [gvn nm w H P u l S R]=a_ (.ok (.str X))∧aJ [.str X]=a_ (.ok (gvn nm w H P u l S R)):=by
 obtain ⟨h,p,u',l',gw,e⟩:=IF g;exact ⟨_,by rw [e]; exact AR (IG gw),by rw [e]; exact Fy gw⟩
theorem own_end {i j:Nat} {fs:List Nat} {src:FnA} {body:iX} {rest:FnS} {ρ ρ1:Ev} {ds xs:List Dv} {d:Dv} (hs:src (ρ.set i ck)=a_ (.ok ds)) (hi:imms ds=d_) (hl:iZ j fs body ds (ρ.set i ck) []=a_ (.nx ρ1 xs)) (hr:rest (ρ1.set i (a_ (.lst xs)))=a_ (.rt d)):p9 i ah (eE (qc j fs src body) (DV i rest)) ρ=a_ (.rt d):=by
 simp [p9,bV,ah,eE,qc,p8,hs,hi,hl,DV,hr]
section
variable {ns:List Int} {t:List Dv} {js:List Note} {now:Int} {h p:Str} {O A Gd:Dv} {nr s:Bool} {x8 x9 x10 x11 x12 x13 x14 x15:Option Dv} {A0 A1:Dv} {X0 X1:Str}
theorem tk {X:Str} {Y ys:List Note} (ht:t∈iQ rules) (a:Ak h p O) (hR:aJ [.str X]=a_ (.ok Gd)) (JY:JS now Y) (lY:Y.length≤18) (n0:0≤now) (n9:now≤9999) (et:cu [.tup t,ej Y,akn s h p O,Gd,.int now]=a_ (.ok (ej ys))) (hy:ys.length≤20):bT [.tup t,ej Y,akn s h p O,.str X,.int now]=a_ (.ok (ej ys)) :=
 xL lY (rwy (il ht) (jar_y (JY.jar lY)) (xD a) hR (la n0 n9)) (by
  rw [Oo];intro o ho;have:=JY.u o ho;simp; omega) et hy
theorem vdo {X:Str} {Y:List Note} {wd:Str} (ht:t∈iQ rules) (a:Ak h p O) (hR:aJ [.str X]=a_ (.ok Gd)) (JY:Jar Y) (n0:0≤now) (n9:now≤9999) (ew:bq [.tup t,ej Y,akn s h p O,Gd,.int now]=a_ (.ok (.str wd))):gh [.tup t,ej Y,akn s h p O,.str X,.int now]=a_ (.ok (.str wd)):=by
 refine jR ?_;show gg [a_ (.tup t),a_ (ej Y),a_ (akn s h p O),a_ (.str X),a_ (.int now),ck]=_;unfold gg;have s5:bc 5 (am aC 5 (ac (ae 0) (ac (ae 1) (ac (ae 2) (ac (ae 3) (ac (ae 4) ah)))))) [a_ (.tup t),a_ (ej Y),a_ (akn s h p O),a_ (.str X),a_ (.int now),ck]=a_ (.nx [a_ (.tup t),a_ (ej Y),a_ (akn s h p O),a_ (.str X),a_ (.int now),a_ Gd]):=aW (cE aC (aj rfl (aj rfl (aj rfl (aj rfl (aj rfl aB))))) rfl (rwy (il ht) (jar_y JY) (xD a) hR (la n0 n9))) rfl;rw [ao s5];exact cP (cE bq (aj rfl (aj rfl (aj rfl (aj rfl (aj rfl aB))))) rfl ew)
theorem JD {x:Dv} (h:bZ [x]=bo d_):cy [x]=a_ (.ok .non):=by simp [cy,eV,fF,av,sq,aR,aA,bh,aS,bc,bV,bnd,bOr,cM,br,fB,toB,ag,am,ac,ah,ae,fC,aG,h]
theorem under_of {q:Str} (hp:p∈pths) (hq:q∈pths):jt [.str p,.str q]=bo (unB p q):=by
 refine jR ?_;show jr [a_ (.str p),a_ (.str q)]=_;unfold jr;rw [ao (dY cy rfl (JD (vP hp))),ao (dY cy rfl (JD (vP hq)))];exact cP (fA aU rfl rfl (Bk hp hq))
def Z16 (ns:List Int) (t:List Dv) (js:List Note) (now:Int) (A0 A1:Dv) (X0 X1:Str) (x8 x9 x10 x11 x12 x13 x14 x15:Option Dv):Ev:=[a_ (.scr ns),a_ (.tup t),a_ (ej js),a_ (.int now),a_ (.lst [A0,A1]),a_ (.lst [.str X0,.str X1]),ck,ck,x8,x9,x10,x11,x12,x13,x14,x15]
def Zk (ns:List Int) (t:List Dv) (js:List Note) (now:Int) (A0 A1:Dv) (X0 X1:Str) (X a b:List Note) (w:Str):Option Dv→Option Dv→Option Dv→Option Dv→Ev:=Z16 ns t js now A0 A1 X0 X1 (a_ (ej (X ++ a))) (a_ (ej (X ++ b))) (a_ (ej (X ++ a ++ b))) (a_ (.str w))
def Yk (ns:List Int) (x1 x2:Option Dv):Ev:=[a_ (.scr ns),x1,x2,ck,ck,ck,ck,ck,ck,ck,ck,ck,ck,ck,ck,ck]
def Zl (ns:List Int) (t:List Dv) (js:List Note) (now:Int) (A0 A1:Dv) (x6 x7:Option Dv):Ev:=[a_ (.scr ns),a_ (.tup t),a_ (ej js),a_ (.int now),a_ (.lst [A0,A1]),ck,x6,x7,ck,ck,ck,ck,ck,ck,ck,ck]
theorem round_of {k:Int} {nm w nm':Str} {H P u l:Dv} {S:Bool} {R X:Str} {s:Bool} {h p:Str} {O:Dv} {xs:List Dv} (hx:xs.length≤5) (hk:f2 ci (fC (.int 110)) (f2 jx (fC (.int 20)) (ae 6)) (Zl ns t js now A0 A1 (a_ (.int k)) ck)=a_ (.ok (.int (110 + 20 * k)))) (hA:ixD (.lst [A0,A1]) (.int k)=a_ (.ok (akn s h p O))) (hp:ixD (.lst [.str "p",.str "q"]) (.int k)=a_ (.ok (.str nm')))
 (eG:du [.scr ns,.int (110 + 20 * k),.str h]=a_ (.ok (gvn nm w H P u l S R))) (eX:ei [gvn nm' w H P u l S R]=a_ (.ok (.str X))):bp (Zl ns t js now A0 A1 (a_ (.int k)) ck) xs=a_ (.nx (Zl ns t js now A0 A1 (a_ (.int k)) (a_ (gvn nm w H P u l S R))) (xs ++ [.str X])):=by
 unfold bp;have z1:f2 ixD (f2 ixD (ae 4) (ae 6)) (fC (.int 1)) (Zl ns t js now A0 A1 (a_ (.int k)) ck)=a_ (.ok (.str h)):=(bf (x:=akn s h p O) (y:=.int 1) ((bf (x:=.lst [A0,A1]) (y:=.int k) rfl rfl).trans hA) rfl).trans rfl;have e1:=rP du (f:=ae 0) (ρ:=Zl ns t js now A0 A1 (a_ (.int k)) ck) rfl hk z1 eG;have z2:f2 ci (cx (ac (f2 ixD (bJ (ac (fC (.str "p")) (ac (fC (.str "q")) ah))) (ae 6)) ah)) (eW (ae 7) (cG (fC (.int 1))) dv) (Zl ns t js now A0 A1 (a_ (.int k)) (a_ (gvn nm w H P u l S R)))=a_ (.ok (gvn nm' w H P u l S R)) :=
  (bf (g:=ci) (x:=.tup [.str nm']) (y:=.tup [.str w,H,P,u,l,.bl S,.str R]) (oX (aj ((bf (x:=.lst [.str "p",.str "q"]) (y:=.int k) (jE (aj (x:=.str "p") rfl (aj (x:=.str "q") rfl aB)) (by show 2≤100000; decide)) rfl).trans hp) aB) (by show 1≤100000; decide)) rfl).trans rfl
 have e2:=fR ei z2 eX;unfold eE fz;rw [e1];show rT _ (Zl ns t js now A0 A1 (a_ (.int k)) (a_ (gvn nm w H P u l S R))) xs=_;unfold rT;rw [if_pos (by omega),e2];rfl
end
theorem nilE {l:List Note} (hg:∀ o∈l,Good o):eqX (.lst (l.map enc)) (.lst [])=bo l.isEmpty:=by
 cases l with
 | nil=>kernel_rfl
 | cons o rest =>
  have i2:=(vA hg).okP (by omega);have i3:okP (.lst [])=d_:=by kernel_rfl
  show eqX (.lst ((o :: rest).map enc)) (.lst [])=bo e_;unfold eqX;rw [show eqS (.lst ((o :: rest).map enc)) (.lst [])=ck from rfl,i2,i3];simp [bW,toPys,Ld,L_]
theorem gom {x:Str} (h:x∈nm4):x≠b_ "p"∧x≠b_ "q":=by
 unfold nm4 at h;simp only [s_,I_,or_false] at h;rcases h with rfl | rfl | rfl | rfl <;> exact ⟨by decide,by decide⟩
end J
open PySem PySem.Spec PyProof.Rows L2 FD TS
theorem F7 {k:Nat} {d:Dv} (h:It1 k d) (hk:k≤64):eqX d d=a_ (.ok (.bl d_)):=AM (h.okP hk) h.p
open J in
theorem sty (ns:List Int) (hl:ns.length≤63) {t:List Dv} (ht:t∈iQ rules) (eT:bQ [.scr ns,.int 0]=a_ (.ok (.tup t))):eA [.scr ns]=a_ (.ok (.bl d_)):=by
 obtain ⟨js,jn,eJ,Jr,hjl,JJ⟩:=J.jar_ok ns hl 10 4 (by omega);obtain ⟨s0,h0,p0,O0,m1,m2,m3,eA0⟩:=qB ns hl 90;obtain ⟨s1,h1,p1,O1,m4,m5,m6,eA1⟩:=qB ns hl 100;have a0:Ak h0 p0 O0:=⟨me m1,m2,m3⟩;have a1:Ak h1 p1 O1:=⟨me m4,m5,m6⟩;obtain ⟨L,eL,l0,l1,l2,_⟩:=J.last_ok Jr.l (fun o ho=>⟨by have:=(Jr.g o ho).mk0; have:=(Jr.g o ho).mu; omega,JJ.u o ho⟩) (ρ:=(J.Yk ns (a_ (.tup t)) (a_ (J.ej js)))) rfl;obtain ⟨d,d0,d1,eD⟩:=aX ns hl 80 9 (by omega);obtain ⟨now,hW⟩:∃ now,now=L + d:=⟨_,rfl⟩;have n0:0≤now:=by omega
 have n1:now≤99:=by omega
 have n9:now≤9999:=by omega
 have JSj:J.JS now js:=⟨JJ.g,JJ.s,JJ.k,fun o ho=>by have:=l2 o ho; omega⟩;obtain ⟨nmA,wA,HA,PA,uA,lA,SA,RA,gA,eGA⟩:=qE ns hl 110 m1;obtain ⟨nmB,wB,HB,PB,uB,lB,SB,RB,gB',eGB⟩:=qE ns hl 130 m4;have g0:Gv (b_ "p") wA HA PA uA lA SA RA:=⟨by unfold nms; simp,gA.w,gA.hh,gA.pp,gA.u,gA.l,gA.r⟩;have g1:Gv (b_ "q") wB HB PB uB lB SB RB:=⟨by unfold nms; simp,gB'.w,gB'.hh,gB'.pp,gB'.u,gB'.l,gB'.r⟩;obtain ⟨X0,eX0,r0⟩:=J.text_ok g0;obtain ⟨X1,eX1,r1⟩:=J.text_ok g1;obtain ⟨w0,aa,o0⟩:=J.out_ok (s:=s0) (now:=now) ht a0 g0 n0 n1;obtain ⟨w1,ab,o1⟩:=J.out_ok (s:=s1) (now:=now) ht a1 g1 n0 n1;generalize hG0:gvn (b_ "p") wA HA PA uA lA SA RA=G0 at eX0 r0 o0;generalize hG1:gvn (b_ "q") wB HB PB uB lB SB RB=G1 at eX1 r1 o1;have hnm:∀ o∈js,o.nm≠b_ "p"∧o.nm≠b_ "q":=fun o ho=>J.gom (JJ.nn o ho);obtain ⟨X,hX⟩:∃ X,X=J.swp js now:=⟨_,rfl⟩;have xj:∀ o∈X,o∈js∧J.ended o now=e_:=fun o ho=>by
  rw [hX] at ho;have:=Ll.mp ho;exact ⟨this.1,by simpa using this.2⟩
 have JX:J.JS now X:=by rw [hX]; exact JSj.swp
 have lX:X.length≤js.length:=by rw [hX]; exact Mv _ _
 have j4:js.length≤4:=hjl;have b0:=o0.len;have b1:=o1.len;have hpq:b_ "p"≠b_ "q":=by decide
 have jO:J.JS now (X ++ aa):=JX.app (fun n q=>⟨(o0.good n q).1,(o0.good n q).2.1,(o0.good n q).2.2.1⟩) b0 fun x hx n hn=>by rw [(o0.good n hn).2.2.2.1]; exact (hnm x (xj x hx).1).1
 have jP:J.JS now (X ++ ab):=JX.app (fun n q=>⟨(o1.good n q).1,(o1.good n q).2.1,(o1.good n q).2.2.1⟩) b1 fun x hx n hn=>by rw [(o1.good n hn).2.2.2.1]; exact (hnm x (xj x hx).1).2
 have lO:(X ++ aa).length≤5:=by rw [KS]; omega
 have lP:(X ++ ab).length≤5:=by rw [KS]; omega
 have sO:J.swp (X ++ aa) now=X ++ aa:=J.swp_all fun o ho=>(D_.mp ho).elim (fun q=>(xj o q).2) fun q=>(o0.good o q).2.2.2.2;have sP:J.swp (X ++ ab) now=X ++ ab:=J.swp_all fun o ho=>(D_.mp ho).elim (fun q=>(xj o q).2) fun q=>(o1.good o q).2.2.2.2;have t8:bT [.tup t,J.ej js,akn s0 h0 p0 O0,.str X0,.int now]=a_ (.ok (J.ej (X ++ aa))):=J.tk ht a0 r0 JSj (by omega) n0 n9 (by rw [hX]; exact o0.take js JJ.g (by omega) fun o ho=>(hnm o ho).1) (by omega);have t9:bT [.tup t,J.ej js,akn s1 h1 p1 O1,.str X1,.int now]=a_ (.ok (J.ej (X ++ ab))):=J.tk ht a1 r1 JSj (by omega) n0 n9 (by rw [hX]; exact o1.take js JJ.g (by omega) fun o ho=>(hnm o ho).2) (by omega);have ta:bT [.tup t,J.ej (X ++ aa),akn s0 h0 p0 O0,.str X0,.int now]=a_ (.ok (J.ej (X ++ aa))):=J.tk ht a0 r0 jO (by omega) n0 n9 (o0.again X JX.g (by omega) fun o ho=>⟨(hnm o (xj o ho).1).1,(xj o ho).2⟩) (by omega);have tb:bT [.tup t,J.ej (X ++ aa),akn s1 h1 p1 O1,.str X1,.int now]=a_ (.ok (J.ej (X ++ aa ++ ab))):=J.tk ht a1 r1 jO (by omega) n0 n9 (by
  have:=o1.take (X ++ aa) jO.g (by omega) fun o ho=>(D_.mp ho).elim (fun q=>(hnm o (xj o q).1).2) fun q=>by rw [(o0.good o q).2.2.2.1]; exact hpq
  rw [sO] at this;exact this) (by rw [KS]; omega)
 have tc:bT [.tup t,J.ej (X ++ ab),akn s0 h0 p0 O0,.str X0,.int now]=a_ (.ok (J.ej (X ++ ab ++ aa))):=J.tk ht a0 r0 jP (by omega) n0 n9 (by
  have:=o0.take (X ++ ab) jP.g (by omega) fun o ho=>(D_.mp ho).elim (fun q=>(hnm o (xj o q).1).1) fun q=>by rw [(o1.good o q).2.2.2.1]; exact hpq.symm
  rw [sP] at this;exact this) (by rw [KS]; omega)
 have gb:∀ n∈X ++ aa ++ ab,J.Good n:=fun n hn=>(D_.mp hn).elim (jO.g n) fun q=>(o1.good n q).1;have gc:∀ n∈X ++ ab ++ aa,J.Good n:=fun n hn=>(D_.mp hn).elim (jP.g n) fun q=>(o0.good n q).1;have hq:(X ++ aa ++ ab).Perm (X ++ ab ++ aa):=by
  rw [MJ,MJ];exact List.perm_append_comm.append_left X
 have vd:=J.vdo ht a0 r0 Jr n0 n9 (o0.word js JJ.g (by omega) fun o ho=>(hnm o ho).1);have sw:jp [J.ej js,.int now]=a_ (.ok (J.ej X)):=by rw [hX]; exact J.swept_w Jr n0 n9
 refine jR ?_;show db (J.Yk ns ck ck)=_;unfold db;have v1:ag bQ 2 (ac (ae 0) (ac (fC (.int 0)) ah)) (J.Yk ns ck ck)=a_ (.ok (.tup t)):=fA bQ rfl rfl eT;have v2:ag gl 3 (ac (ae 0) (ac (fC (.int 10)) (ac (fC (.int 4)) ah))) (J.Yk ns (a_ (.tup t)) ck)=a_ (.ok (J.ej js)):=rP gl rfl rfl rfl eJ;have v3:f2 ci (fB1 Aa (ac (f2 ci (cF [] (dR (ae 2)) ck (f2 ixD (ae 0) (fC (.int 9)))) (bJ (ac (fC (.int 0)) ah))) ah)) (ag ai 3 (ac (ae 0) (ac (fC (.int 80)) (ac (fC (.int 9)) ah)))) (J.Yk ns (a_ (.tup t)) (a_ (J.ej js)))=a_ (.ok (.int now)):=by
  rw [hW];exact (bf (g:=ci) (x:=.int L) (y:=.int d) eL (rP ai rfl rfl rfl eD)).trans rfl
 let Zm:=J.Zl ns t js now (akn s0 h0 p0 O0) (akn s1 h1 p1 O1)
 have v4:bJ (ac (ag dt 2 (ac (ae 0) (ac (fC (.int 90)) ah))) (ac (ag dt 2 (ac (ae 0) (ac (fC (.int 100)) ah))) ah)) [a_ (.scr ns),a_ (.tup t),a_ (J.ej js),a_ (.int now),ck,ck,ck,ck,ck,ck,ck,ck,ck,ck,ck,ck]=a_ (.ok (.lst [akn s0 h0 p0 O0,akn s1 h1 p1 O1])) :=
  jE (aj (fA dt rfl rfl eA0) (aj (fA dt rfl rfl eA1) aB)) (by show 2≤100000; decide)
 rw [ao (aW (ρ':=(J.Yk ns (a_ (.tup t)) ck)) v1 rfl),ao (aW (ρ':=(J.Yk ns (a_ (.tup t)) (a_ (J.ej js)))) v2 rfl),ao (aW (ρ':=[a_ (.scr ns),a_ (.tup t),a_ (J.ej js),a_ (.int now),ck,ck,ck,ck,ck,ck,ck,ck,ck,ck,ck,ck]) v3 rfl),
  ao (aW (ρ':=Zm ck ck) v4 rfl)]
 have q0:=J.round_of (ns:=ns) (t:=t) (js:=js) (now:=now) (A0:=akn s0 h0 p0 O0) (A1:=akn s1 h1 p1 O1) (k:=0) (xs:=[]) (nm':=b_ "p") (by simp) rfl rfl rfl eGA (by rw [hG0]; exact eX0);have q1:=J.round_of (ns:=ns) (t:=t) (js:=js) (now:=now) (A0:=akn s0 h0 p0 O0) (A1:=akn s1 h1 p1 O1) (k:=1) (xs:=[.str X0]) (nm':=b_ "q") (by simp) rfl rfl rfl eGB (by rw [hG1]; exact eX1);have hL:iZ 6 [6,7] bp [.int 0,.int 1] (Zm ck ck) []=a_ (.nx (Zm ck ck) [.str X0,.str X1]):=by
  show (match bp (Zm (a_ (.int 0)) ck) [] with
   | some (.nx ρ' xs')=>iZ 6 [6,7] bp [.int 1] ρ' xs'
   | o=>o)=_
  rw [q0];show (match bp (Zm (a_ (.int 1)) ck) [.str X0] with
   | some (.nx ρ' xs')=>iZ 6 [6,7] bp [] ρ' xs'
   | o=>o)=_
  rw [q1];rfl
 refine J.own_end (ds:=[.int 0,.int 1]) (xs:=[.str X0,.str X1]) rfl rfl hL ?_;have u0:∀ {q:Str},q∈pths→jt [.str p0,.str q]=bo (J.unB p0 q):=fun hq=>J.under_of m2 hq;obtain ⟨nr,_,hnr⟩:=J.near_w ht a0.h a0.o;have W0:=J.aw_of a0;have sn:=J.sent_w (s:=s0) ht (jO.jar (by omega)) W0 hnr n0 n9;have hgB:∀ N:J.Note,J.Good N→J.ended N now=e_→aw [.str h0,.str N.house]=bo d_→(N.ex=d_→h0=N.house)→(N.S && !s0)=e_→(N.R=b_ "near"→al [.tup t,akn s0 h0 p0 O0]=bo d_)→J.gB nr N s0 h0 p0 now=J.unB p0 N.path:=by
  intro N gN he k1 k2 k3 k4;unfold J.gB;have f1:(if N.ex=d_ then seq h0 N.house else J.wiB h0 N.house)=d_:=by
   split
   · rename_i hx;rw [k2 hx]; exact qC _
   · unfold J.wiB; rw [k1]; rfl
  have f2:(seq N.R (b_ "any") || nr)=d_:=by
   rcases gN.R with q | q
   · rw [q,qC]; rfl
   · have:=k4 q;rw [hnr] at this;have:nr=d_:=by simpa using this
     rw [this,Bool.or_true]
  rw [he,f1,f2,k3];simp
 show (av _ _) (J.Z16 ns t js now (akn s0 h0 p0 O0) (akn s1 h1 p1 O1) X0 X1 ck ck ck ck ck ck ck ck)=_;generalize hA0:akn s0 h0 p0 O0=A0 at *;generalize hA1:akn s1 h1 p1 O1=A1 at *;have i2:ixD A0 (.int 2)=a_ (.ok (.str p0)):=by rw [← hA0]; rfl
 have c1 (F:List Dv→Option (Rs Dv)) {f:FnE} {ρ:Ev} {a:Dv} {r:Option (Rs Dv)} (h:f ρ=a_ (.ok a)) (hF:F [a]=r):am F 1 (ac f ah) ρ=r:=cE F (aj h aB) rfl hF;have c5 (F:List Dv→Option (Rs Dv)) {e1 e2 e3:FnE} {ρ:Ev} {Y A:Dv} {X:Str} {r:Option (Rs Dv)} (h1:ae 1 ρ=a_ (.ok (.tup t))) (h2:e1 ρ=a_ (.ok Y)) (h3:e2 ρ=a_ (.ok A)) (h4:e3 ρ=a_ (.ok (.str X))) (h5:ae 3 ρ=a_ (.ok (.int now))) (hF:F [.tup t,Y,A,.str X,.int now]=r):am F 5 (ac (ae 1) (ac e1 (ac e2 (ac e3 (ac (ae 3) ah))))) ρ=r:=cE F (aj h1 (aj h2 (aj h3 (aj h4 (aj h5 aB))))) rfl hF;rw [ao (aW (ρ':=J.Z16 ns t js now A0 A1 X0 X1 (a_ (J.ej (X ++ aa))) ck ck ck ck ck ck ck) (c5 bT rfl rfl rfl rfl rfl t8) rfl),
  ao (aW (ρ':=J.Z16 ns t js now A0 A1 X0 X1 (a_ (J.ej (X ++ aa))) (a_ (J.ej (X ++ ab))) ck ck ck ck ck ck) (c5 bT rfl rfl rfl rfl rfl t9) rfl)]
 rw [ao (bL ((wC (oW (k:=d_) (bU (fR eK rfl (J.jar_y (jO.jar (by omega))))))).trans ((wC (oW (k:=d_) (bU (fR eK rfl (J.jar_y (jP.jar (by omega))))))).trans (bU (k:=e_) ((bf (g:=neX) (c5 bT rfl rfl rfl rfl rfl ta) rfl).trans (Bc (J.it_ej jO.g) (by omega)))))))];rw [ao (aW (ρ':=J.Z16 ns t js now A0 A1 X0 X1 (a_ (J.ej (X ++ aa))) (a_ (J.ej (X ++ ab))) (a_ (J.ej (X ++ aa ++ ab))) ck ck ck ck ck) (c5 bT rfl rfl rfl rfl rfl tb) rfl)];rw [ao (bL (bU (k:=e_) ((bf (g:=neX) (fR ef rfl (J.bare_of gb (by rw [KS]; omega))) (fR ef (c5 bT rfl rfl rfl rfl rfl tc) (J.bare_of gc (by rw [KS]; omega)))).trans (J.bare_ne gb hq))))];rw [ao (aW (ρ':=J.Zk ns t js now A0 A1 X0 X1 X aa ab w0 ck ck ck ck) (c5 gh rfl rfl rfl rfl rfl vd) rfl)];have cw {b:Bool} {ρ:Ev} (hρ:ae 11 ρ=a_ (.ok (.str w0))) (hb:dk (.str w0) (.tup [.str "kept",.str "gone"])=bo b):fB (f2 dk (ae 11) (cx (ac (fC (.str "kept")) (ac (fC (.str "gone")) ah)))) ρ=a_ (.ok b):=bU ((bf (g:=dk) (y:=.tup [.str "kept",.str "gone"]) hρ (oX (aj (x:=.str "kept") rfl (aj (x:=.str "gone") rfl aB)) (by show 2≤100000; decide))).trans hb)
 let Zq:=J.Zk ns t js now A0 A1 X0 X1 X aa ab
 rcases o0.kind with ⟨hw,ha⟩ | ⟨N,eN,gdN,uN,nN,k1,k2,k3,k4,hk⟩
 · have hb:dk (.str w0) (.tup [.str "kept",.str "gone"])=bo d_:=by
    simp only [s_,I_,or_false] at hw;rcases hw with rfl | rfl | rfl | rfl | rfl <;> kernel_rfl
   refine lV ?_;rw [xl (cw rfl hb)];refine cP ((bf (g:=eqX) rfl (cE jp (aj rfl (aj rfl aB)) rfl sw)).trans ?_);rw [ha,LD];exact F7 (J.it_ej JX.g) (by omega)
 · have hb:dk (.str w0) (.tup [.str "kept",.str "gone"])=bo e_:=by
    rcases hk with ⟨rfl,_⟩ | ⟨rfl,_⟩ <;> kernel_rfl
   rw [ao (bL (cw rfl hb))];rw [ao (aW (ρ':=Zq w0 (a_ (J.enc N)) ck ck ck) (J.cE4 cH rfl rfl (c1 aJ rfl r0) rfl eN) rfl)];have hkX:∀ o∈X,¬ J.key o=J.key N:=fun o ho z=>by
    unfold J.key at z;simp only [MC] at z;rw [nN] at z;exact (hnm o (xj o ho).1).1 z.1
   have hf:((X ++ aa).filter fun o=>u_ (J.key o=J.key N))=aa:=by
    rw [RF,M_.mpr fun o ho=>by rw [decide_eq_true_eq]; exact hkX o ho];rcases hk with ⟨_,e⟩ | ⟨_,e⟩ <;> rw [e] <;> simp
   have v13:cF [("_law_note",12)] (dR (ae 8)) (a_ (fB (f2 eqX (ag dw 1 (ac (ae 0) ah)) (ag dw 1 (ac (ae 1) ah))))) (ae 0) (Zq w0 (a_ (J.enc N)) ck ck ck)=a_ (.ok (.lst (aa.map J.enc))):=(ju J.enc (fun o=>u_ (J.key o=J.key N)) J.enc (J.src_of rfl) (by omega) fun o ho=>⟨bU ((bf (g:=eqX) (fR dw rfl (J.key_of o)) (fR dw rfl (J.key_of N))).trans (J.eq_ek (jO.g o ho) gdN).1),rfl⟩).trans (by rw [hf]);have gZ:∀ o∈aa,J.Good o:=fun o ho=>(o0.good o ho).1;have v14:cp 1 [("_law_jar_here",2),("_law_mine",13)] (dR (ae 8)) (gN 0) (a_ (cM (fB (f2 dk (ae 0) (ae 2))) (fB (f2 dk (ae 0) (ae 1))))) (ae 0) (Zq w0 (a_ (J.enc N)) (a_ (.lst (aa.map J.enc))) ck ck)=a_ (.ok (.lst [])):=by
    have e0:((X ++ aa).filter fun o=>!u_ (o∈aa) && !u_ (o∈js))=[]:=M_.mpr fun o ho=>by
     rcases D_.mp ho with q | q
     · simp [(xj o q).1]
     · simp [q]
    exact (jQ J.enc (fun o=>!u_ (o∈aa) && !u_ (o∈js)) J.enc (J.src_of rfl) (by omega) fun o ho=>⟨J.bAnd_o (bU ((bf (g:=dk) (x:=J.enc o) (y:=.lst (aa.map J.enc)) rfl rfl).trans (J.in_n (jO.g o ho) gZ).1)) (bU ((bf (g:=dk) (x:=J.enc o) (y:=J.ej js) rfl rfl).trans (J.in_n (jO.g o ho) JJ.g).2.1)),rfl⟩).trans (by rw [e0]; rfl)
   rw [ao (aW (ρ':=Zq w0 (a_ (J.enc N)) (a_ (.lst (aa.map J.enc))) ck ck) v13 rfl),
    ao (aW (ρ':=Zq w0 (a_ (J.enc N)) (a_ (.lst (aa.map J.enc))) (a_ (.lst [])) ck) v14 rfl)]
   have hM:leX (.int ((X ++ aa).length:Int)) (.int ((js.length:Int) + 1))=bo d_:=by
    show a_ (Rs.ok (Dv.bl (u_ (((X ++ aa).length:Int)≤(js.length:Int) + 1))))=_;rw [decide_eq_true (by rw [KS]; omega)]
   have lT:∀ l:List J.Note,gU [J.ej l]=a_ (.ok (.int (l.length:Int))):=fun l=>by
    show a_ (Rs.ok (Dv.int ((l.map J.enc).length:Int)))=_;rw [KR]
   have fin:∀ x15,aA (f2 leX (fB1 gU (ac (ae 8) ah)) (f2 ci (fB1 gU (ac (ae 2) ah)) (fC (.int 1)))) (Zq w0 (a_ (J.enc N)) (a_ (.lst (aa.map J.enc))) (a_ (.lst [])) x15)=a_ (.rt (.bl d_)):=fun x15 =>
    cP ((bf (g:=leX) ((dD (aj (x:=J.ej (X ++ aa)) rfl aB)).trans (lT _)) ((bf (g:=ci) (x:=.int (js.length:Int)) (y:=.int 1) ((dD (aj (x:=J.ej js) rfl aB)).trans (lT _)) rfl).trans rfl)).trans hM)
   have emp:aa.isEmpty=okY (eqX (.str w0) (.str "gone"))∧eqX (.str w0) (.str "gone")=bo (okY (eqX (.str w0) (.str "gone"))):=by
    rcases hk with ⟨rfl,e⟩ | ⟨rfl,e⟩ <;> rw [e] <;> exact ⟨by kernel_rfl,by kernel_rfl⟩
   have c4:(bOr (fB (f2 neX (f2 eqX (ae 13) (bJ ah)) (f2 eqX (ae 11) (fC (.str "gone"))))) (fB (f2 neX (ae 14) (bJ ah)))) (Zq w0 (a_ (J.enc N)) (a_ (.lst (aa.map J.enc))) (a_ (.lst [])) ck)=a_ (.ok e_):=by
    have z1:f2 eqX (ae 13) (bJ ah) (Zq w0 (a_ (J.enc N)) (a_ (.lst (aa.map J.enc))) (a_ (.lst [])) ck)=bo aa.isEmpty:=(bf (g:=eqX) (x:=.lst (aa.map J.enc)) (y:=.lst []) rfl (jE aB (by show 0≤100000; decide))).trans (J.nilE gZ);have z2:f2 eqX (ae 11) (fC (.str "gone")) (Zq w0 (a_ (J.enc N)) (a_ (.lst (aa.map J.enc))) (a_ (.lst [])) ck)=bo aa.isEmpty:=(bf (g:=eqX) (x:=.str w0) (y:=.str "gone") rfl rfl).trans (by rw [emp.1]; exact emp.2);refine (wC (bU (k:=e_) ((bf (g:=neX) z1 z2).trans ?_))).trans (bU (k:=e_) ((bf (g:=neX) (x:=.lst []) (y:=.lst []) rfl (jE aB (by show 0≤100000; decide))).trans (by kernel_rfl)));show a_ (Rs.ok (Dv.bl (!(aa.isEmpty == aa.isEmpty))))=_;simp
   rw [ao (bL c4)];have v15:am kT 4 (ac (ae 1) (ac (ae 8) (ac (f2 ixD (ae 4) (fC (.int 0))) (ac (ae 3) ah)))) (Zq w0 (a_ (J.enc N)) (a_ (.lst (aa.map J.enc))) (a_ (.lst [])) ck)=a_ (.ok (.lst ((J.snt (J.gon nr (X ++ aa) s0 h0 p0 now)).map J.enc))):=J.cE4 kT rfl rfl rfl rfl sn;rcases hk with ⟨rfl,e⟩ | ⟨rfl,e⟩
   · have kf:∀ x15,fB (f2 eqX (ae 11) (fC (.str "kept"))) (Zq (b_ "gone") (a_ (J.enc N)) (a_ (.lst (aa.map J.enc))) (a_ (.lst [])) x15)=a_ (.ok e_):=fun x15=>bU ((bf (g:=eqX) (x:=.str (b_ "gone")) (y:=.str "kept") rfl rfl).trans (by kernel_rfl));rw [ao (bL (yn (kf ck))),ao (aW v15 rfl)];refine (ao (bL (yn (kf _)))).trans ?_;exact fin _
   · have kt:∀ x15,fB (f2 eqX (ae 11) (fC (.str "kept"))) (Zq (b_ "kept") (a_ (J.enc N)) (a_ (.lst (aa.map J.enc))) (a_ (.lst [])) x15)=a_ (.ok d_):=fun x15=>bU ((bf (g:=eqX) (x:=.str (b_ "kept")) (y:=.str "kept") rfl rfl).trans (by kernel_rfl));have m0:∀ x15,f2 ixD (ae 13) (fC (.int 0)) (Zq (b_ "kept") (a_ (J.enc N)) (a_ (.lst (aa.map J.enc))) (a_ (.lst [])) x15)=a_ (.ok (J.enc N)):=fun x15=>(bf (g:=ixD) (x:=.lst (aa.map J.enc)) (y:=.int 0) rfl rfl).trans (by rw [e]; rfl);have hN:N∈aa:=by rw [e]; exact KN.mpr rfl
     have c6:(bOr (fB (f2 neX (eW (f2 ixD (ae 13) (fC (.int 0))) dv (cG (fC (.int 8)))) (eW (ae 12) dv (cG (fC (.int 8)))))) (fB (f2 neX (f2 ixD (f2 ixD (ae 13) (fC (.int 0))) (fC (.int 9))) (ae 3)))) (Zq (b_ "kept") (a_ (J.enc N)) (a_ (.lst (aa.map J.enc))) (a_ (.lst [])) ck)=a_ (.ok e_):=by
      have z1:eW (f2 ixD (ae 13) (fC (.int 0))) dv (cG (fC (.int 8))) (Zq (b_ "kept") (a_ (J.enc N)) (a_ (.lst (aa.map J.enc))) (a_ (.lst [])) ck)=a_ (.ok (.tup (J.e8 N))):=by
       unfold eW;rw [m0];rfl
      refine (wC (bU (k:=e_) ((bf (g:=neX) z1 (y:=.tup (J.e8 N)) rfl).trans (Bc (J.it_e8 gdN) (by omega))))).trans (bU (k:=e_) ((bf (g:=neX) (x:=.int N.us) (y:=.int now) ((bf (g:=ixD) (x:=J.enc N) (y:=.int 9) (m0 ck) rfl).trans rfl) rfl).trans ?_));show a_ (Rs.ok (Dv.bl (!(N.us == now))))=_;rw [uN]; simp
     rw [ao (bL ((ym (kt ck)).trans c6)),ao (aW v15 rfl)];refine (ao (bL ?_)).trans (fin _);refine (ym (kt _)).trans ?_;have gs:=J.sent_g (nr:=nr) (s:=s0) (h:=h0) (p:=p0) (now:=now) (jO.jar (by omega));have hd:u_ (N∈J.snt (J.gon nr (X ++ aa) s0 h0 p0 now))=J.unB p0 N.path:=by
      rw [Lm,decide_eq_true_eq,J.mem_snt,hgB N gdN (o0.good N hN).2.2.2.2 k1 k2 k3 k4];constructor
      · exact fun q=>q.2
      · exact fun q=>⟨m_ _ hN,q⟩
     refine bU (k:=e_) ((bf (g:=neX) (x:=.bl (J.unB p0 N.path)) (y:=.bl (J.unB p0 N.path)) ((bf (g:=inX) (m0 _) (y:=.lst ((J.snt (J.gon nr (X ++ aa) s0 h0 p0 now)).map J.enc)) rfl).trans ?_) (cE jt (aj (x:=.str p0) ((bf (g:=ixD) (x:=A0) (y:=.int 2) rfl rfl).trans i2) (aj (x:=.str N.path) rfl aB)) rfl (u0 gdN.path))).trans ?_)
     · rw [(J.in_n gdN gs).2.2,hd]
     · show a_ (Rs.ok (Dv.bl (!(J.unB p0 N.path == J.unB p0 N.path))))=_;simp
theorem xP (ns:List Int) (hl:ns.length≤63):u8 [.scr ns]=a_ (.ok (.bl d_)):=by
 obtain ⟨t,ht,eT⟩:=xB ns hl;refine fT ?_;show u5 [a_ (.scr ns)]=_;unfold u5;refine cP ?_;unfold pK;have z1:ag bE 1 (ac (ag bQ 2 (ac (ae 0) (ac (fC (.int 0)) ah))) ah) [a_ (.scr ns)]=a_ (.ok (.bl d_)):=fR bE (fA bQ rfl rfl eT) (KJ ht);exact (yo z1).trans (fR eA rfl (sty ns hl ht eT))
end G
namespace G
open PySem PySem.Spec PyProof.Rows L2 FD
theorem walk {l:Qi} {q:rl} {loose:List Str} {XP:(Str→Option g_)→KO→Prop} {YP:C_→KO→Prop} {d:DefRec} {K:OL→f_} {Pt:l_} (hn:l.most=a_ 63) (hdf:d.params.defaults=[])
 (hY:∀ (w:C_) (h:KO),YP w h→(K w.params).In h) (hYT:∀ (w:C_) (h:KO),YP w h→h.get? Pt=a_ { cls:=.none,data:=.fields #[] }∧QC h Pt∧(K w.params).lookup Pt=ck)
 (F:∀ (w:C_) (mg:Str→Option g_) (fa:l_) (h:KO),(K w.params).In h→h.Ns z_ mg→mg d.name=a_ (.ref fa) →
   ∃ fd:Lv,(∀ (s:h_) (u:g_),Q0 s fd ⟨[u],[]⟩ [("_law_script",u)])∧∀ base:KO,(K w.params).In base→base.Ns z_ mg→FnOk l.prog w (K w.params) mg base CX0 13 fa fd ["_law_script"] (spT Pt qL (K w.params) u8 1)) :
 S3 q loose XP YP l.row.toRowW d [] (fun f vs=>SL f vs) :=
 xi (n:=63) (k:=13) (x:="_law_script") (CX:=fun _=>CX0) (sp:=fun w=>spT Pt qL (K w.params) u8 1) hn (by decide) hdf ⟨rfl,by decide,by decide,rfl⟩ hY hYT F
  (fun _ _ a ns hl hS hT=>⟨hT,[.scr ns],⟨.ref a,[],rfl,⟨a,rfl,hS⟩,rfl⟩,rfl,by rw [xP ns hl]; exact fun v H' _ r=>r⟩) fun _ _ _ _ _ z=>z
end G
open PySem PySem.W PyProof.Rows
set_option maxRecDepth 100000 in
theorem PySem.Challenge.cw_notejar_k53_whole_taken_holds : PySem.Challenge.rw_notejar_k53_whole_taken.Holds := by
 refine G.hld fun said=>?_;refine PySem.W.holds_open (q:=G.VQ) (loose:=G.VL) (Xt:=fun s=>recOk [] s) (XP:=fun _ _=>True) (Yf:=Hook.obs (S6 G.KK G.KA G.KA_ok)) (Ya:=Hook.val (S6 G.KK G.KA G.KA_ok)) (YP:=Hook.says (S6 G.KK G.KA G.KA_ok)) (N:=8328) G.left (Hook.of (S6 G.KK G.KA G.KA_ok)) (Hook.keeps (S6 G.KK G.KA G.KA_ok)) (fun _ _=>trivial) (fun _ _ _ _ _=>trivial) (by rfl) (by rfl) (by rfl) (fun s e=>recFacts_of e) (by rfl) (by first | assumption | decide +kernel) (by decide +kernel) G.hbr ?hw ?hc
 (case hw=>w_witness2)
 refine G.walk (l:=PySem.Challenge.rw_notejar_k53_whole_taken) rfl rfl (K:=G.KL) (Pt:=500) (fun w h Y=>G.KL_in (QI Y)) (fun w h Y=>⟨G.KT_in (QI Y),FD.ctB_tab (f:=503) (G.KL_in (QI Y)) (by kernel_rfl),by kernel_rfl⟩) ?F
 case F =>
  intro w mg fa h KX hG hmg;exact G.all_mk (C1:=37) (C2:=49) (C3:=61) (C4:=73) (C5:=85) (C6:=97) (CJ:=24) KX hG hmg (G.af 104 "notejar.kinds" 303) (G.af 125 "notejar.names" 328) (G.af 130 "notejar.names" 328) (G.af 196 "notejar.paths" 423) (G.af 118 "notejar.kinds" 303) (G.af 252 "notejar.asks" 467) (G.af 259 "notejar.asks" 467) (G.af 388 "notejar.notes" 614) (G.af 424 "notejar.jars" 750) (G.af 419 "notejar.jars" 750) (G.af 111 "notejar.kinds" 303) (G.af 231 "notejar.asks" 467) (G.af 238 "notejar.asks" 467) (G.af 273 "notejar.giving" 527) (G.af 285 "notejar.giving" 527) (G.af 278 "notejar.giving" 527) (G.af 353 "notejar.notes" 614) (G.af 414 "notejar.jars" 750) (G.af 431 "notejar.jars" 750) (G.af 245 "notejar.asks" 467) (G.af 137 "notejar.names" 328) (G.af 142 "notejar.names" 328) (G.af 149 "notejar.names" 328) (G.af 306 "notejar.giving" 527) (G.af 313 "notejar.giving" 527) (G.af 318 "notejar.giving" 527) (G.af 462 "notejar.jars" 750) (G.af 395 "notejar.notes" 614) (G.af 374 "notejar.notes" 614) (G.af 360 "notejar.notes" 614) (G.af 168 "notejar.names" 328) (G.af 161 "notejar.names" 328) (G.af 175 "notejar.names" 328) (G.af 182 "notejar.names" 328) (G.af 325 "notejar.notes" 614) (G.af 332 "notejar.notes" 614) (G.af 292 "notejar.giving" 527) (G.af 299 "notejar.giving" 527) (G.af 203 "notejar.paths" 423) (G.af 210 "notejar.paths" 423) (G.af 367 "notejar.notes" 614) (G.af 189 "notejar.names" 328) (G.af 266 "notejar.asks" 467) (G.af 339 "notejar.notes" 614) (G.af 156 "notejar.names" 328) (G.af 346 "notejar.notes" 614) (G.af 381 "notejar.notes" 614) (G.af 224 "notejar.paths" 423) (G.af 481 "notejar.jars" 750) (G.af 474 "notejar.jars" 750) (G.af 469 "notejar.jars" 750) (G.af 572) (G.af 510) (G.af 517) (G.af 524) (G.af 536) (G.af 543) (G.af 567) (G.af 550) (G.af 562) (G.af 529) (G.af 557) (G.af 402 "notejar.notes" 614) (G.af 409 "notejar.notes" 614) (G.af 498 "notejar.jars" 750) (G.af 503 "notejar.jars" 750) (G.af 450 "notejar.jars" 750) (G.af 445 "notejar.jars" 750) (G.af 438 "notejar.jars" 750) (G.af 455 "notejar.jars" 750) (G.af 491 "notejar.jars" 750) (G.af 486 "notejar.jars" 750) (G.af 217 "notejar.paths" 423) (G.af 577) (G.af 584) (by kernel_rfl) (by kernel_rfl) (by kernel_rfl) (by kernel_rfl)
#print axioms PySem.Challenge.cw_notejar_k53_whole_taken_holds
