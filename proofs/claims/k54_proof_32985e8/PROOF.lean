import PyProof.Rows.All
import Wide.All
import OpenK.AllK
import Wide.FinOn
import Lean
import PyProof.EqAt
import PyProof.EqKinds
import PyProof.TupleCall
import PySem.SetTable
import PyProof.SetKind
import PyProof.TupleKey
import PyProof.DictKinds
import PyProof.Rows.SetFrom
import PyProof.ZipIter
import KE.KIntText
import PyProof.EnumIter
import PyProof.Rows.SortStr
import PyProof.Rows.SortWalk
import PyProof.Rows.MinMaxN
import PyProof.ConsumeWalk
import PyProof.CollectWalk
import PyProof.WalksMore
import PyProof.CollectStr
import PyProof.Rows.SortShellK
import PyProof.Rows.SortRunsK
import PyProof.SeqI3
import KE.KSortKey
import PyProof.Rows.CallKwBuiltin
import PyProof.SumAny
import KE.KLam
import PyProof.StrLawsTight
import PyProof.Rows.StrDigits
import PySem.Challenge.RW_notejar_k54_whole_safe_ones
open Option renaming some → a_, none → ck, isSome_iff_exists → Lq, bind_eq_some_iff → Lz, map_some → LQ, map_eq_some_iff → OD, all_some → OL, getD_some → QE, getD_none → QF
open PySem.Str renaming ofString → b_, length → NK
open PySem renaming wpAny_bind → c_, Value → g_, Shared → h_, wpAny_pure → j_, Addr → k_, starEach → l_, Program → rl, wpAny → uk, mainGlobals → y_, model → z_, World → C_, Around → D_, Expr → F_, Heap → H_, assignEach → Jq, behindInMarks → Jt, wpAny_mono → JC, foldedSetIterable → JF, compareOp → JL, cellsFrom → JM, backTo → JV, wpAny_holding → JY, FuncData → JZ, wpAny_setState_of → Kb, wpAny_field → Ke, wpAny_seqItems → Kl, codeAny_builtin → Ko, bootBuiltins → Kp, wpAny_callSpecial?_slot → Kr, Stmt → Ky, Scope → Kz, keywordEach → KQ, wpAny_truthy_bool → KT, wpAny_newObj_type → KU, swapsWith → KW, wpAny_Call_Name_kw → K4, binaryOp → Lg, setSearchFrom → Ln, mem_of_lookup → Lr, wpAny_getItem_str_slice → Ls, wpAny_forIn_list → Lu, wpAny_call_entry → Lv, NameKind → Lx, wpAny_setField_rec → LF, codeAny_mono → LG, closureFor → LH, assign → LI, wpAny_eqIsQuiet_tuple → LX, wpAny_pyIter_list → L3, codeAny → L4, Keyword → L5, backToKw → L8, Builtin → Me, IsPair → Mj, attributeBase → Mq, wpAny_passesOwn → Ms, unsupported → MB, sliceBounds → MC, sizeLine_eq → MD, wpAny_typeOf → MI, wpAny_storeSet_of → MJ, searchCouldBeSeen → MK, ofAClassStatement → ML, holding → MM, GenState → MR, wpAny_setFlight_noneW → M1, wpAny_rule → M4, typeIs_str → M5, call_meets → M6, wpAny_execs_nil → Ni, post_val_or_str → Nj, letOwnedTupleGo → Nk, codeAny_of_tree → Nl, Params → Nm, PassesOwn → ND, wpAny_pyIter_tuple → NG, wpAny_newFunctionEnv_cells → NH, wpAny_comprehension_free → N6, wpAny_attempt → N7, pyNext → N8, plainId_quiet → N9, noFill_tuple_add → Oc, codeAmong → Oe, setAddHashed → Os, rawInt → Ot, notedBy → Ou, getItem → Ov, IsPart → Oy, BindsTo → Oz, importedModules → OH, IsZip → OK, weight_type_call_type → OQ, wpAny_updateSeq_pair → OU, wpAny_runValue → OV, newFunctionEnv → OW, lookup_relabel_local → OX, isCodeTable → OY, hashByValue → OZ, codeAny_call_builtin → O1, bindArgs → O2, Result → O9, treeTable → Pk, callerA → Pl, wpAny_standAt → PD, wpAny_onRaise → PF, wpAny_newList → PH, swapsWithSole → PJ, swappedStores → PK, seq_tuple_add → PM, Model → PQ, wpAny_call → PU, list_append → P_, concat_meets → Qa, compEnvC → Qb, putSet_of → Qq, noteFrame → Qr, TriplesOk → Qv, Thread → Qw, Fin → QD, wpAny_of_eq → QL, wpAny_mkInt → QM, wpAny_letGo → QN, wpAny_alloc → QO, subscripted → QP, strIterType → QQ, seqIndex_of → QR, storeSet → Q0, setRelay → Q1, isSame → Q2, intText? → Q3, field → Q4, call → Q5, boot_len → Q6, bindL → Q7, bindC → Q8, ZipApart → Q9, again → Rm
open Bool renaming false → d_, true → e_, and_eq_true → on, false_eq_true → p_, false_ne_true → xy, eq_iff_iff → JX, not_true → Kn, and_eq_true_iff → Ku, not_false → KD, not_eq_true' → Lm, beq_eq_decide_eq → L1, and_false → NX, and_self → PR, not_not → Qn, or_eq_true → QY
open PySem.W renaming Frag → f_, keepIn → Ka, kia_one → Kh, hideAll_none → Ks, emptyDict → Kx, nsIn → KN, instObj → Ld, kitOne → Lw, of_hideAll → LJ, fnOf → LK, kla_obj → LP, mg_of → LU, findIn → MN, cellsFrom_some → MO, hideAll_get → Nt, codeIn → NI, methodObj → N1, absHeap → Ow, OpenLaw → OI, lookIn → O3, kla_fn → O4, kIn_of → O5, pyHash_slot → Pn, excIn → PN, specialIn → Qc, kitx_list → Qd, kitx_dict → Qe, plainGet → Qs, hideAll → QT, through → QZ, openEnds → Q_, WalkO → Rj, kHook → Rn, isFn → Rq
open PySem.Heap renaming get?_push_of_some → i_, get?_push_size → s_, lt_size → v_, size_push → JE, get?_update_ne → KF, SameBut → Lh, get?_update_self → LY, get?_update_other → MQ, get?_none_of_le → Nf, size_update → QC
open List renaming mem_append_right → m_, mem_cons_self → n_, mem_cons_of_mem → o_, range → pi, mem_cons → w_, mem_append_left → A_, getElem?_eq_getElem → B_, size_toArray → E_, replicate → Jj, mem_singleton → Jk, not_mem_nil → Jl, getElem?_eq_some_iff → Jm, mem_append → Jn, length_map → Jo, map_cons → Ju, mem_filter → Jw, mem_map → Jz, getElem?_map → JG, lookup_cons → JN, mem_range → JQ, getElem?_set_ne → J0, getElem?_set_self → J_, length_append → Kf, all_eq_true → Kj, length_filter_le → Kk, length_set → Kq, getElem?_append_right → KC, getElem?_append_left → KG, map_append → KY, any_eq_true → K3, set_cons_zero → K7, set_cons_succ → K8, pairwise_cons → K9, lookup_append → K_, length_replicate → Lb, reverse_cons → Lk, mem_of_getElem? → Ll, length_eq_zero_iff → LA, length_cons → LB, getElem?_replicate → LC, nodup_cons → LS, all_cons → LW, getElem?_eq_none → L0, perm_append_singleton → Mb, getD_eq_getElem?_getD → Mc, getElem_mem → Mh, reverse_append → Mm, getElem?_range → Mn, filterMap_cons → Mp, append_nil → My, filterMap_map → Mz, getElem?_cons_succ → MF, getD → MG, take_of_length_le → MX, pairwise_map → MY, length_range → MZ, length_drop → M_, drop_length → Na, any_cons → Nd, length → Nh, of_mem_zip → Nr, map_map → NB, attach_map_subtype_val → NC, mem_filterMap → NU, getElem?_drop → NV, forIn_nil → NW, pairwise_iff_getElem → NZ, append_assoc → N3, getElem?_take_of_lt → Ob, pmap_eq_map_attach → On, length_take → Oo, filter_cons_of_pos → Op, filter_cons_of_neg → Oq, range_succ_eq_map → OE, pairwise_lt_range → OF, range_succ → OM, forIn_cons → ON, length_singleton → OS, filterMap_eq_map → OT, mem_iff_getElem → Pg, drop_zero → Ph, toList_toArray → PC, getElem?_pmap → P7, ext_getElem? → Qk, any_eq_false → Ql, zipIdx_cons → QH, mem_reverse → QI, getElem_inj → QJ, zipIdx_nil → QW, nil_append → QX
open PySem.Value renaming ref → q_, type → x_, none → Js, bool → JO, builtin → Lo, str → Md, isStrOf_shape → Po, int → Qt
open Nat renaming le_refl → r_, lt_of_lt_of_le → G_, ne_of_lt → I_, le_trans → Jy, zero_le → JA, eq_of_beq_eq_true → JU, lt_irrefl → Kw, le_add_right → KI, ne_of_beq_eq_false → K1, le_of_lt_succ → Lj, ne_of_gt → LO, not_lt_zero → LR, le_of_ble_eq_true → LZ, lt_succ_of_lt → L6, zero_add → Mf, le_of_lt → Mg, beq → Mv, succ_pos → MV, le_of_eq → MW, lt_succ_self → M9, mod_lt → NT, add_sub_cancel_left → Om, le_succ → Pf, add_left_cancel → PB, lt_trans → Qj, min_le_right → QG, ble → Rr
open PySem.SetTable renaming insertAt → t_, insertAt_perm → LL, grown → L_, tooFull → M7, fill → Oa, turns → OJ, sameMemory → Pp, leap → PP, gaveWay → Qx, advance → Qy, relaid → QU, runEnd → Ra, probe → Rb, layClean → Rc, fits → Rk
open Decidable renaming decide → u_
open Option.some renaming inj → Jp, injEq → Li
open PySem.Txt renaming startswith → Jv, stripChars → KR, partition → K2, split → Le, join → L9, endswith → Nx, slice_le → Ox, slice → Qu, rfind → Ro
open PySem.Builtin.Str renaming occurrences → Jx, strKind → KZ, glued → Qg
open Array renaming length_toList → JB, getElem?_eq_some_iff → JR, mem_toList_iff → Kg, forIn_toList → La, size_map → LD, getD_eq_getD_getElem? → L7, toList_push → M0, getElem?_toList → M3, append_assoc → NY, getElem?_eq_getElem → N0, size_append → N5, toList_filterMap → OG, replicate → OP, getElem?_map → P9, getElem_mem → Qo, mem_filter → QK
open PySem.Obj renaming mapSeq → JD, putSet → K5, mk → LM, data_mapFields → PZ
open PySem.PyData renaming eqv → JH, canLay0 → JP, canLayAll0 → KB, eqvAll → KO, depthAll → Mt, depth → MP
open False renaming elim → JK
open PyProof.Rows renaming slot_tuple_getitem → JW, callWith_type1 → Kc, seqObj → Ki, envOfC → LN, get?_update_seq → Mu, SortSt → MT, callWith_builtin1 → M8, listUpdate_at → Nc, arrOf → Nu, AllBare → NA, pendingOf → Ol, subscriptTail_builtinR → OA, listItems_at → OB, IntsAre → OC, SortKind → Pe, failedOf → Qh, Keyed → Qi, IsTup → Rf
open PySem.Builtin.SmallTypes renaming nextOf → J8, ownedTupleIsFree → Km, ownedTupleHandOut → Ml
open PySem.F renaming called_set → J9, slot_tuple_iterator_next → K6, excBase_ValueError → Ma, args_tuple_add_2 → Mr, entry_tuple_add → ME, slot_str_split → MH, slot_tuple_add → MS, slot_list_append → Ng, slot_zip_next → Nn, plain_set_new → No, args_tuple_iterator_next_1 → Np, entry_tuple_iterator_next → Ny, args_str_split_2 → NN, entry_str_split → N2, slot_str_partition → Og, slot_list_index → Oh, plainAttrs_list → Oi, sub_list_frozenset → O_, args_list_append_2 → Pb, entry_list_append → Pz
open PyProof.Rows.F renaming plain_set_update_loop → Kt, entry_set_update_loop → Ly
open PySem.NameKind renaming free → Kv, cell → KP
open PySem.ClassData renaming mk → KH
open Int renaming emod_lt_of_pos → KM, emod_nonneg → Lf, lt_of_le_of_lt → P8, toNat_natCast → Qm
open PySem.Around renaming under_plainId → KS, under_plain → P6
open PySem.Heap.SameBut renaming update → K0
open PySem.Builtin.Slice renaming slicePlaces → Lc, sliceAdjust → Mi, sliceApplied → NR
open PySem.Builtin.Tuple renaming tupleExact → Lp, tupleItemsOf → NQ
open PySem.Data renaming dict → LV, cls → Oj, fields → Pc
open List.cons renaming injEq → Mw
open Ne renaming symm → MU
open PySem.SetTable.layClean renaming free → Nb
open PySem.Builtin.Frozenset renaming updateFrom → Nq, newClass → NS
open PySem.W.Fast renaming tw11892475500146522536 → Nv, tw10156331382660048174 → Nw, tw6613529449190102663 → NJ
open PySem.Builtin.List renaming listExtendWith → Nz
open True renaming intro → NF
open PySem.SeqAt.EqAt renaming str_int → NL, int_str → NM, none_bool → O6, bool_none → O7, bool_bool → O8, str_none → Pq, str_bool → Pr, none_str → Ps, none_int → Pu, int_none → Pv, int_bool → Pw, bool_str → Px, bool_int → Py, str_str → PX, int_int → PY, same → QV
open PySem.Code renaming quiet_builtin → NO
open PySem.Calls renaming Name_function_global → NP, evalArgs_plain → Pd, spliced_cons → P0, spliced_nil → Qf
open List.Pairwise renaming nil → N4
open PySem.Shared renaming TypeIs → N_
open PySem.SetTable.probe renaming go → Of
open ForInStep renaming yield → OO
open PySem.StrLaws renaming glued_eq_join → OR
open Sum renaming inr → Pi, inl → Pj
open LawfulBEq renaming eq_of_beq → Pm
open PySem.Walks renaming list → PV
open Std.Legacy renaming Range → Qp
open PySem.IsL renaming update → Qz
open StateT renaming run_pure → QS
open PySem.SetFound renaming there → Re
open List.Perm renaming swap → Rg
open ForIn renaming forIn → Rh
open Sum.inr renaming injEq → Ri
open Function renaming comp → Rl
open PyProof.Rows.IsTup renaming new → Rp
open PySem.SetTable.below renaming go → Rt
set_option maxHeartbeats 4000000
set_option Elab.async false
namespace TR
open PySem PySem.W
def iP (tb:String→Option Me) (p:rl) (w:C_) (n₀:Nat) (ann:Option g_):Nat→SharedT→Qw→Option SharedT
 | 0,_,_=>ck
 | n + 1,s,t=>match QZ t with
  | true=>a_ s
  | false=>match stepOk n₀ ann t with
   | false=>ck
   | true=>match stepT (denote tb) p w s t with
    | some (s',t')=>iP tb p w n₀ ann n s' t'
    | none=>ck
def jF:List Obj→BT→Nat→Option (BT×Nat)
 | [],t,n=>a_ (t,n)
 | o :: os,t,n=>match ((t.ins n o).get n).isSome with
  | true=>jF os (t.ins n o) (n + 1)
  | false=>ck
def uY (tb:String→Option Me) (p:rl) (w:C_) (N:Nat):Option h_:=(fencedOpening tb p w N).bind fun s₀=>match s₀.heap.isNs y_ && s₀.gens.size == 0 with
 | true=>(jF s₀.heap.objs.toList .nil 0).bind fun x=>(iP tb p w s₀.heap.objs.size (s₀.heap.nsMap y_ "__annotations__") N ⟨x.1,x.2,s₀.heap.life,s₀.gens,s₀.drawn,s₀.toks,s₀.os⟩ (topStub p)).bind fun sT=>match staticsOk (OH p.main.body) s₀.heap sT.abs.heap && namesBound p sT.abs.heap && gensDone sT.abs && laidKept s₀.heap sT.abs.heap with
  | true=>a_ sT.abs
  | false=>ck
 | false=>ck
section
variable {tb:String→Option Me} {p:rl} {w:C_} {n₀:Nat} {ann:Option g_}
theorem jd:∀ (n:Nat) (s:SharedT) (t:Qw) (s':SharedT),iP tb p w n₀ ann n s t=a_ s'→topRun tb p w n₀ ann n s.abs t=a_ s'.abs
 | 0,_,_,_,h=>by cases h
 | n + 1,s,t,s',h=>by
  unfold iP at h;unfold topRun;cases ht:QZ t with
  | true=>rw [ht] at h; cases h; rfl
  | false =>
   rw [ht] at h;cases hk:stepOk n₀ ann t with
   | false=>rw [hk] at h; cases h
   | true =>
    rw [hk] at h;cases hs:stepT (denote tb) p w s t with
    | none=>rw [hs] at h; cases h
    | some x =>
     obtain ⟨s1,t1⟩:=x;rw [hs] at h;dsimp only at h ⊢;rw [stepT_spec hs];exact jd n s1 t1 s' h
theorem jG {life:Life}:∀ (os:List Obj) (t:BT) (n:Nat) (t':BT) (n':Nat),jF os t n=a_ (t',n')→(Ow t' n' life).objs=(Ow t n life).objs ++ os.toArray
 | [],t,n,t',n',h=>by cases h; simp
 | o :: os,t,n,t',n',h=>by
  unfold jF at h;cases e:((t.ins n o).get n).isSome with
  | false=>rw [e] at h; cases h
  | true =>
   rw [e] at h;rw [jG os _ _ _ _ h,absHeap_ins e];show (Ow t n life).objs.push o ++ os.toArray=_;simp
theorem p7 {N:Nat} {s:h_} (h:uY tb p w N=a_ s):Q_ tb p w N=a_ s:=by
 unfold uY at h;unfold Q_;obtain ⟨s₀,h0,h1⟩:=Lz.mp h;rw [h0];show topFrom tb p w N s₀=a_ s;unfold topFrom;cases hc:(s₀.heap.isNs y_ && s₀.gens.size == 0) with
 | false=>rw [hc] at h1; cases h1
 | true =>
  rw [hc] at h1;dsimp only at h1 ⊢;obtain ⟨⟨t',n'⟩,h2,h3⟩:=Lz.mp h1;obtain ⟨sT,h4,h5⟩:=Lz.mp h3;have e:=jG (life:=s₀.heap.life) _ _ _ _ _ h2;have e2:Ow t' n' s₀.heap.life=s₀.heap:=by
   have e3:(Ow t' n' s₀.heap.life).objs=s₀.heap.objs:=by
    rw [e];show (Ow BT.nil 0 s₀.heap.life).objs ++ s₀.heap.objs.toList.toArray=_;simp [Ow,BT.list]
   obtain ⟨⟨objs,life⟩,g,d,k,os⟩:=s₀;show Heap.mk _ _=Heap.mk _ _;exact congrArg (Heap.mk · life) e3
  have r:=jd _ _ _ _ h4;have ea:(SharedT.abs ⟨t',n',s₀.heap.life,s₀.gens,s₀.drawn,s₀.toks,s₀.os⟩)=s₀:=by
   show Shared.mk (Ow t' n' s₀.heap.life) _ _ _ _=s₀;rw [e2]
  rw [ea] at r;rw [r];exact h5
theorem qU {α:Type} {N:Nat} {f:h_→α} {a:α} (h:(uY tb p w N).map f=a_ a):(Q_ tb p w N).map f=a_ a:=by
 obtain ⟨s,h1,h2⟩:=OD.mp h;rw [p7 h1];exact congrArg a_ h2
end
noncomputable def EF (tb:String→Option Me) (p:rl) (w:C_) (n₀:Nat) (ann:Option g_) (n:Nat):SharedT→Qw→Option SharedT :=
 @Nat.rec (fun _=>SharedT→Qw→Option SharedT) (fun _ _=>ck) (fun _ ih s t=>@Bool.rec (fun _=>Option SharedT) (@Bool.rec (fun _=>Option SharedT) ck (@Option.rec (SharedT×Qw) (fun _=>Option SharedT) ck (fun x=>ih x.1 x.2) (Nw (Nv tb) p w s t)) (NJ n₀ ann t)) (a_ s) (QZ t)) n
theorem qV {tb:String→Option Me} {p:rl} {w:C_} {n₀:Nat} {ann:Option g_}:∀ (n:Nat) (s:SharedT) (t:Qw),EF tb p w n₀ ann n s t=iP tb p w n₀ ann n s t
 | 0,_,_=>rfl
 | n + 1,s,t=>by
  show @Bool.rec (fun _=>Option SharedT) (@Bool.rec (fun _=>Option SharedT) ck (@Option.rec (SharedT×Qw) (fun _=>Option SharedT) ck (fun x=>EF tb p w n₀ ann n x.1 x.2) (Nw (Nv tb) p w s t)) (NJ n₀ ann t)) (a_ s) (QZ t)=_;unfold iP;rw [← Fast.te10156331382660048174,← Fast.te11892475500146522536,← Fast.te6613529449190102663];cases QZ t with
  | true=>rfl
  | false =>
   cases stepOk n₀ ann t with
   | false=>rfl
   | true =>
    cases stepT (denote tb) p w s t with
    | none=>rfl
    | some x=>exact qV n x.1 x.2
noncomputable def openQ (tb:String→Option Me) (p:rl) (w:C_) (N:Nat):Option h_:=(fencedOpening tb p w N).bind fun s₀=>match s₀.heap.isNs y_ && s₀.gens.size == 0 with
 | true=>(jF s₀.heap.objs.toList .nil 0).bind fun x=>(EF tb p w s₀.heap.objs.size (s₀.heap.nsMap y_ "__annotations__") N ⟨x.1,x.2,s₀.heap.life,s₀.gens,s₀.drawn,s₀.toks,s₀.os⟩ (topStub p)).bind fun sT=>match staticsOk (OH p.main.body) s₀.heap sT.abs.heap && namesBound p sT.abs.heap && gensDone sT.abs && laidKept s₀.heap sT.abs.heap with
  | true=>a_ sT.abs
  | false=>ck
 | false=>ck
theorem openQ_map {tb:String→Option Me} {p:rl} {w:C_} {α:Type} {N:Nat} {f:h_→α} {a:α} (h:(openQ tb p w N).map f=a_ a):(Q_ tb p w N).map f=a_ a:=by
 refine qU ?_;unfold openQ at h;unfold uY;simp only [qV] at h;exact h
end TR
namespace G
open PySem PySem.W PyProof.Rows
noncomputable def hT (i:Nat):Ky:=PySem.Challenge.pw_notejar_k54_whole_safe_ones.main.body.getD i (.Pass ⟨0,0,0,0⟩)
noncomputable def hA (s:Ky):Arguments:=match s with
 | .FunctionDef _ a _ _ _ _ _ _ _ _=>a
 | _=>{ posonlyargs:=[],args:=[],vararg:=ck,kwonlyargs:=[],kw_defaults:=[],kwarg:=ck,defaults:=[] }
noncomputable def hB (s:Ky):List Ky:=match s with
 | .FunctionDef _ _ b _ _ _ _ _ _ _=>b
 | _=>[]
noncomputable def hS (s:Ky):Kz:=match s with
 | .FunctionDef _ _ _ _ _ _ sc _ _ _=>sc
 | _=>{ kind:=.function,names:=[],isGenerator:=d_,isCoroutine:=d_ }
noncomputable abbrev kS (s:String) (t:Nat):g_:=.str (b_ s) t
noncomputable abbrev kR (a:Nat):g_:=.ref a
noncomputable abbrev kI (i:Int) (t:Nat):g_:=.int i t
noncomputable abbrev kE (P:Nm) (s:String) (t:Nat) (v:g_):DictEntry:=⟨PySem.PyData.keyHash P (b_ s),.str (b_ s) t,v⟩
noncomputable def kF (x:String) (i:Nat) (m:String) (t c:Nat):Obj:=LM (x_ "function") ck (Data.func (fnOf (b_ x) (b_ x) (hA (hT i)) (hB (hT i)) (hS (hT i)) .none Js Js (kS m t) ck (kR c) Js)) #[]
noncomputable def kF' (x:String) (i c:Nat):=kF x i "law_notejar_k54_whole_safe_ones" 853 c
noncomputable def kC (x:String) (a b c:Nat) (d e f:Int) (g:Nat) (h:Int) (i j:Nat) (k l:Int) (m:Nat):Obj:=LM (x_ "code") ck (Pc #[kS x a,kS x b,kS "/claim/cut.py" c,kI d 0,kI e 0,kI 0 0,kI 0 0,kI f 0,kR g,JO e_,kI h 0,kR i,Js,Js,Js,kR j,kI k 0,kI l 0,kS "/claim/cut.py" m]) #[]
noncomputable def kD (x:String) (a b c:Nat) (d e f:Int) (g:Nat) (h:Int) (i u v j:Nat) (k l:Int) (m:Nat):Obj:=LM (x_ "code") ck (Pc #[kS x a,kS x b,kS "/claim/cut.py" c,kI d 0,kI e 0,kI 0 0,kI 0 0,kI f 0,kR g,JO e_,kI h 0,kR i,Js,kR u,kR v,kR j,kI k 0,kI l 0,kS "/claim/cut.py" m]) #[]
noncomputable def KKa (P:Nm):Frag:=[(2,LM Js ck (LV #[]) #[]),
 (3,LM (x_ "dict") ck (LV #[kE P "__name__" 165 (kS "law_notejar_k54_whole_safe_ones" 853),kE P "__doc__" 166 Js,kE P "__package__" 167 Js,kE P "__loader__" 168 (Lo "__main__.__loader__#opaque"),kE P "__spec__" 169 Js,kE P "__annotations__" 170 (kR 6),kE P "__builtins__" 171 (kR 4),kE P "__file__" 173 (kS "/claim/cut.py" 172),kE P "__cached__" 174 Js,kE P "JarError" 206 (kR 24),kE P "NoTable" 222 (kR 37),kE P "NoPath" 238 (kR 49),kE P "NoAsk" 254 (kR 61),kE P "NoNote" 270 (kR 73),kE P "NoJar" 286 (kR 85),kE P "NoNumber" 302 (kR 97),kE P "is_text_of" 310 (kR 104),kE P "is_whole_number" 319 (kR 111),kE P "is_tuple_of" 327 (kR 118),kE P "FIGURES" 331 (kS "0123456789" 330),kE P "LABEL_SIGNS" 333 (kS "abcdefghijklmnopqrstuvwxyz0123456789-" 332),kE P "LONGEST_LABEL" 335 (kI 8 334),kE P "MOST_LABELS" 337 (kI 5 336),kE P "MOST_RULES" 339 (kI 8 338),kE P "is_label" 346 (kR 125),kE P "is_name" 352 (kR 130),kE P "is_rule" 359 (kR 137),kE P "is_table" 365 (kR 142),kE P "need_table" 372 (kR 149),kE P "lies_within" 380 (kR 156),kE P "ends_longest_first" 386 (kR 161),kE P "behind_first_dot" 393 (kR 168),kE P "is_told_open" 401 (kR 175),kE P "find_open_end" 411 (kR 182),kE P "find_own_end" 422 (kR 189),kE P "PATH_SIGNS" 426 (kS "abcdefghijklmnopqrstuvwxyz0123456789-_./" 425),kE P "LONGEST_PATH" 428 (kI 20 427),kE P "is_path" 435 (kR 196),kE P "need_path" 442 (kR 203),kE P "folder" 450 (kR 210),kE P "lies_under" 458 (kR 217),kE P "LAST_MOMENT" 462 (kI 9999 461),kE P "ASK_SAFE" 464 (kI 0 463),kE P "ASK_HOUSE" 466 (kI 1 465),kE P "ASK_PATH" 468 (kI 2 467),kE P "ASK_ORIGIN" 470 (kI 3 469),kE P "ASK_PARTS" 472 (kI 4 471),kE P "is_moment" 479 (kR 224),kE P "is_moment_or_none" 486 (kR 231),kE P "need_moment" 493 (kR 238),kE P "is_ask" 500 (kR 245),kE P "need_ask" 507 (kR 252),kE P "comes_from_near" 518 (kR 259),kE P "NOTE_NAME_SIGNS" 522 (kS "abcdefghijklmnopqrstuvwxyzABCDEFGHIJKLMNOPQRSTUVWXYZ0123456789-_" 521),kE P "LONGEST_NOTE_NAME" 524 (kI 10 523),kE P "NO_WORTH_SIGNS" 526 (kS ";,=" 525),kE P "LONGEST_WORTH" 528 (kI 12 527),kE P "MOST_FIGURES" 530 (kI 4 529),kE P "GIVEN_NAME" 532 (kI 0 531),kE P "GIVEN_WORTH" 534 (kI 1 533),kE P "GIVEN_HOUSE" 536 (kI 2 535),kE P "GIVEN_PATH" 538 (kI 3 537),kE P "GIVEN_UNTIL" 540 (kI 4 539),kE P "GIVEN_LASTS" 542 (kI 5 541),kE P "GIVEN_SAFE" 544 (kI 6 543),kE P "GIVEN_REACH" 546 (kI 7 545),kE P "GIVEN_PARTS" 548 (kI 8 547),kE P "is_note_name" 555 (kR 266),kE P "is_worth" 561 (kR 271),kE P "is_reach" 568 (kR 278),kE P "is_given" 575 (kR 285),kE P "need_given" 582 (kR 292),kE P "is_written_moment" 589 (kR 299),kE P "what_is_told" 599 (kR 306),kE P "read_given" 605 (kR 311),kE P "NOTE_NAME" 609 (kI 0 608),kE P "NOTE_WORTH" 611 (kI 1 610),kE P "NOTE_HOUSE" 613 (kI 2 612),kE P "NOTE_EXACT" 615 (kI 3 614),kE P "NOTE_PATH" 617 (kI 4 616),kE P "NOTE_ENDS" 619 (kI 5 618),kE P "NOTE_SAFE" 621 (kI 6 620),kE P "NOTE_REACH" 623 (kI 7 622),kE P "NOTE_MADE" 625 (kI 8 624),kE P "NOTE_USED" 627 (kI 9 626),kE P "NOTE_PARTS" 629 (kI 10 628),kE P "is_open" 637 (kR 318),kE P "is_exact" 647 (kR 325),kE P "keeps_its_mark" 657 (kR 332),kE P "why_refused" 667 (kR 339),kE P "is_note" 674 (kR 346),kE P "house_for" 682 (kR 353),kE P "path_for" 690 (kR 360),kE P "end_for" 698 (kR 367),kE P "made" 708 (kR 374),kE P "key" 715 (kR 381),kE P "has_ended" 723 (kR 388),kE P "is_for" 731 (kR 395),kE P "goes" 741 (kR 402),kE P "MOST_NOTES" 745 (kI 20 744),kE P "is_jar" 751 (kR 407),kE P "is_by_made" 757 (kR 412),kE P "has_no_key_twice" 763 (kR 417),kE P "need_jar" 770 (kR 424),kE P "need_no_more_than_a_jar_has" 777 (kR 431),kE P "swept" 785 (kR 438),kE P "without_ended" 791 (kR 443),kE P "put" 797 (kR 448),kE P "read_what_is_given" 809 (kR 455),kE P "word_of" 815 (kR 460),kE P "shadows" 824 (kR 467),kE P "taken" 830 (kR 472),kE P "take_in" 836 (kR 477),kE P "need_sending" 846 (kR 484),kE P "sent" 852 (kR 489),kE P "_law_cell" 862 (kR 496),kE P "_law_drawn" 872 (kR 503),kE P "_law_name" 881 (kR 510),kE P "_law_table" 887 (kR 515),kE P "_law_path" 896 (kR 522),kE P "_law_ask" 905 (kR 529),kE P "_law_given" 922 (kR 536),kE P "_law_text" 940 (kR 543),kE P "_law_jar" 946 (kR 548),kE P "law" 952 (kR 553)] 125) #[]),
 (23,LM (x_ "dict") ck (LV #[kE P "__module__" 196 (kS "notejar.errors" 187),kE P "__firstlineno__" 200 (kI 2 199),kE P "__static_attributes__" 201 (kR 22),kE P "__weakref__" 203 (kR 25),kE P "__doc__" 204 Js] 3) #[]),
 (24,LM (x_ "type") ck (Oj (KH (b_ "JarError") [x_ "ValueError"] [kR 24,x_ "ValueError",x_ "Exception",x_ "BaseException",x_ "object"] 23 (b_ "JarError") e_ [] [kR 37,kR 49,kR 61,kR 73,kR 85,kR 97] d_ ck d_)) #[a_ (kR 15),ck,a_ (kS "JarError" 189),a_ (kS "JarError" 197),a_ (Lo "ValueError.__new__"),a_ (JO e_)]),
 (36,LM (x_ "dict") ck (LV #[kE P "__module__" 214 (kS "notejar.errors" 187),kE P "__firstlineno__" 218 (kI 4 217),kE P "__static_attributes__" 219 (kR 35),kE P "__doc__" 220 Js] 2) #[]),
 (37,LM (x_ "type") ck (Oj (KH (b_ "NoTable") [kR 24] [kR 37,kR 24,x_ "ValueError",x_ "Exception",x_ "BaseException",x_ "object"] 36 (b_ "NoTable") e_ [] [] d_ ck d_)) #[a_ (kR 28),ck,a_ (kS "NoTable" 207),a_ (kS "NoTable" 215),a_ (Lo "ValueError.__new__"),a_ (JO e_)]),
 (48,LM (x_ "dict") ck (LV #[kE P "__module__" 230 (kS "notejar.errors" 187),kE P "__firstlineno__" 234 (kI 6 233),kE P "__static_attributes__" 235 (kR 47),kE P "__doc__" 236 Js] 2) #[]),
 (49,LM (x_ "type") ck (Oj (KH (b_ "NoPath") [kR 24] [kR 49,kR 24,x_ "ValueError",x_ "Exception",x_ "BaseException",x_ "object"] 48 (b_ "NoPath") e_ [] [] d_ ck d_)) #[a_ (kR 40),ck,a_ (kS "NoPath" 223),a_ (kS "NoPath" 231),a_ (Lo "ValueError.__new__"),a_ (JO e_)]),
 (60,LM (x_ "dict") ck (LV #[kE P "__module__" 246 (kS "notejar.errors" 187),kE P "__firstlineno__" 250 (kI 8 249),kE P "__static_attributes__" 251 (kR 59),kE P "__doc__" 252 Js] 2) #[]),
 (61,LM (x_ "type") ck (Oj (KH (b_ "NoAsk") [kR 24] [kR 61,kR 24,x_ "ValueError",x_ "Exception",x_ "BaseException",x_ "object"] 60 (b_ "NoAsk") e_ [] [] d_ ck d_)) #[a_ (kR 52),ck,a_ (kS "NoAsk" 239),a_ (kS "NoAsk" 247),a_ (Lo "ValueError.__new__"),a_ (JO e_)]),
 (72,LM (x_ "dict") ck (LV #[kE P "__module__" 262 (kS "notejar.errors" 187),kE P "__firstlineno__" 266 (kI 10 265),kE P "__static_attributes__" 267 (kR 71),kE P "__doc__" 268 Js] 2) #[]),
 (73,LM (x_ "type") ck (Oj (KH (b_ "NoNote") [kR 24] [kR 73,kR 24,x_ "ValueError",x_ "Exception",x_ "BaseException",x_ "object"] 72 (b_ "NoNote") e_ [] [] d_ ck d_)) #[a_ (kR 64),ck,a_ (kS "NoNote" 255),a_ (kS "NoNote" 263),a_ (Lo "ValueError.__new__"),a_ (JO e_)]),
 (84,LM (x_ "dict") ck (LV #[kE P "__module__" 278 (kS "notejar.errors" 187),kE P "__firstlineno__" 282 (kI 12 281),kE P "__static_attributes__" 283 (kR 83),kE P "__doc__" 284 Js] 2) #[]),
 (85,LM (x_ "type") ck (Oj (KH (b_ "NoJar") [kR 24] [kR 85,kR 24,x_ "ValueError",x_ "Exception",x_ "BaseException",x_ "object"] 84 (b_ "NoJar") e_ [] [] d_ ck d_)) #[a_ (kR 76),ck,a_ (kS "NoJar" 271),a_ (kS "NoJar" 279),a_ (Lo "ValueError.__new__"),a_ (JO e_)]),
 (96,LM (x_ "dict") ck (LV #[kE P "__module__" 294 (kS "notejar.errors" 187),kE P "__firstlineno__" 298 (kI 14 297),kE P "__static_attributes__" 299 (kR 95),kE P "__doc__" 300 Js] 2) #[]),
 (97,LM (x_ "type") ck (Oj (KH (b_ "NoNumber") [kR 24] [kR 97,kR 24,x_ "ValueError",x_ "Exception",x_ "BaseException",x_ "object"] 96 (b_ "NoNumber") e_ [] [] d_ ck d_)) #[a_ (kR 88),ck,a_ (kS "NoNumber" 287),a_ (kS "NoNumber" 295),a_ (Lo "ValueError.__new__"),a_ (JO e_)]),
 (103,kC "is_text_of" 305 306 307 17 4 3 100 181 101 102 308 17 309),
 (104,kF "is_text_of" 9 "notejar.kinds" 303 103),
 (110,kD "is_whole_number" 311 312 313 23 3 3 105 181 106 107 108 109 317 23 318),
 (111,kF "is_whole_number" 10 "notejar.kinds" 303 110),
 (117,kD "is_tuple_of" 320 321 322 27 2 3 112 181 113 114 115 116 325 27 326),
 (118,kF "is_tuple_of" 11 "notejar.kinds" 303 117),
 (124,kD "is_label" 340 341 342 35 1 3 119 181 120 121 122 123 344 35 345),
 (125,kF "is_label" 18 "notejar.names" 328 124),
 (129,kC "is_name" 347 348 349 39 1 3 126 181 127 128 350 39 351),
 (130,kF "is_name" 19 "notejar.names" 328 129),
 (136,kD "is_rule" 353 354 355 46 1 3 131 181 132 133 134 135 357 46 358),
 (137,kF "is_rule" 20 "notejar.names" 328 136),
 (141,kC "is_table" 360 361 362 54 1 3 138 181 139 140 363 54 364),
 (142,kF "is_table" 21 "notejar.names" 328 141),
 (148,kD "need_table" 366 367 368 60 1 3 143 181 144 145 146 147 370 60 371),
 (149,kF "need_table" 22 "notejar.names" 328 148),
 (155,kD "lies_within" 373 374 375 63 2 3 150 181 151 152 153 154 378 63 379),
 (156,kF "lies_within" 23 "notejar.names" 328 155),
 (160,kC "ends_longest_first" 381 382 383 65 1 3 157 181 158 159 384 65 385),
 (161,kF "ends_longest_first" 24 "notejar.names" 328 160),
 (167,kD "behind_first_dot" 387 388 389 68 1 3 162 181 163 164 165 166 391 68 392),
 (168,kF "behind_first_dot" 25 "notejar.names" 328 167),
 (174,kD "is_told_open" 394 395 396 70 2 3 169 181 170 171 172 173 399 70 400),
 (175,kF "is_told_open" 26 "notejar.names" 328 174),
 (181,kD "find_open_end" 402 403 404 74 2 3 176 181 177 178 179 180 409 74 410),
 (182,kF "find_open_end" 27 "notejar.names" 328 181),
 (188,kD "find_own_end" 412 413 414 83 2 3 183 181 184 185 186 187 420 83 421),
 (189,kF "find_own_end" 28 "notejar.names" 328 188),
 (195,kD "is_path" 429 430 431 93 1 3 190 181 191 192 193 194 433 93 434),
 (196,kF "is_path" 32 "notejar.paths" 423 195),
 (202,kD "need_path" 436 437 438 95 1 3 197 181 198 199 200 201 440 95 441),
 (203,kF "need_path" 33 "notejar.paths" 423 202),
 (209,kD "folder" 443 444 445 98 1 3 204 181 205 206 207 208 448 98 449),
 (210,kF "folder" 34 "notejar.paths" 423 209),
 (216,kD "lies_under" 451 452 453 104 2 3 211 181 212 213 214 215 456 104 457),
 (217,kF "lies_under" 35 "notejar.paths" 423 216),
 (223,kD "is_moment" 473 474 475 117 1 3 218 181 219 220 221 222 477 117 478),
 (224,kF "is_moment" 43 "notejar.asks" 459 223),
 (230,kD "is_moment_or_none" 480 481 482 119 1 3 225 181 226 227 228 229 484 119 485),
 (231,kF "is_moment_or_none" 44 "notejar.asks" 459 230),
 (237,kD "need_moment" 487 488 489 121 1 3 232 181 233 234 235 236 491 121 492),
 (238,kF "need_moment" 45 "notejar.asks" 459 237),
 (244,kD "is_ask" 494 495 496 124 1 3 239 181 240 241 242 243 498 124 499),
 (245,kF "is_ask" 46 "notejar.asks" 459 244),
 (251,kD "need_ask" 501 502 503 128 1 3 246 181 247 248 249 250 505 128 506),
 (252,kF "need_ask" 47 "notejar.asks" 459 251),
 (258,kD "comes_from_near" 508 509 510 131 2 3 253 181 254 255 256 257 516 131 517),
 (259,kF "comes_from_near" 48 "notejar.asks" 459 258),
 (265,kD "is_note_name" 549 550 551 153 1 3 260 181 261 262 263 264 553 153 554),
 (266,kF "is_note_name" 64 "notejar.giving" 519 265),
 (270,kC "is_worth" 556 557 558 155 1 3 267 181 268 269 559 155 560),
 (271,kF "is_worth" 65 "notejar.giving" 519 270),
 (277,kD "is_reach" 562 563 564 159 1 3 272 181 273 274 275 276 566 159 567),
 (278,kF "is_reach" 66 "notejar.giving" 519 277),
 (284,kD "is_given" 569 570 571 161 1 3 279 181 280 281 282 283 573 161 574),
 (285,kF "is_given" 67 "notejar.giving" 519 284),
 (291,kD "need_given" 576 577 578 165 1 3 286 181 287 288 289 290 580 165 581),
 (292,kF "need_given" 68 "notejar.giving" 519 291),
 (298,kD "is_written_moment" 583 584 585 168 1 3 293 181 294 295 296 297 587 168 588),
 (299,kF "is_written_moment" 69 "notejar.giving" 519 298),
 (305,kD "what_is_told" 590 591 592 170 1 3 300 181 301 302 303 304 597 170 598),
 (306,kF "what_is_told" 70 "notejar.giving" 519 305)]
noncomputable def KKl (P:Nm):Frag:=[(310,kC "read_given" 600 601 602 187 1 3 307 181 308 309 603 187 604),
 (311,kF "read_given" 71 "notejar.giving" 519 310),
 (317,kD "is_open" 630 631 632 212 2 3 312 181 313 314 315 316 635 212 636),
 (318,kF "is_open" 84 "notejar.notes" 606 317),
 (324,kD "is_exact" 638 639 640 214 3 3 319 181 320 321 322 323 645 214 646),
 (325,kF "is_exact" 85 "notejar.notes" 606 324),
 (331,kD "keeps_its_mark" 648 649 650 219 3 3 326 181 327 328 329 330 655 219 656),
 (332,kF "keeps_its_mark" 86 "notejar.notes" 606 331),
 (338,kD "why_refused" 658 659 660 226 3 3 333 181 334 335 336 337 665 226 666),
 (339,kF "why_refused" 87 "notejar.notes" 606 338),
 (345,kD "is_note" 668 669 670 242 1 3 340 181 341 342 343 344 672 242 673),
 (346,kF "is_note" 88 "notejar.notes" 606 345),
 (352,kD "house_for" 675 676 677 248 2 3 347 181 348 349 350 351 680 248 681),
 (353,kF "house_for" 89 "notejar.notes" 606 352),
 (359,kD "path_for" 683 684 685 252 2 3 354 181 355 356 357 358 688 252 689),
 (360,kF "path_for" 90 "notejar.notes" 606 359),
 (366,kD "end_for" 691 692 693 256 2 3 361 181 362 363 364 365 696 256 697),
 (367,kF "end_for" 91 "notejar.notes" 606 366),
 (373,kD "made" 699 700 701 260 4 3 368 181 369 370 371 372 706 260 707),
 (374,kF "made" 92 "notejar.notes" 606 373),
 (380,kD "key" 709 710 711 268 1 3 375 181 376 377 378 379 713 268 714),
 (381,kF "key" 93 "notejar.notes" 606 380),
 (387,kD "has_ended" 716 717 718 270 2 3 382 181 383 384 385 386 721 270 722),
 (388,kF "has_ended" 94 "notejar.notes" 606 387),
 (394,kD "is_for" 724 725 726 272 2 3 389 181 390 391 392 393 729 272 730),
 (395,kF "is_for" 95 "notejar.notes" 606 394),
 (401,kD "goes" 732 733 734 276 4 3 396 181 397 398 399 400 739 276 740),
 (402,kF "goes" 96 "notejar.notes" 606 401),
 (406,kC "is_jar" 746 747 748 286 1 3 403 181 404 405 749 286 750),
 (407,kF "is_jar" 99 "notejar.jars" 742 406),
 (411,kC "is_by_made" 752 753 754 292 1 3 408 181 409 410 755 292 756),
 (412,kF "is_by_made" 100 "notejar.jars" 742 411),
 (416,kC "has_no_key_twice" 758 759 760 294 1 3 413 181 414 415 761 294 762),
 (417,kF "has_no_key_twice" 101 "notejar.jars" 742 416),
 (423,kD "need_jar" 764 765 766 297 1 3 418 181 419 420 421 422 768 297 769),
 (424,kF "need_jar" 102 "notejar.jars" 742 423),
 (430,kD "need_no_more_than_a_jar_has" 771 772 773 300 1 3 425 181 426 427 428 429 775 300 776),
 (431,kF "need_no_more_than_a_jar_has" 103 "notejar.jars" 742 430),
 (437,kD "swept" 778 779 780 303 2 3 432 181 433 434 435 436 783 303 784),
 (438,kF "swept" 104 "notejar.jars" 742 437),
 (442,kC "without_ended" 786 787 788 307 2 3 439 181 440 441 789 307 790),
 (443,kF "without_ended" 105 "notejar.jars" 742 442),
 (447,kC "put" 792 793 794 309 2 3 444 181 445 446 795 309 796),
 (448,kF "put" 106 "notejar.jars" 742 447),
 (454,kD "read_what_is_given" 798 799 800 315 5 3 449 181 450 451 452 453 807 315 808),
 (455,kF "read_what_is_given" 107 "notejar.jars" 742 454),
 (459,kC "word_of" 810 811 812 322 5 3 456 181 457 458 813 322 814),
 (460,kF "word_of" 108 "notejar.jars" 742 459),
 (466,kD "shadows" 816 817 818 332 3 3 461 181 462 463 464 465 822 332 823),
 (467,kF "shadows" 109 "notejar.jars" 742 466),
 (471,kC "taken" 825 826 827 338 5 3 468 181 469 470 828 338 829),
 (472,kF "taken" 110 "notejar.jars" 742 471),
 (476,kC "take_in" 831 832 833 345 5 3 473 181 474 475 834 345 835),
 (477,kF "take_in" 111 "notejar.jars" 742 476),
 (483,kD "need_sending" 837 838 839 354 4 3 478 181 479 480 481 482 844 354 845),
 (484,kF "need_sending" 112 "notejar.jars" 742 483),
 (488,kC "sent" 847 848 849 359 4 3 485 181 486 487 850 359 851),
 (489,kF "sent" 113 "notejar.jars" 742 488),
 (495,kD "_law_cell" 855 856 857 364 2 3 490 181 491 492 493 494 860 364 861),
 (496,kF' "_law_cell" 115 495),
 (502,kD "_law_drawn" 863 864 865 368 3 3 497 181 498 499 500 501 870 368 871),
 (503,kF' "_law_drawn" 116 502),
 (509,kD "_law_name" 873 874 875 372 2 3 504 181 505 506 507 508 879 372 880),
 (510,kF' "_law_name" 117 509),
 (514,kC "_law_table" 882 883 884 376 2 3 511 181 512 513 885 376 886),
 (515,kF' "_law_table" 118 514),
 (521,kD "_law_path" 888 889 890 379 2 3 516 181 517 518 519 520 894 379 895),
 (522,kF' "_law_path" 119 521),
 (528,kD "_law_ask" 897 898 899 382 2 3 523 181 524 525 526 527 903 382 904),
 (529,kF' "_law_ask" 120 528),
 (535,kD "_law_given" 906 907 908 385 3 3 530 181 531 532 533 534 920 385 921),
 (536,kF' "_law_given" 121 535),
 (542,kD "_law_text" 923 924 925 396 1 3 537 181 538 539 540 541 938 396 939),
 (543,kF' "_law_text" 122 542),
 (547,kC "_law_jar" 941 942 943 404 3 3 544 181 545 546 944 404 945),
 (548,kF' "_law_jar" 123 547),
 (552,kC "law" 947 948 949 422 1 3 549 181 550 551 950 422 951),
 (553,kF' "law" 124 552),
 (4,LM (x_ "module") (a_ builtinsNs) Data.plain #[])]
noncomputable def KKb (P:Nm):Frag:=KKl P ++ [(486,{ cls:=.none,data:=.fields #[] })]
noncomputable def KK (P:Nm):Frag:=KKa P ++ KKb P
noncomputable def KAa:List k_:=[2,3,23,24,36,37,48,49,60,61,72,73,84,85,96,97,103,104,110,111,117,118,124,125,129,130,136,137,141,142,148,149,155,156,160,161,167,168,174,175,181,182,188,189,195,196,202,203,209,210,216,217,223,224,230,231,237,238,244,245,251,252,258,259,265,266,270,271,277,278,284,285,291,292,298,299,305,306]
noncomputable def KAb:List k_:=[310,311,317,318,324,325,331,332,338,339,345,346,352,353,359,360,366,367,373,374,380,381,387,388,394,395,401,402,406,407,411,412,416,417,423,424,430,431,437,438,442,443,447,448,454,455,459,460,466,467,471,472,476,477,483,484,488,489,495,496,502,503,509,510,514,515,521,522,528,529,535,536,542,543,547,548,552,553,4,486]
noncomputable def KA:List k_:=KAa ++ KAb
noncomputable def KL (P:Nm):Frag:=KKa P ++ KKl P
theorem KL_in {P:Nm} {h:H_} (X:(KK P).In h):(KL P).In h:=fun b o e=>X b o (by
 show List.lookup b (KKa P ++ (KKl P ++ _))=a_ o;rw [← N3,K_,show List.lookup b (KKa P ++ KKl P)=a_ o from e];rfl)
theorem KT_in {P:Nm} {h:H_} (X:(KK P).In h):h.get? 486=a_ { cls:=.none,data:=.fields #[] }:=X 486 _ (by kernel_rfl)
theorem KA_ok (P:Nm):KA=(KK P).map (·.1):=by kernel_rfl
noncomputable def VQ:rl:=view PySem.Challenge.pw_notejar_k54_whole_safe_ones [124]
theorem hbr:PySem.Challenge.rw_notejar_k54_whole_safe_ones.row.prog.bare:=⟨rfl,rfl,rfl,rfl,rfl,by decide +kernel⟩
theorem slo:PySem.W.looksOpen PySem.Challenge.rw_notejar_k54_whole_safe_ones.row.prog=e_:=by kernel_rfl
set_option maxRecDepth 100000 in
theorem sd1:PySem.Challenge.rw_notejar_k54_whole_safe_ones.row.wellSaid=e_:=by
 unfold PySem.W.OpenRow.wellSaid PySem.W.OpenRow.partSaid;rw [slo]
 kernel_rfl
set_option maxRecDepth 100000 in
theorem sd:PySem.Challenge.rw_notejar_k54_whole_safe_ones.wellSaid=e_:=by
 unfold PySem.W.OpenLaw.wellSaid;rw [sd1]
 kernel_rfl
theorem hld (h:PySem.Challenge.rw_notejar_k54_whole_safe_ones.row.wellSaid=e_→PySem.Challenge.rw_notejar_k54_whole_safe_ones.row.Holds):PySem.Challenge.rw_notejar_k54_whole_safe_ones.Holds:=PySem.W.holds_law sd h
noncomputable def VL:List Str:=[b_ "JarError",b_ "NoTable",b_ "NoPath",b_ "NoAsk",b_ "NoNote",b_ "NoJar",b_ "NoNumber",b_ "is_text_of",b_ "is_whole_number",b_ "is_tuple_of",b_ "FIGURES",b_ "LABEL_SIGNS",b_ "LONGEST_LABEL",b_ "MOST_LABELS",b_ "MOST_RULES",b_ "is_label",b_ "is_name",b_ "is_rule",b_ "is_table",b_ "need_table",b_ "lies_within",b_ "ends_longest_first",b_ "behind_first_dot",b_ "is_told_open",b_ "find_open_end",b_ "find_own_end",b_ "PATH_SIGNS",b_ "LONGEST_PATH",b_ "is_path",b_ "need_path",b_ "folder",b_ "lies_under",b_ "LAST_MOMENT",b_ "ASK_SAFE",b_ "ASK_HOUSE",b_ "ASK_PATH",b_ "ASK_ORIGIN",b_ "ASK_PARTS",b_ "is_moment",b_ "is_moment_or_none",b_ "need_moment",b_ "is_ask",b_ "need_ask",b_ "comes_from_near",b_ "NOTE_NAME_SIGNS",b_ "LONGEST_NOTE_NAME",b_ "NO_WORTH_SIGNS",b_ "LONGEST_WORTH",b_ "MOST_FIGURES",b_ "GIVEN_NAME",b_ "GIVEN_WORTH",b_ "GIVEN_HOUSE",b_ "GIVEN_PATH",b_ "GIVEN_UNTIL",b_ "GIVEN_LASTS",b_ "GIVEN_SAFE",b_ "GIVEN_REACH",b_ "GIVEN_PARTS",b_ "is_note_name",b_ "is_worth",b_ "is_reach",b_ "is_given",b_ "need_given",b_ "is_written_moment",b_ "what_is_told",b_ "read_given",b_ "NOTE_NAME",b_ "NOTE_WORTH",b_ "NOTE_HOUSE",b_ "NOTE_EXACT",b_ "NOTE_PATH",b_ "NOTE_ENDS",b_ "NOTE_SAFE",b_ "NOTE_REACH",b_ "NOTE_MADE",b_ "NOTE_USED",b_ "NOTE_PARTS",b_ "is_open",b_ "is_exact",b_ "keeps_its_mark",b_ "why_refused",b_ "is_note",b_ "house_for",b_ "path_for",b_ "end_for",b_ "made",b_ "key",b_ "has_ended",b_ "is_for",b_ "goes",b_ "MOST_NOTES",b_ "is_jar",b_ "is_by_made",b_ "has_no_key_twice",b_ "need_jar",b_ "need_no_more_than_a_jar_has",b_ "swept",b_ "without_ended",b_ "put",b_ "read_what_is_given",b_ "word_of",b_ "shadows",b_ "taken",b_ "take_in",b_ "need_sending",b_ "sent",b_ "_law_cell",b_ "_law_drawn",b_ "_law_name",b_ "_law_table",b_ "_law_path",b_ "_law_ask",b_ "_law_given",b_ "_law_text",b_ "_law_jar"]
theorem HZ {α β γ:Type} {o:Option α} {f:α→β} {g:α→γ} {a:β} {b:γ} (h1:o.map f=a_ a) (h2:o.map g=a_ b):o.map (fun s=>(f s,g s))=a_ (a,b):=by
 cases o with
 | none=>cases h1
 | some x=>cases h1; cases h2; rfl
set_option maxRecDepth 100000 in
theorem EG (w:C_):(TR.openQ Pk PySem.Challenge.pw_notejar_k54_whole_safe_ones w 8038).map (openSeen VQ VL (OH PySem.Challenge.pw_notejar_k54_whole_safe_ones.main.body) (fun s=>recOk [] s) e_)=a_ (openGood VQ VL):=by kernel_rfl
set_option maxRecDepth 100000 in
theorem AA (w:C_):(TR.openQ Pk PySem.Challenge.pw_notejar_k54_whole_safe_ones w 8038).map (fun s=>KAa.map s.heap.get?)=a_ ((KKa w.params).map fun p=>a_ p.2):=by kernel_rfl
set_option maxRecDepth 100000 in
theorem AB (w:C_):(TR.openQ Pk PySem.Challenge.pw_notejar_k54_whole_safe_ones w 8038).map (fun s=>KAb.map s.heap.get?)=a_ ((KKb w.params).map fun p=>a_ p.2):=by kernel_rfl
theorem uZ {α β γ:Type} {o:Option α} {f:α→β→γ} {A B:List β} {X Y:List γ} (h1:o.map (fun s=>A.map (f s))=a_ X) (h2:o.map (fun s=>B.map (f s))=a_ Y):o.map (fun s=>(A ++ B).map (f s))=a_ (X ++ Y):=by
 cases o with
 | none=>cases h1
 | some x=>cases h1; cases h2; simp
theorem EH (w:C_):(TR.openQ Pk PySem.Challenge.pw_notejar_k54_whole_safe_ones w 8038).map (fun s=>KA.map s.heap.get?)=a_ ((KK w.params).map fun p=>a_ p.2):=by
 show (TR.openQ Pk PySem.Challenge.pw_notejar_k54_whole_safe_ones w 8038).map (fun s=>(KAa ++ KAb).map s.heap.get?)=a_ ((KKa w.params ++ KKb w.params).map fun p=>a_ p.2);rw [KY];exact uZ (f:=fun s:h_=>s.heap.get?) (AA w) (AB w)
theorem left:LeftO PySem.Challenge.pw_notejar_k54_whole_safe_ones VQ VL (fun s=>recOk [] s) (Hook.obs (Rn KK KA KA_ok)) (Hook.val (Rn KK KA KA_ok)) 8038:=fun w=>TR.openQ_map (HZ (EG w) (EH w))
end G
set_option Elab.async false
set_option linter.all false
set_option maxRecDepth 100000
namespace L2
open PySem PySem.Spec PyProof.Rows
abbrev Key:=Sum Int Str
def AC:Key→g_→Bool
 | .inl k,v=>Value.isInt k v
 | .inr x,v=>Value.isStrOf x v
def Ia (w:C_):Key→Int
 | .inl k=>hashInt k
 | .inr x=>hashStr w x
theorem bY:∀ {k:Key} {v:g_},AC k v=e_→(∃ i t,k=Pj i∧v=Qt i t)∨(∃ x t,k=Pi x∧v=Md x t)
 | .inl i,v,h=>by
  obtain ⟨t,e⟩:=Value.isInt_shape (k:=i) (v:=v) h;exact .inl ⟨i,t,rfl,e⟩
 | .inr x,v,h=>by
  obtain ⟨t,e⟩:=Po (x:=x) (v:=v) h;exact .inr ⟨x,t,rfl,e⟩
theorem AD (a b:Int):u_ ((Pj a:Key)=Pj b)=(a == b):=by
 by_cases e:a=b
 · subst e; simp
 · have h:¬ (Pj a:Key)=Pj b:=fun q=>e (Sum.inl.inj q);rw [decide_eq_false h];exact (beq_eq_false_iff_ne.mpr e).symm
theorem AE (a b:Str):u_ ((Pi a:Key)=Pi b)=u_ (a=b):=by
 by_cases e:a=b
 · subst e; simp
 · have h:¬ (Pi a:Key)=Pi b:=fun q=>e (Sum.inr.inj q);rw [decide_eq_false h,decide_eq_false e]
theorem AF (a:Int) (b:Str):u_ ((Pj a:Key)=Pi b)=d_:=decide_eq_false (fun q=>nomatch q)
theorem AG (a:Str) (b:Int):u_ ((Pi a:Key)=Pj b)=d_:=decide_eq_false (fun q=>nomatch q)
def qW (prog:rl) (w:C_):PySem.KeyKind prog w Key where
 is:=AC
 hash:=Ia w
 inj:=fun v a b ha hb=>by
  rcases bY ha with ⟨i,t,rfl,rfl⟩ | ⟨x,t,rfl,rfl⟩
  · rcases bY hb with ⟨j,u,rfl,e⟩ | ⟨y,u,rfl,e⟩
    · injection e with e1 _; rw [e1]
    · exact nomatch e
  · rcases bY hb with ⟨j,u,rfl,e⟩ | ⟨y,u,rfl,e⟩
    · exact nomatch e
    · injection e with e1 _; rw [e1]
 byValue:=fun k v h=>by
  rcases bY h with ⟨i,t,rfl,rfl⟩ | ⟨x,t,rfl,rfl⟩ <;> rfl
 pyHash:=fun hv h=>by
  rcases bY hv with ⟨i,t,rfl,rfl⟩ | ⟨x,t,rfl,rfl⟩
  · exact wpAny_pyHash_int h
  · exact wpAny_pyHash_str h
 eqBool:=fun hu hv h=>by
  rcases bY hu with ⟨i,t,rfl,rfl⟩ | ⟨x,t,rfl,rfl⟩
  · rcases bY hv with ⟨j,u,rfl,rfl⟩ | ⟨y,u,rfl,rfl⟩
    · rw [AD] at h; exact wpAny_eqBool_int h
    · rw [AF] at h; exact NM i t y u _ _ _ _ h
  · rcases bY hv with ⟨j,u,rfl,rfl⟩ | ⟨y,u,rfl,rfl⟩
    · rw [AG] at h; exact NL x t j u _ _ _ _ h
    · rw [AE] at h; exact wpAny_eqBool_str h
 «strs»:=fun k x t v h=>by
  rcases bY h with ⟨i,u,rfl,e⟩ | ⟨y,u,rfl,e⟩
  · exact nomatch e
  · injection e with e1 _;subst e1;cases v <;> rfl
inductive V where
 | non | bl (b:Bool) | int (i:Int) | str (x:Str) | byt (b:Array UInt8) | flt (b:UInt64) | ref (a:k_) | ty (n:String)
 deriving DecidableEq
def RelV:V→g_→Prop
 | .non,u=>u=Js
 | .bl b,u=>u=JO b
 | .int i,u=>∃ t,u=Qt i t
 | .str x,u=>∃ t,u=Md x t
 | .byt b,u=>∃ t,u=Value.bytes b t
 | .flt b,u=>∃ t,u=Value.float b t
 | .ref a,u=>u=q_ a
 | .ty n,u=>u=x_ n
abbrev Vals:List V→List g_→Prop:=Paired RelV
theorem Vals.length {xs:List V} {us:List g_} (r:Vals xs us):xs.length=us.length:=Paired.length r
theorem Vals.get:∀ {xs:List V} {us:List g_} {i:Nat} {x:V},Vals xs us→xs[i]?=a_ x→∃ u,us[i]?=a_ u∧RelV x u
 | _,_,_,_,.nil,e=>by simp at e
 | _,_,0,_,.cons r _,e=>by simp at e; subst e; exact ⟨_,rfl,r⟩
 | _,_,i + 1,x,.cons _ t,e=>by
  obtain ⟨u,h1,h2⟩:=Vals.get (i:=i) (x:=x) t (by simpa using e);exact ⟨u,by simpa using h1,h2⟩
theorem Vals.set {x:V} {u:g_} (r:RelV x u):∀ {xs:List V} {us:List g_} (i:Nat),Vals xs us→Vals (xs.set i x) (us.set i u)
 | _,_,_,.nil=>.nil
 | _,_,0,.cons _ t=>.cons r t
 | _,_,i + 1,.cons q t=>.cons q (Vals.set r i t)
theorem Vals.append:∀ {xs ys:List V} {us ws:List g_},Vals xs us→Vals ys ws→Vals (xs ++ ys) (us ++ ws)
 | _,_,_,_,.nil,s=>s
 | _,_,_,_,.cons r t,s=>.cons r (Vals.append t s)
theorem Vals.take:∀ {xs:List V} {us:List g_} (n:Nat),Vals xs us→Vals (xs.take n) (us.take n)
 | _,_,0,_=>.nil
 | _,_,_ + 1,.nil=>.nil
 | _,_,n + 1,.cons r t=>.cons r (Vals.take n t)
theorem Vals.drop:∀ {xs:List V} {us:List g_} (n:Nat),Vals xs us→Vals (xs.drop n) (us.drop n)
 | _,_,0,r=>r
 | _,_,_ + 1,.nil=>.nil
 | _,_,n + 1,.cons _ t=>Vals.drop n t
def EI:Option V→Option g_→Prop
 | some v,a_ u=>RelV v u
 | none,ck=>True
 | _,_=>False
def KV {κ:Type}:List (κ×V)→List (κ×g_)→Prop:=Paired fun (p:κ×V) (q:κ×g_)=>p.1=q.1∧RelV p.2 q.2
def kV:Key→V
 | .inl i=>.int i
 | .inr x=>.str x
inductive HO where
 | lst (xs:List V)
 | tup (xs:List V)
 | dK (kvs:List (Key×V)) | dT (kvs:List (List Key×V))
 | set (S:Int→Bool) (n:Nat)
 | ins (C dx:k_) (fs:List (Str×V))
 | own (x:k_)
 | xd (fs:List (Str×V))
 | met (f x:k_)
 | rng (lo hi:Int)
 | frz (o:Obj) (u:HO)
 | tbl (ps:Array g_)
 | ext (φ:H_→Prop)
abbrev Hp:=k_→Option HO
def upd (H:Hp) (a:k_) (o:HO):Hp:=fun b=>if b=a then a_ o else H b
theorem ax {H:Hp} {a:k_} {o:HO}:upd H a o a=a_ o:=by unfold upd; rw [if_pos rfl]
theorem av {H:Hp} {a b:k_} {o:HO} (h:b≠a):upd H a o b=H b:=by unfold upd; rw [if_neg h]
theorem qX {H:Hp} {a:k_} {o u:HO}:upd (upd H a o) a u=upd H a u:=by
 funext b; unfold upd; split <;> rfl
theorem aq {H:Hp} {a b:k_} {o:HO} (h:H a=a_ o) (h':H b=ck):a≠b:=by
 intro e; subst e; rw [h] at h'; cases h'
section
variable (P:rl) (w:C_)
def ObjOk (H:Hp) (h:H_) (a:k_):HO→Prop
 | .lst xs=>xs.length≤sizeLine∧∃ (its:List g_) (n:Nat),Vals xs its∧h.get? a=a_ { cls:=.type "list",data:=.seq its.toArray n }
 | .tup xs=>xs.length≤sizeLine∧∃ its:List g_,Vals xs its∧Rf h a its.toArray
 | .dK kvs=>kvs.length≤sizeLine∧(a == sysModules)=d_∧∃ vs,KV kvs vs∧h.DictOf (qW P w) a vs
 | .dT kvs=>kvs.length≤sizeLine∧(a == sysModules)=d_∧∃ xs:List (List Key×k_×g_),
  Paired (fun (p:List Key×V) (q:List Key×k_×g_)=>p.1=q.1∧H q.2.1=a_ (.tup (p.1.map kV))∧RelV p.2 q.2.2) kvs xs ∧
  ∃ o es ep,h.get? a=a_ o∧o.ExactDict∧o.data=.dict es ep∧es.toList=xs.map (entryOfKey (tupleKind (qW P w)))∧(xs.map (·.1)).Nodup
 | .set S n=>h.SetOf (intKind P w) a S n
 | .ins C dx fs=>H dx=a_ (.own a)∧fs.length≤1000∧dx≠a∧h.get? a=a_ (Ld C dx) ∧
  ∃ mA,h.Ns1 dx mA∧(∀ f,EI (fs.lookup f) (mA f))∧PySem.Within mA (fs.map (·.1))
 | .own _=>∃ o,h.get? a=a_ o
 | .xd fs=>∃ mA,h.Ns1 a mA∧∀ f,EI (fs.lookup f) (mA f)
 | .rng lo hi=>∃ t u v,h.get? a=a_ { cls:=.type "range",data:=.fields #[.int lo t,.int hi u,.int 1 v] }
 | .frz o u=>h.get? a=a_ o∧ObjOk H h a u
 | .tbl ps=>∃ qs:Array g_,h.get? a=a_ { cls:=.none,data:=.fields qs }∧Qv qs.toList∧∀ pos v,Oe pos qs.toList=a_ v→∃ c oc vs q t t',v=.ref c∧H c=a_ (.frz oc (.ext fun _=>True))∧oc.data=.fields vs∧vs[1]?=a_ (.str q t)∧ps[0]?=a_ (.str q t')
 | .met f x=>h.get? a=a_ (N1 (.ref f) (.ref x))
 | .ext φ=>φ h∧(∃ o,h.get? a=a_ o)∧∀ h1 h2:H_,φ h1→(∀ o,h1.get? a=a_ o→h2.get? a=a_ o)→φ h2
def HOk (H:Hp) (h:H_):Prop:=∀ a o,H a=a_ o→ObjOk P w H h a o
end
section
variable {P:rl} {w:C_} {H H':Hp} {h h':H_} {a:k_} {o:HO}
theorem ObjOk.lt (x:ObjOk P w H h a o):a < h.objs.size:=by
 cases o with
 | lst xs=>obtain ⟨_,_,_,_,e⟩:=x; exact v_ e
 | tup xs=>obtain ⟨_,_,_,p⟩:=x; exact p.lt
 | dK kvs=>obtain ⟨_,_,_,_,o,_,_,e,_⟩:=x; exact v_ e
 | dT kvs=>obtain ⟨_,_,_,_,o,_,_,e,_⟩:=x; exact v_ e
 | set S n=>obtain ⟨o,_,_,_,e,_⟩:=x; exact v_ e
 | ins C dx fs=>obtain ⟨_,_,_,e,_⟩:=x; exact v_ e
 | own y=>obtain ⟨_,e⟩:=x; exact v_ e
 | xd fs=>obtain ⟨_,⟨_,_,_,e,_⟩,_⟩:=x; exact v_ e
 | rng lo hi=>obtain ⟨_,_,_,e⟩:=x; exact v_ e
 | frz ob u=>obtain ⟨e,_⟩:=x; exact v_ e
 | tbl ps=>obtain ⟨_,e,_⟩:=x; exact v_ e
 | met f y=>exact v_ (show h.get? a=a_ _ from x)
 | ext φ=>obtain ⟨_,⟨_,e⟩,_⟩:=x; exact v_ e
theorem Paired.mapP {α β:Type} {F G:α→β→Prop}:∀ {l₁:List α} {l₂:List β},Paired F l₁ l₂→(∀ a b,F a b→G a b)→Paired G l₁ l₂
 | _,_,.nil,_=>.nil
 | _,_,.cons r t,f=>.cons (f _ _ r) (Paired.mapP t f)
theorem ObjOk.stay (x:ObjOk P w H h a o) (k:∀ b u,(b=a∨H b=a_ (.own a))→h.get? b=a_ u→h'.get? b=a_ u)
 (ho:∀ b,H b=a_ (.own a)→H' b=a_ (.own a)) (ht:∀ b xs,H b=a_ (.tup xs)→H' b=a_ (.tup xs))
 (hf:∀ b o u,H b=a_ (.frz o u)→H' b=a_ (.frz o u):=by first | exact fun _ _ _ q=>q | (intro c _ _ q; rw [av (aq q (by assumption))]; exact q)):ObjOk P w H' h' a o:=by
 induction o with
 | lst xs=>obtain ⟨z,its,n,r,e⟩:=x; exact ⟨z,its,n,r,k _ _ (.inl rfl) e⟩
 | tup xs=>obtain ⟨z,its,r,ob,e,c⟩:=x; exact ⟨z,its,r,ob,k _ _ (.inl rfl) e,c⟩
 | dK kvs=>obtain ⟨z,y,vs,r,ob,es,ep,e,c⟩:=x; exact ⟨z,y,vs,r,ob,es,ep,k _ _ (.inl rfl) e,c⟩
 | dT kvs =>
  obtain ⟨z,y,xs,r,ob,es,ep,e,c⟩:=x;exact ⟨z,y,xs,Paired.mapP r fun p q z=>⟨z.1,ht _ _ z.2.1,z.2.2⟩,ob,es,ep,k _ _ (.inl rfl) e,c⟩
 | set S n=>obtain ⟨ob,es,ep,t,e,c⟩:=x; exact ⟨ob,es,ep,t,k _ _ (.inl rfl) e,c⟩
 | ins C dx fs =>
  obtain ⟨d,z,ne,e,mA,⟨od,es,ep,e2,c⟩,r⟩:=x;exact ⟨ho _ d,z,ne,k _ _ (.inl rfl) e,mA,⟨od,es,ep,k _ _ (.inr d) e2,c⟩,r⟩
 | own y=>obtain ⟨ob,e⟩:=x; exact ⟨ob,k _ _ (.inl rfl) e⟩
 | xd fs=>obtain ⟨mA,⟨od,es,ep,e,c⟩,r⟩:=x; exact ⟨mA,⟨od,es,ep,k _ _ (.inl rfl) e,c⟩,r⟩
 | rng lo hi=>obtain ⟨t,u,v,e⟩:=x; exact ⟨t,u,v,k _ _ (.inl rfl) e⟩
 | frz ob u ih=>obtain ⟨e,q⟩:=x; exact ⟨k _ _ (.inl rfl) e,ih q⟩
 | tbl ps =>
  obtain ⟨qs,e,tr,ch⟩:=x;exact ⟨qs,k a _ (.inl rfl) e,tr,fun pos v hv=>let ⟨c,oc,vs,q,t,t',e1,e2,r⟩:=ch pos v hv; ⟨c,oc,vs,q,t,t',e1,hf _ _ _ e2,r⟩⟩
 | met f y =>
  have e:h.get? a=a_ (N1 (.ref f) (.ref y)):=x;show h'.get? a=a_ (N1 (.ref f) (.ref y));exact k a _ (.inl rfl) e
 | ext φ=>obtain ⟨p,⟨o,e⟩,st⟩:=x; exact ⟨st _ _ p fun o q=>k _ _ (.inl rfl) q,⟨o,k _ _ (.inl rfl) e⟩,st⟩
theorem HOk.lt (x:HOk P w H h) (e:H a=a_ o):a < h.objs.size:=(x a o e).lt
theorem HOk.fresh (x:HOk P w H h) (e:h.objs.size≤a):H a=ck:=by
 cases q:H a with
 | none=>rfl
 | some u=>exact absurd (G_ (x.lt q) e) (Kw _)
theorem HOk.kept (x:HOk P w H h) (k:∀ b u,h.get? b=a_ u→h'.get? b=a_ u):HOk P w H h':=fun a o e =>
 (x a o e).stay (fun b u _ q=>k b u q) (fun _ q=>q) fun _ _ q=>q
theorem HOk.laid (x:HOk P w H h) (k:∀ b u,h.get? b=a_ u→h'.get? b=a_ u) (hp:h.objs.size≤a) (new:ObjOk P w (upd H a o) h' a o):HOk P w (upd H a o) h':=fun b u e=>by
 have hn:=x.fresh hp;by_cases hb:b=a
 · subst hb; rw [ax] at e; cases e; exact new
 · rw [av hb] at e;exact (x b u e).stay (fun c v _ q=>k c v q) (fun c q=>by rw [av (aq q hn)]; exact q) fun c xs q=>by rw [av (aq q hn)]; exact q
end
def Rd (H:Hp) (a:k_) (u:HO):Prop:=H a=a_ u∨∃ o,H a=a_ (.frz o u)
theorem Rd.of {H:Hp} {a:k_} {u:HO} (h:H a=a_ u):Rd H a u:=.inl h
theorem Rd.ok {P:rl} {w:C_} {H:Hp} {h:H_} {a:k_} {u:HO} (r:Rd H a u) (x:HOk P w H h):ObjOk P w H h a u:=by
 rcases r with r | ⟨o,r⟩
 · exact x a u r
 · obtain ⟨_,q⟩:=x a _ r;exact q
def Mut:Option HO→Prop
 | some (.lst _)=>True
 | some (.dK _)=>True
 | some (.dT _)=>True
 | some (.set _ _)=>True
 | some (.ins _ _ _)=>True
 | some (.ext _)=>True
 | _=>False
section
variable {P:rl} {w:C_} {H:Hp} {h h':H_} {x e:k_} {o':HO}
theorem HOk.write (ok:HOk P w H h) (mu:Mut (H x)) (he:e=x∨H e=a_ (.own x)) (k:∀ b u,b≠e→h.get? b=a_ u→h'.get? b=a_ u) (heo:∃ u,h'.get? e=a_ u)
 (new:ObjOk P w (upd H x o') h' x o'):HOk P w (upd H x o') h':=fun b u q=>by
 have nown:∀ c y,H c=a_ (.own y)→c≠x:=fun c y r z=>by subst z; rw [r] at mu; exact mu
 have ntup:∀ c xs,H c=a_ (.tup xs)→c≠x:=fun c xs r z=>by subst z; rw [r] at mu; exact mu
 by_cases hb:b=x
 · subst hb; rw [ax] at q; cases q; exact new
 · rw [av hb] at q;by_cases hbe:b=e
   · have q':H b=a_ (.own x):=by
      rcases he with z | z
      · exact absurd (hbe.trans z) hb
      · rw [hbe]; exact z
     rw [q] at q'; cases q';obtain ⟨v,hv⟩:=heo;exact ⟨v,by rw [hbe]; exact hv⟩
   · refine (ok b u q).stay (fun c v hc r=>k c v ?_ r) (fun c r=>by rw [av (nown c b r)]; exact r) (fun c xs r=>by rw [av (ntup c xs r)]; exact r) fun c _ _ r=>by rw [av (fun z=>by subst z; rw [r] at mu; exact mu)]; exact r
     rcases hc with rfl | hc
     · exact hbe
     · rintro rfl;rcases he with z | z
       · exact nown c b hc z
       · rw [hc] at z; cases z; exact hb rfl
end
structure Un (fs ex:List k_) (H H':Hp) (h h':H_):Prop where
 keep:∀ b o,h.get? b=a_ o→H b=ck→b ∉ fs→b ∉ ex→h'.get? b=a_ o
 slot:∀ b o,h.get? b=a_ o→H b=ck→b∈fs→b ∉ ex→∃ sl,h'.get? b=a_ { o with slots:=sl }
 free:∀ b o,h.get? b=a_ o→H b=ck→b ∉ ex→H' b=ck
 there:∀ b o,h.get? b=a_ o→b ∉ ex→∃ o',h'.get? b=a_ o'
 tups:∀ b xs,H b=a_ (.tup xs)→H' b=a_ (.tup xs)
 frzs:∀ b o u,H b=a_ (.frz o u)→H' b=a_ (.frz o u)
 tbls:∀ b ps,H b=a_ (.tbl ps)→∃ more,H' b=a_ (.tbl (ps ++ more))
section
variable {fs fs' ex ex':List k_} {H H1 H2:Hp} {h h1 h2 h':H_} {a x e:k_} {o:HO}
theorem Un.any (u:Un fs ex H H1 h h1) {b:k_} {ob:Obj} (q:h.get? b=a_ ob) (n:H b=ck) (hx:b ∉ ex):∃ sl,h1.get? b=a_ { ob with slots:=sl }:=by
 by_cases hb:b∈fs
 · exact u.slot b ob q n hb hx
 · exact ⟨ob.slots,u.keep b ob q n hb hx⟩
theorem Un.trans (a:Un fs ex H H1 h h1) (b:Un fs ex H1 H2 h1 h2):Un fs ex H H2 h h2 where
 keep:=fun c ob q n hc hx=>b.keep c ob (a.keep c ob q n hc hx) (a.free c ob q n hx) hc hx
 slot:=fun c ob q n hc hx=>by
  obtain ⟨sl,e1⟩:=a.slot c ob q n hc hx;obtain ⟨sl',e2⟩:=b.slot c _ e1 (a.free c ob q n hx) hc hx;exact ⟨sl',e2⟩
 free:=fun c ob q n hx=>by
  obtain ⟨o',e1⟩:=a.there c ob q hx;exact b.free c o' e1 (a.free c ob q n hx) hx
 there:=fun c ob q hx=>by
  obtain ⟨o',e1⟩:=a.there c ob q hx;exact b.there c o' e1 hx
 tups:=fun c xs q=>b.tups c xs (a.tups c xs q)
 frzs:=fun c ob xs q=>b.frzs c ob xs (a.frzs c ob xs q)
 tbls:=fun c ps q=>by
  obtain ⟨m1,e1⟩:=a.tbls c ps q;obtain ⟨m2,e2⟩:=b.tbls c _ e1;exact ⟨m1 ++ m2,by rw [e2,NY]⟩
theorem Un.kept (k:∀ b u,h.get? b=a_ u→h'.get? b=a_ u):Un fs ex H H h h' :=
 ⟨fun b ob q _ _ _=>k b ob q,fun b ob q _ _ _=>⟨ob.slots,k b ob q⟩,fun _ _ _ n _=>n,fun b ob q _=>⟨ob,k b ob q⟩,fun _ _ q=>q,fun _ _ _ q=>q,fun _ ps q=>⟨#[],by rw [q]; simp⟩⟩
theorem Un.refl:Un fs ex H H h h:=Un.kept fun _ _ q=>q
theorem Un.laid (k:∀ b u,h.get? b=a_ u→h'.get? b=a_ u) (hp:h.objs.size≤a) (hn:H a=ck):Un fs ex H (upd H a o) h h' where
 keep:=fun b u q _ _ _=>k b u q
 slot:=fun b u q _ _ _=>⟨u.slots,k b u q⟩
 free:=fun b u q n _=>by rw [av (I_ (G_ (v_ q) hp))]; exact n
 there:=fun b u q _=>⟨u,k b u q⟩
 tups:=fun b xs q=>by rw [av (aq q hn)]; exact q
 frzs:=fun b u xs q=>by rw [av (aq q hn)]; exact q
 tbls:=fun b ps q=>⟨#[],by rw [av (aq q hn),q]; simp⟩
theorem Un.write (mu:Mut (H x)) (he:e=x∨H e=a_ (.own x)) (k:∀ b u,b≠e→h.get? b=a_ u→h'.get? b=a_ u) (heo:∃ u,h'.get? e=a_ u):Un fs ex H (upd H x o) h h':=by
 have hx:∀ b,H b=ck→b≠x:=fun b n z=>by subst z; rw [n] at mu; exact mu
 have hb:∀ b,H b=ck→b≠e:=fun b n z=>by
  subst z;rcases he with r | r
  · exact hx b n r
  · rw [n] at r; cases r
 have hm:∀ b u,H b=a_ u→¬ Mut (a_ u)→b≠x:=fun b u q nm z=>by subst z; rw [q] at mu; exact nm mu
 refine ⟨fun b u q n _ _=>k b u (hb b n) q,fun b u q n _ _=>⟨u.slots,k b u (hb b n) q⟩,fun b u q n _=>by rw [av (hx b n)]; exact n,fun b u q _=>?_,
  fun b xs q=>by rw [av (hm b _ q fun z=>z)]; exact q,fun b u xs q=>by rw [av (hm b _ q fun z=>z)]; exact q,fun b ps q=>⟨#[],by rw [av (hm b _ q fun z=>z),q]; simp⟩⟩
 by_cases hbe:b=e
 · subst hbe; exact heo
 · exact ⟨u,k b u hbe q⟩
theorem Un.mono (u:Un fs ex H H1 h h1) (hs:∀ b∈fs,b∈fs') (hx:∀ b∈ex,b∈ex'):Un fs' ex' H H1 h h1 :=
 ⟨fun b ob q n hb he=>u.keep b ob q n (fun z=>hb (hs b z)) fun z=>he (hx b z),fun _ _ q n _ he=>u.any q n fun z=>he (hx _ z),fun b ob q n he=>u.free b ob q n fun z=>he (hx b z),fun b ob q he=>u.there b ob q fun z=>he (hx b z),u.tups,u.frzs,u.tbls⟩
end
def trk (h:H_) (H:Hp):List k_:=(pi h.objs.size).filter fun a=>(H a).isSome
def u0 (h:H_) (H:Hp):H_:=QT h (trk h H)
theorem qY (h:H_) (H:Hp):(u0 h H).objs.size=h.objs.size:=PySem.W.hideAll_size _ _
theorem u3 {h:H_} {H:Hp} {b:k_} {o:Obj} (e:h.get? b=a_ o) (n:H b=ck):(u0 h H).get? b=a_ o :=
 Nt _ e fun hm=>by
  have q:(H b).isSome=e_:=(Jw.mp hm).2;rw [n] at q; simp at q
theorem xU {h:H_} {H:Hp} {b:k_} {o:Obj} (e:(u0 h H).get? b=a_ o):h.get? b=a_ o∧H b=ck:=by
 have e':h.get? b=a_ o:=LJ (trk h H) e;refine ⟨e',?_⟩;cases q:H b with
 | none=>rfl
 | some x =>
  have hm:b∈trk h H:=Jw.mpr ⟨JQ.mpr (v_ e'),by simp [q]⟩;have z:(u0 h H).get? b=ck:=Ks (trk h H) hm;rw [z] at e; cases e
def xV (g h:H_) (L:k_):List (k_×Obj):=(pi h.objs.size).filterMap fun a=>if a=L∨(g.get? a).isSome=e_ then ck else (h.get? a).map fun o=>(a,o)
def rest (g h:H_) (L d:k_):List (k_×Obj):=(xV g h L).filter fun p=>u_ (p.1≠d)
structure Mod (K:f_) (mg:Str→Option g_) (base:H_):Prop where
 kin:K.In base
 glob:base.Ns y_ mg
 blt:∃ mb,base.Ns builtinsNs mb∧∀ x:Str,x≠"__name__"→mb x=Kp x
 nolimit:base.NoLimit
structure Cx where
 prog:rl
 w:C_
 K:f_
 mg:Str→Option g_
 base:H_
 A:D_
 N:List Str
 s₀:h_
 H₀:Hp
 env:Env
 outer:List Env
 stack:List Env
 ex:List k_
 fn:Str→Bool
 calm:Bool
 pn:List (k_×Obj)
 xe:g_→h_→Prop
def frs (l:List Env):List k_:=l.filterMap (·.frame)
abbrev Cx.fs (X:Cx):List k_:=frs X.outer
def Vis (sc:Kz) (x:Str):Prop:=sc.names.lookup x=a_ .local∨sc.names.lookup x=a_ .cell∨sc.names.lookup x=a_ .free
def Loc (sc:Kz) (x:Str):Prop:=sc.names.lookup x=a_ .local∨sc.names.lookup x=a_ .cell
def Ib (env:Env) (h:H_) (m:Str→Option g_) (x:Str) (u:g_):Prop :=
 (env.kindOf x=a_ .local∧m x=a_ u)∨((env.kindOf x=a_ .cell∨env.kindOf x=a_ .free)∧∃ c,env.cells.lookup x=a_ c∧h.IsCell c (a_ u))
structure Cx.Ok (X:Cx):Prop where
 mod:Mod X.K X.mg X.base
 kind:X.env.scope.kind=.function
 glob:X.env.globals=y_
 blt:X.env.builtins=builtinsNs
 above:X.s₀.heap.objs.size≤X.env.locals
 inj:∀ x y c,X.env.cells.lookup x=a_ c→X.env.cells.lookup y=a_ c→x=y
 has:∀ x,(X.env.kindOf x=a_ .cell∨X.env.kindOf x=a_ .free)→∃ c,X.env.cells.lookup x=a_ c
 cab:∀ x c,X.fn x=e_→X.env.cells.lookup x=a_ c→X.s₀.heap.objs.size≤c
 hd:X.calm=e_→X.A.handled=ck
 frames:X.A.frames=a_ X.stack
 stk:X.stack=X.outer∨(X.stack=X.env :: X.outer∧X.env.frame=a_ X.env.locals)
 exf:∀ b∈X.ex,b≠X.env.locals∧∀ x c,X.env.cells.lookup x=a_ c→c≠b
 bs:∀ b o,X.base.get? b=a_ o→X.s₀.heap.get? b=a_ o∧X.H₀ b=ck
 bsz:X.base.objs.size≤X.s₀.heap.objs.size
 noex:∀ b o,X.base.get? b=a_ o→b ∉ X.ex
 exfs:∀ b∈X.ex,b ∉ X.fs
 funs:X.s₀.heap.FunFrames X.base X.outer
 frf:∀ b∈X.fs,X.H₀ b=ck
structure Inv (X:Cx) (j':List (k_×Obj)) (σ:List (Option V)) (H:Hp) (s:h_):Prop where
 ok:X.Ok
 os:s.os=X.s₀.os
 bare:NA s.gens
 base:Un X.fs X.ex X.H₀ H X.s₀.heap s.heap
 loc:∃ m,s.heap.Ns X.env.locals m∧∀ (i:Nat) (x:Str) (v:V),X.N[i]?=a_ x→σ[i]?=a_ (a_ v)→Vis X.env.scope x→∃ u,RelV v u∧Ib X.env s.heap m x u
 cell:∀ x c,X.env.cells.lookup x=a_ c→∃ v,s.heap.IsCell c v
 free:H X.env.locals=ck
 freeC:∀ x c,X.env.cells.lookup x=a_ c→H c=ck
 pin:∀ p∈X.pn ++ j',s.heap.get? p.1=a_ p.2∧H p.1=ck∧p.1≠X.env.locals∧p.1 ∉ X.fs∧∀ v,p.2.data≠.cell v
 hok:HOk X.prog X.w H s.heap
 len:σ.length=X.N.length
section
variable {X:Cx} {j':List (k_×Obj)} {σ:List (Option V)} {H H':Hp} {s:h_} {h':H_}
theorem Cx.Ok.nofr (ok:X.Ok) {b:k_} {o:Obj} (e:X.base.get? b=a_ o):b ∉ X.fs:=fun hb=>by
 have:=(ok.funs.mem hb).1;rw [e] at this; cases this
theorem Inv.bs (I:Inv X j' σ H s):∀ b o,X.base.get? b=a_ o→s.heap.get? b=a_ o∧H b=ck:=fun b o e =>
 ⟨I.base.keep b o (I.ok.bs b o e).1 (I.ok.bs b o e).2 (I.ok.nofr e) (I.ok.noex b o e),I.base.free b o (I.ok.bs b o e).1 (I.ok.bs b o e).2 (I.ok.noex b o e)⟩
theorem Inv.bk (I:Inv X j' σ H s):∀ b o,X.base.get? b=a_ o→s.heap.get? b=a_ o:=fun b o e=>(I.bs b o e).1
theorem Inv.mod (I:Inv X j' σ H s):Mod X.K X.mg X.base:=I.ok.mod
theorem Inv.kIn (I:Inv X j' σ H s):X.K.In s.heap:=I.ok.mod.kin.keeps I.bk
theorem Inv.nolimit (I:Inv X j' σ H s):s.heap.NoLimit:=I.ok.mod.nolimit.keeps I.bk
theorem Inv.fr (I:Inv X j' σ H s):∃ m,Fr X.base X.env.locals s.heap m :=
 let ⟨m,hn,_⟩:=I.loc
 ⟨m,hn,I.bk,Jy I.ok.bsz I.ok.above⟩
theorem Inv.lt (I:Inv X j' σ H s):X.env.locals < s.heap.objs.size:=let ⟨_,hn,_⟩:=I.loc; hn.lt
theorem Inv.sz (I:Inv X j' σ H s):X.s₀.heap.objs.size≤s.heap.objs.size:=Jy I.ok.above (Mg I.lt)
theorem Inv.nofs (I:Inv X j' σ H s) {a:k_} (h:s.heap.objs.size≤a):a ∉ X.fs:=fun hb=>by
 obtain ⟨_,o,ho,_⟩:=I.ok.funs.mem hb;exact absurd (G_ (v_ ho) (Jy I.sz h)) (Kw _)
theorem Inv.cne (I:Inv X j' σ H s):∀ x c,X.env.cells.lookup x=a_ c→c≠X.env.locals:=fun x c e z=>by
 obtain ⟨v,o,ho,hd⟩:=I.cell x c e;obtain ⟨m,⟨o',es,ep,ho',hd',_⟩,_⟩:=I.loc;rw [z,ho'] at ho; cases ho; rw [hd'] at hd; cases hd
theorem Inv.funs (I:Inv X j' σ H s):s.heap.FunFrames X.base X.outer:=by
 have all:∀ (l:List Env),(∀ b∈frs l,b∈X.fs)→X.s₀.heap.FunFrames X.base l→s.heap.FunFrames X.base l:=by
  intro l
  induction l with
  | nil=>intro _ _; trivial
  | cons env r ih =>
   intro hs hl;obtain ⟨hk,⟨L,o,hf,hn,ho,hd⟩,hr⟩:=hl;have hL:L∈X.fs:=hs L (by unfold frs; rw [Mp,hf]; exact n_);obtain ⟨sl,e⟩:=I.base.slot L o ho (I.ok.frf L hL) hL fun z=>I.ok.exfs L z hL;exact ⟨hk,⟨L,_,hf,hn,e,hd⟩,ih (fun b hb=>hs b (by unfold frs; rw [Mp,hf]; exact o_ _ hb)) hr⟩
 exact all X.outer (fun _ hb=>hb) I.ok.funs
theorem Inv.stack (I:Inv X j' σ H s):s.heap.FunFrames X.base X.stack:=by
 rcases I.ok.stk with e | ⟨e,hf⟩
 · rw [e]; exact I.funs
 · rw [e];obtain ⟨m,hn,_⟩:=I.loc;refine .cons (by rw [I.ok.kind]; decide) hf hn ?_ I.funs;exact Nf (Jy I.ok.bsz I.ok.above)
theorem Inv.stkSub (I:Inv X j' σ H s):∀ b∈frs X.stack,b∈X.env.locals :: X.fs:=fun b hb=>by
 rcases I.ok.stk with e | ⟨e,hf⟩
 · rw [e] at hb; exact o_ _ hb
 · rw [e] at hb;unfold frs at hb;rw [Mp,hf] at hb;exact hb
theorem Inv.stkFree (I:Inv X j' σ H s):∀ b∈frs X.stack,H b=ck:=fun b hb=>by
 rcases w_.mp (I.stkSub b hb) with e | hb
 · rw [e]; exact I.free
 · obtain ⟨_,o,ho,_⟩:=I.ok.funs.mem hb;exact I.base.free b o ho (I.ok.frf b hb) fun z=>I.ok.exfs b z hb
theorem Inv.step {g':Array MR} {t':Nat} {d':Drawn} {ch:List k_} (I:Inv X j' σ H s)
 (hch:∀ b∈ch,(b∈X.ex∨X.s₀.heap.objs.size≤b)∧b≠X.env.locals∧(∀ x c,X.env.cells.lookup x=a_ c→c≠b)∧∀ p∈X.pn ++ j',p.1≠b)
 (keep:∀ b o,b≠X.env.locals→b ∉ X.fs→b ∉ ch→s.heap.get? b=a_ o→H b=ck→h'.get? b=a_ o)
 (slot:∀ b o,b≠X.env.locals→b∈X.fs→b ∉ ch→s.heap.get? b=a_ o→H b=ck→∃ sl,h'.get? b=a_ { o with slots:=sl }) (free:∀ b o,b ∉ ch→s.heap.get? b=a_ o→H b=ck→H' b=ck)
 (there:∀ b o,b ∉ ch→s.heap.get? b=a_ o→∃ o',h'.get? b=a_ o')
 (tups:∀ b xs,H b=a_ (.tup xs)→H' b=a_ (.tup xs)) (frzs:∀ b o u,H b=a_ (.frz o u)→H' b=a_ (.frz o u)) (tbls:∀ b ps,H b=a_ (.tbl ps)→∃ more,H' b=a_ (.tbl (ps ++ more)))
 (ns:∀ m,s.heap.Ns X.env.locals m→h'.Ns X.env.locals m) (hok:HOk X.prog X.w H' h') (hg:NA g') :
 Inv X j' σ H' { s with heap:=h',gens:=g',drawn:=d',toks:=t' }:=by
 have neL:∀ b o,X.s₀.heap.get? b=a_ o→b≠X.env.locals:=fun b o e=>I_ (G_ (v_ e) I.ok.above);have neC:∀ b o,X.s₀.heap.get? b=a_ o→b ∉ X.ex→b ∉ ch:=fun b o e hx hb=>by
  rcases (hch b hb).1 with z | z
  · exact hx z
  · exact absurd (G_ (v_ e) z) (Kw _)
 have cellK:∀ x c,X.env.cells.lookup x=a_ c→∀ v,s.heap.IsCell c v→h'.IsCell c v:=fun x c e v ⟨o,ho,hd⟩=>by
  have nch:c ∉ ch:=fun z=>(hch c z).2.2.1 x c e rfl;by_cases hc:c∈X.fs
  · obtain ⟨sl,q⟩:=slot c o (I.cne x c e) hc nch ho (I.freeC x c e);exact ⟨_,q,hd⟩
  · exact ⟨o,keep c o (I.cne x c e) hc nch ho (I.freeC x c e),hd⟩
 refine ⟨I.ok,I.os,hg,⟨fun b o e n hb hx=>?_,fun b o e n hb hx=>?_,fun b o e n hx=>?_,fun b o e hx=>?_,fun b xs e=>tups b xs (I.base.tups b xs e),fun b o xs e=>frzs b o xs (I.base.frzs b o xs e),fun b ps e=>?_⟩,?_,fun x c e=>?_,?_,fun x c e=>?_,fun p hp=>?_,hok,I.len⟩
 · exact keep b o (neL b o e) hb (neC b o e hx) (I.base.keep b o e n hb hx) (I.base.free b o e n hx)
 · obtain ⟨sl,e1⟩:=I.base.slot b o e n hb hx;obtain ⟨sl',e2⟩:=slot b _ (neL b o e) hb (neC b o e hx) e1 (I.base.free b o e n hx);exact ⟨sl',e2⟩
 · obtain ⟨o',e1⟩:=I.base.there b o e hx;exact free b o' (neC b o e hx) e1 (I.base.free b o e n hx)
 · obtain ⟨o',e1⟩:=I.base.there b o e hx;exact there b o' (neC b o e hx) e1
 · obtain ⟨m1,e1⟩:=I.base.tbls b ps e;obtain ⟨m2,e2⟩:=tbls b _ e1;exact ⟨m1 ++ m2,by rw [e2,NY]⟩
 · obtain ⟨m,hn,hl⟩:=I.loc;refine ⟨m,ns m hn,fun i x v e1 e2 e3=>?_⟩;obtain ⟨u,r,l⟩:=hl i x v e1 e2 e3;refine ⟨u,r,?_⟩;rcases l with l | ⟨k,c,e,z⟩
   · exact .inl l
   · exact .inr ⟨k,c,e,cellK x c e _ z⟩
 · obtain ⟨v,z⟩:=I.cell x c e;exact ⟨v,cellK x c e v z⟩
 · obtain ⟨m,⟨o,_,_,ho,_⟩,_⟩:=I.loc;exact free _ o (fun z=>(hch _ z).2.1 rfl) ho I.free
 · obtain ⟨v,o,ho,hd⟩:=I.cell x c e;exact free c o (fun z=>(hch c z).2.2.1 x c e rfl) ho (I.freeC x c e)
 · obtain ⟨e,n,ne,nf,d⟩:=I.pin p hp;have nch:p.1 ∉ ch:=fun z=>(hch p.1 z).2.2.2 p hp rfl;exact ⟨keep p.1 p.2 ne nf nch e n,free p.1 p.2 nch e n,ne,nf,d⟩
theorem Inv.un {t':Nat} (I:Inv X j' σ H s) (u:Un X.fs [] H H' s.heap h') (hok:HOk X.prog X.w H' h'):Inv X j' σ H' { s with heap:=h',toks:=t' }:=by
 obtain ⟨m,⟨o,es,ep,ho,r⟩,_⟩:=id I.loc;obtain ⟨sl,hL⟩:=u.any ho I.free (by simp);exact I.step (g':=s.gens) (d':=s.drawn) (ch:=[]) (fun _ z=>nomatch z) (fun b o _ hb _ e n=>u.keep b o e n hb (by simp)) (fun b o _ hb _ e n=>u.slot b o e n hb (by simp)) (fun b o _ e n=>u.free b o e n (by simp)) (fun b o _ e=>u.there b o e (by simp)) u.tups u.frzs u.tbls (fun m' hm=>by
  obtain ⟨o',es',ep',ho',r'⟩:=hm;rw [ho] at ho'; cases ho';exact ⟨_,es',ep',hL,r'⟩) hok I.bare
theorem Inv.call {g':Array MR} {t':Nat} {d':Drawn} {ch:List k_} (I:Inv X j' σ H s) (u:Un (frs X.stack) ch H H' s.heap h') (hok:HOk X.prog X.w H' h') (hg:NA g')
 (hch:∀ b∈ch,(b∈X.ex∨X.s₀.heap.objs.size≤b)∧b≠X.env.locals∧(∀ x c,X.env.cells.lookup x=a_ c→c≠b)∧∀ p∈X.pn ++ j',p.1≠b) :
 Inv X j' σ H' { s with heap:=h',gens:=g',drawn:=d',toks:=t' }:=by
 obtain ⟨m,⟨o,es,ep,ho,r⟩,_⟩:=id I.loc;obtain ⟨sl,hL⟩:=u.any ho I.free fun z=>(hch _ z).2.1 rfl;exact I.step (ch:=ch) hch (fun b o hL hb hc e n=>u.keep b o e n (fun z=>(w_.mp (I.stkSub b z)).elim hL hb) hc) (fun b o _ _ hc e n=>u.any e n hc) (fun b o hc e n=>u.free b o e n hc) (fun b o hc e=>u.there b o e hc) u.tups u.frzs u.tbls (fun m' hm=>by
  obtain ⟨o',es',ep',ho',r'⟩:=hm;rw [ho] at ho'; cases ho';exact ⟨_,es',ep',hL,r'⟩) hok hg
theorem Inv.turned {t':Nat} {it:k_} (I:Inv X j' σ H s) (k:∀ b o,b≠it→s.heap.get? b=a_ o→h'.get? b=a_ o) (hn:H it=ck) (hL:it≠X.env.locals)
 (h1:it∈X.ex∨X.s₀.heap.objs.size≤it) (h2:∀ x c,X.env.cells.lookup x=a_ c→c≠it) (h3:∀ p∈X.pn ++ j',p.1≠it):Inv X j' σ H { s with heap:=h',toks:=t' }:=by
 have nit:∀ b u,H b=a_ u→b≠it:=fun b u e z=>by rw [z,hn] at e; cases e
 refine I.step (g':=s.gens) (d':=s.drawn) (ch:=[it]) (fun b hb=>?_) (fun b o _ _ hc e _=>k b o (fun z=>hc (by simp [z])) e) (fun b o _ _ hc e _=>⟨o.slots,k b o (fun z=>hc (by simp [z])) e⟩) (fun _ _ _ _ n=>n)
  (fun b o hc e=>⟨o,k b o (fun z=>hc (by simp [z])) e⟩) (fun _ _ e=>e) (fun _ _ _ e=>e) (fun b ps e=>⟨#[],by rw [e]; simp⟩) (fun m hm=>?_) (fun b u e=>?_) I.bare
 · have e:b=it:=by simpa using hb
   subst e;exact ⟨h1,hL,h2,h3⟩
 · obtain ⟨o,es,ep,ho,r⟩:=hm;exact ⟨o,es,ep,k _ o (MU hL) ho,r⟩
 · refine (I.hok b u e).stay (fun c v hc q=>k c v ?_ q) (fun _ q=>q) fun _ _ q=>q;rcases hc with z | z
   · rw [z]; exact nit b u e
   · exact nit c _ z
theorem Inv.tok (I:Inv X j' σ H s) (t:Nat):Inv X j' σ H { s with toks:=t }:=I.un (h':=s.heap) (t':=t) Un.refl I.hok
theorem Inv.kept {t':Nat} (I:Inv X j' σ H s) (k:∀ b u,s.heap.get? b=a_ u→h'.get? b=a_ u):Inv X j' σ H { s with heap:=h',toks:=t' }:=I.un (Un.kept k) (I.hok.kept k)
theorem Inv.laid {a:k_} {o:HO} {t':Nat} (I:Inv X j' σ H s) (k:∀ b u,s.heap.get? b=a_ u→h'.get? b=a_ u) (hp:s.heap.objs.size≤a) (new:ObjOk X.prog X.w (upd H a o) h' a o) :
 Inv X j' σ (upd H a o) { s with heap:=h',toks:=t' }:=I.un (Un.laid k hp (I.hok.fresh hp)) (I.hok.laid k hp new)
theorem Inv.write {x e:k_} {o:HO} {t':Nat} (I:Inv X j' σ H s) (mu:Mut (H x)) (he:e=x∨H e=a_ (.own x)) (k:∀ b u,b≠e→s.heap.get? b=a_ u→h'.get? b=a_ u) (heo:∃ u,h'.get? e=a_ u)
 (new:ObjOk X.prog X.w (upd H x o) h' x o):Inv X j' σ (upd H x o) { s with heap:=h',toks:=t' }:=I.un (Un.write mu he k heo) (I.hok.write mu he k heo new)
theorem Inv.weak {σ':List (Option V)} (I:Inv X j' σ H s) (hl:σ'.length=σ.length) (w:∀ (i:Nat) v,σ'[i]?=a_ (a_ v)→σ[i]?=a_ (a_ v)):Inv X j' σ' H s :=
 ⟨I.ok,I.os,I.bare,I.base,let ⟨m,hn,hl'⟩:=I.loc; ⟨m,hn,fun i x v e1 e2 e3=>hl' i x v e1 (w i v e2) e3⟩,I.cell,I.free,I.freeC,I.pin,I.hok,hl.trans I.len⟩
theorem Inv.pins_of {pins':List (k_×Obj)} (I:Inv X j' σ H s) (h:∀ p∈pins',s.heap.get? p.1=a_ p.2∧H p.1=ck∧p.1≠X.env.locals∧p.1 ∉ X.fs∧∀ v,p.2.data≠.cell v):Inv X pins' σ H s :=
 ⟨I.ok,I.os,I.bare,I.base,I.loc,I.cell,I.free,I.freeC,fun p hp=>(Jn.mp hp).elim (fun z=>I.pin p (A_ _ z)) (h p),I.hok,I.len⟩
theorem o5 {N:List Str} (hN:N.Nodup) {i j:Nat} {x:Str} (a:N[i]?=a_ x) (b:N[j]?=a_ x):i=j:=by
 obtain ⟨h1,e1⟩:=Jm.mp a;obtain ⟨h2,e2⟩:=Jm.mp b;exact (QJ hN).mp (e1.trans e2.symm)
theorem qZ {M:PQ} {A:D_} {E:g_→h_→Prop} {i:Nat} {x:Str} {v:V} {u:g_} {Q:Unit→h_→Prop} (I:Inv X j' σ H s) (hN:X.N.Nodup) (hi:X.N[i]?=a_ x) (hx:Loc X.env.scope x) (r:RelV v u)
 (h:∀ s',Inv X j' (σ.set i (a_ v)) H s'→(∃ a,Lh a s.heap s'.heap∧(a=X.env.locals∨X.env.cells.lookup x=a_ a))→Q () s') (hf:X.fn x=e_∨X.env.scope.names.lookup x=a_ .local:=by first | exact .inl rfl | exact .inr rfl | assumption):uk M A (storeName X.env x u) Q E s:=by
 obtain ⟨m,hn,hl⟩:=id I.loc;have hcls:(X.env.scope.kind == .class || (X.env.scope.kind == .module && X.env.locals != X.env.globals))=d_:=by rw [I.ok.kind]; rfl
 have hiσ:i < σ.length:=by rw [I.len]; exact (Jm.mp hi).1
 have cne:=I.cne;have tracked:∀ {a:k_} {h':H_},(∃ o,s.heap.get? a=a_ o∧H a=ck)→Lh a s.heap h'→HOk X.prog X.w H h':=fun {a h'} ha hs b ob e=>by
  obtain ⟨_,_,hfree⟩:=ha;refine (I.hok b ob e).stay (fun c w' hc q=>(hs.2 c ?_).trans q) (fun _ q=>q) fun _ _ q=>q;rintro rfl;rcases hc with rfl | hc
  · rw [hfree] at e; cases e
  · rw [hfree] at hc; cases hc
 rcases hx with hk | hk
 · refine wpAny_storeName_local hk hn (fun h' hn' hs=>?_) hcls;obtain ⟨oL,_,_,hoL,_⟩:=id hn;refine h _ ⟨I.ok,I.os,I.bare,⟨fun b o e n hb hx=>?_,fun b o e n hb hx=>?_,I.base.free,fun b o e hx=>?_,I.base.tups,I.base.frzs,I.base.tbls⟩,⟨_,hn',fun j y v' e1 e2 e3=>?_⟩,fun y c e=>?_,I.free,I.freeC,fun p hp=>?_,tracked ⟨oL,hoL,I.free⟩ hs,by simpa using I.len⟩ ⟨_,hs,.inl rfl⟩
   · exact (hs.2 b (I_ (G_ (v_ e) I.ok.above))).trans (I.base.keep b o e n hb hx)
   · obtain ⟨sl,e1⟩:=I.base.slot b o e n hb hx;exact ⟨sl,(hs.2 b (I_ (G_ (v_ e) I.ok.above))).trans e1⟩
   · obtain ⟨o',e1⟩:=I.base.there b o e hx;exact ⟨o',(hs.2 b (I_ (G_ (v_ e) I.ok.above))).trans e1⟩
   · by_cases hj:j=i
     · subst hj;rw [hi] at e1; cases e1;rw [J_ hiσ] at e2;cases e2;exact ⟨u,r,.inl ⟨hk,by simp⟩⟩
     · rw [J0 (MU hj)] at e2;obtain ⟨u',r',q⟩:=hl j y v' e1 e2 e3;refine ⟨u',r',?_⟩;rcases q with ⟨k,e⟩ | ⟨k,c,e,z⟩
       · refine .inl ⟨k,?_⟩;have:y≠x:=fun e=>hj (o5 hN e1 (e ▸ hi));simp [this,e]
       · exact .inr ⟨k,c,e,z.sameBut hs (cne y c e)⟩
   · obtain ⟨w',z⟩:=I.cell y c e;exact ⟨w',z.sameBut hs (cne y c e)⟩
   · obtain ⟨e,n,ne,nf,d⟩:=I.pin p hp;exact ⟨(hs.2 p.1 ne).trans e,n,ne,nf,d⟩
 · have hfn:X.fn x=e_:=by
    rcases hf with z | z
    · exact z
    · rw [z] at hk; cases hk
   obtain ⟨c,hc⟩:=I.ok.has x (.inl hk);obtain ⟨w',z⟩:=I.cell x c hc;refine wpAny_storeName_cell I.ok.kind hk hc z (fun h' hc' hs=>?_);obtain ⟨oc,hoc,hocd⟩:=id z;refine h { s with heap:=h' } ⟨I.ok,I.os,I.bare,⟨fun b o e n hb hx=>?_,fun b o e n hb hx=>?_,I.base.free,fun b o e hx=>?_,I.base.tups,I.base.frzs,I.base.tbls⟩,⟨m,hn.sameBut hs (MU (cne x c hc)),fun j y v' e1 e2 e3=>?_⟩,fun y c' e=>?_,I.free,I.freeC,fun p hp=>?_,tracked ⟨oc,hoc,I.freeC x c hc⟩ hs,by simpa using I.len⟩ ⟨c,hs,.inr hc⟩
   · exact (hs.2 b (I_ (G_ (v_ e) (I.ok.cab x c hfn hc)))).trans (I.base.keep b o e n hb hx)
   · obtain ⟨sl,e1⟩:=I.base.slot b o e n hb hx;exact ⟨sl,(hs.2 b (I_ (G_ (v_ e) (I.ok.cab x c hfn hc)))).trans e1⟩
   · obtain ⟨o',e1⟩:=I.base.there b o e hx;exact ⟨o',(hs.2 b (I_ (G_ (v_ e) (I.ok.cab x c hfn hc)))).trans e1⟩
   · by_cases hj:j=i
     · subst hj;rw [hi] at e1; cases e1;rw [J_ hiσ] at e2;cases e2;exact ⟨u,r,.inr ⟨.inl hk,c,hc,hc'⟩⟩
     · rw [J0 (MU hj)] at e2;obtain ⟨u',r',q⟩:=hl j y v' e1 e2 e3;refine ⟨u',r',?_⟩;rcases q with q | ⟨k,c',e,z'⟩
       · exact .inl q
       · refine .inr ⟨k,c',e,z'.sameBut hs ?_⟩;rintro rfl;exact hj (o5 hN e1 (I.ok.inj _ _ _ e hc ▸ hi))
   · by_cases hcc:c'=c
     · subst hcc; exact ⟨_,hc'⟩
     · obtain ⟨w2,z2⟩:=I.cell y c' e;exact ⟨w2,z2.sameBut hs hcc⟩
   · obtain ⟨e,n,ne,nf,d⟩:=I.pin p hp;refine ⟨(hs.2 p.1 ?_).trans e,n,ne,nf,d⟩;intro q;rw [q,hoc] at e;have q':oc=p.2:=Jp e;exact d w' (by rw [← q']; exact hocd)
theorem o6 {M:PQ} {A:D_} {E:g_→h_→Prop} {i:Nat} {x:Str} {v:V} {u:g_} {Q:Unit→h_→Prop} (I:Inv X j' σ H s) (hN:X.N.Nodup) (hi:X.N[i]?=a_ x) (hx:Loc X.env.scope x) (r:RelV v u)
 (h:∀ s',Inv X j' (σ.set i (a_ v)) H s'→Q () s') (hf:X.fn x=e_∨X.env.scope.names.lookup x=a_ .local:=by first | exact .inl rfl | exact .inr rfl | assumption):uk M A (storeName X.env x u) Q E s :=
 qZ I hN hi hx r (fun s' I' _=>h s' I') hf
theorem Inv.call' {s':h_} {ch:List k_} (I:Inv X j' σ H s) (ho:s'.os=s.os) (u:Un (frs X.stack) ch H H' s.heap s'.heap) (hok:HOk X.prog X.w H' s'.heap) (hg:NA s'.gens)
 (hch:∀ b∈ch,(b∈X.ex∨X.s₀.heap.objs.size≤b)∧b≠X.env.locals∧(∀ x c,X.env.cells.lookup x=a_ c→c≠b)∧∀ p∈X.pn ++ j',p.1≠b):Inv X j' σ H' s':=by
 obtain ⟨h',g',d',t',o'⟩:=s';have e:o'=s.os:=ho;subst e;exact I.call (g':=g') (t':=t') (d':=d') u hok hg hch
end
abbrev XK:=g_→Option k_→Hp→Prop
abbrev St:=List (Option V)
abbrev VK:=V→Hp→Prop
abbrev TE:=St→Hp→VK→Prop
abbrev TT:=St→Hp→(Bool→Hp→Prop)→Prop
abbrev TA:=St→Hp→(List V→Hp→Prop)→Prop
structure qR where
 nx:St→Hp→Prop
 rt:VK
 bk:St→Hp→Prop:=fun _ _=>False
 ct:St→Hp→Prop:=fun _ _=>False
abbrev TS:=qR→St→Hp→Prop
def EP (X:Cx) (j':List (k_×Obj)) (σ:St) (Q:VK) (u:g_) (s':h_):Prop:=∃ v H',Inv X j' σ H' s'∧RelV v u∧Q v H'
def TP (X:Cx) (j':List (k_×Obj)) (σ:St) (Q:Bool→Hp→Prop) (b:Bool) (s':h_):Prop:=∃ H',Inv X j' σ H' s'∧Q b H'
def AP (X:Cx) (j':List (k_×Obj)) (σ:St) (Q:List V→Hp→Prop) (us:List g_) (s':h_):Prop:=∃ vs H',Inv X j' σ H' s'∧Vals vs us∧Q vs H'
def SP (X:Cx) (j':List (k_×Obj)) (D:qR) (f:Flow) (s':h_):Prop :=
 match f with
 | .next=>∃ σ' H',Inv X j' σ' H' s'∧D.nx σ' H'
 | .brk=>∃ σ' H',Inv X j' σ' H' s'∧D.bk σ' H'
 | .cont=>∃ σ' H',Inv X j' σ' H' s'∧D.ct σ' H'
 | .ret u=>∃ v σ' H',Inv X j' σ' H' s'∧RelV v u∧D.rt v H'
def PE (X:Cx) (e:F_) (t:TE):Prop :=
 ∀ (j':List (k_×Obj)) (s:h_) (σ:St) (H:Hp) (Q:VK),Inv X j' σ H s→t σ H Q→uk (z_ X.prog X.w) X.A (eval e X.env) (EP X j' σ Q) X.xe s
def PT (X:Cx) (e:F_) (t:TT):Prop :=
 ∀ (j':List (k_×Obj)) (s:h_) (σ:St) (H:Hp) (Q:Bool→Hp→Prop),Inv X j' σ H s→t σ H Q→uk (z_ X.prog X.w) X.A (isTrue e X.env (eval e X.env)) (TP X j' σ Q) X.xe s
def PW (X:Cx) (e:F_) (t:TT):Prop :=
 ∀ (whole:Sem g_) (j':List (k_×Obj)) (s:h_) (σ:St) (H:Hp) (Q:Bool→Hp→Prop),Inv X j' σ H s→t σ H Q→uk (z_ X.prog X.w) X.A (isTrue e X.env whole) (TP X j' σ Q) X.xe s
theorem PW.pt {X:Cx} {e:F_} {t:TT} (h:PW X e t):PT X e t:=h _
def PA (X:Cx) (es:List F_) (t:TA):Prop :=
 ∀ (pos:Pos) (j':List (k_×Obj)) (s:h_) (σ:St) (H:Hp) (Q:List V→Hp→Prop),Inv X j' σ H s→t σ H Q→uk (z_ X.prog X.w) X.A (spliced (JV pos (l_ es X.env))) (AP X j' σ Q) X.xe s
def PS (X:Cx) (st:Ky) (t:TS):Prop :=
 ∀ (j':List (k_×Obj)) (s:h_) (σ:St) (H:Hp) (D:qR),Inv X j' σ H s→t D σ H→uk (z_ X.prog X.w) X.A (exec st X.env) (SP X j' D) X.xe s
def PSs (X:Cx) (st:List Ky) (t:TS):Prop :=
 ∀ (j':List (k_×Obj)) (s:h_) (σ:St) (H:Hp) (D:qR),Inv X j' σ H s→t D σ H→uk (z_ X.prog X.w) X.A (execs st X.env) (SP X j' D) X.xe s
theorem thn {α:Type} {t:Sem α} {Q Q':α→h_→Prop} {M:PQ} {A:D_} {E:g_→h_→Prop} {s:h_} (h:uk M A t Q E s) (hQ:∀ a s,Q a s→Q' a s):uk M A t Q' E s:=JC h hQ fun _ _ x=>x
section
variable {X:Cx}
def Am (i:Nat):TE:=fun σ H Q=>∃ v,σ[i]?=a_ (a_ v)∧Q v H
def tC (v:V):TE:=fun _ H Q=>Q v H
theorem q8 {i:Nat} {x:Str} {pos:Pos} (hN:X.N[i]?=a_ x) (hv:Vis X.env.scope x) (hd:(x == ("__debug__":Str))=d_:=by decide) (hcd:(x == ("__classdict__":Str))=d_:=by decide):PE X (.Name x pos) (Am i):=by
 intro j' s σ H Q I h;obtain ⟨v,e,h⟩:=h;obtain ⟨m,hn,hl⟩:=I.loc;obtain ⟨u,r,l⟩:=hl i x v hN e hv;have fin:EP X j' σ Q u s:=⟨v,H,I,r,h⟩;rcases l with ⟨hk,hm⟩ | ⟨hk,c,hc,hcell⟩
 · exact wpAny_Name (wpAny_loadName_local I.ok.kind hk hn hm fin) hd
 · rcases hk with hk | hk
   · exact wpAny_Name (wpAny_loadName_cell I.ok.kind hk hc hcell fin) hd
   · exact wpAny_Name (wpAny_loadName_free I.ok.kind hk hc hcell fin hcd) hd
theorem AH {i j pos}:PE X (.Constant (.int i) j pos) (tC (.int i)):=fun _ _ _ H _ I h=>wpAny_Constant_int ⟨.int i,H,I.tok _,⟨_,rfl⟩,h⟩
theorem EJ {b j pos}:PE X (.Constant (.bool b) j pos) (tC (.bl b)):=fun _ _ _ H _ I h=>Constant_bool ⟨.bl b,H,I,rfl,h⟩
theorem AI {j pos}:PE X (.Constant .none j pos) (tC .non):=fun _ _ _ H _ I h=>Constant_none ⟨.non,H,I,rfl,h⟩
theorem AJ {x j pos}:PE X (.Constant (.str x) j pos) (tC (.str x)):=fun _ _ _ H _ I h=>Calls.Constant_str ⟨.str x,H,I.tok _,⟨_,rfl⟩,h⟩
def Gl (X:Cx) (x:Str):Prop:=X.env.kindOf x=a_ .globalImplicit
theorem kP {E:g_→h_→Prop} {j':List (k_×Obj)} {s:h_} {σ:St} {H:Hp} {x:Str} {u:g_} {pos:Pos} {Q:g_→h_→Prop} (I:Inv X j' σ H s) (hg:Gl X x) (hm:X.mg x=a_ u) (h:Q u s)
 (hd:(x == ("__debug__":Str))=d_:=by decide):uk (z_ X.prog X.w) X.A (eval (.Name x pos) X.env) Q E s :=
 NP I.ok.kind hg (Calls.loadGlobal_global (by rw [I.ok.glob]; exact I.mod.glob.keeps I.bk) hm h) hd
theorem gY {E:g_→h_→Prop} {j':List (k_×Obj)} {s:h_} {σ:St} {H:Hp} {x:Str} {u:g_} {pos:Pos} {Q:g_→h_→Prop} (I:Inv X j' σ H s) (hg:Gl X x) (hm:X.mg x=ck) (hv:Kp x=a_ u) (h:Q u s)
 (hn:x≠"__name__":=by decide) (hd:(x == ("__debug__":Str))=d_:=by decide):uk (z_ X.prog X.w) X.A (eval (.Name x pos) X.env) Q E s:=by
 obtain ⟨mb,h1,h2⟩:=I.mod.blt;exact NP I.ok.kind hg (Calls.loadGlobal_builtin (by rw [I.ok.glob]; exact I.mod.glob.keeps I.bk) hm (by rw [I.ok.blt]; exact h1.keeps I.bk) ((h2 x hn).trans hv) h) hd
theorem q9 {x:Str} {v:V} {u:g_} {pos:Pos} (hg:Gl X x) (hm:X.mg x=a_ u) (r:RelV v u) (hd:(x == ("__debug__":Str))=d_:=by decide):PE X (.Name x pos) (tC v) :=
 fun _ _ _ H _ I h=>kP I hg hm ⟨v,H,I,r,h⟩ hd
theorem xW {x:Str} {v:V} {u:g_} {pos:Pos} (hg:Gl X x) (hm:X.mg x=ck) (hv:Kp x=a_ u) (r:RelV v u) (hn:x≠"__name__":=by decide) (hd:(x == ("__debug__":Str))=d_:=by decide):PE X (.Name x pos) (tC v) :=
 fun _ _ _ H _ I h=>gY I hg hm hv ⟨v,H,I,r,h⟩ hn hd
variable {a b:F_} {ta tb:TE} {pos:Pos}
def tB (t:TE):TT:=fun σ H Q=>t σ H fun x H1=>∃ c,x=.bl c∧Q c H1
theorem AK {e:F_} {t:TE} (h:PE X e t) (he:∀ whole,isTrue e X.env whole=(do let v ← whole; standAt e.pos; MM [v] (truthy v)):=by intro _; rfl):PT X e (tB t):=by
 intro j' s σ H Q I hw;refine isTrue_plain (thn (h j' s σ H _ I hw) fun v s1 ⟨x,H1,I1,r1,q1⟩=>?_) (he _);obtain ⟨d,rfl,q⟩:=q1;cases r1;exact KT ⟨H1,I1,q⟩
variable {tA tB':TT} {rest:List F_}
def Ic (t u:TT):TT:=fun σ H Q=>t σ H fun c H1=>if c=e_ then u σ H1 Q else Q d_ H1
def tOr (t u:TT):TT:=fun σ H Q=>t σ H fun c H1=>if c=e_ then Q e_ H1 else u σ H1 Q
def Ie (t:TT):TT:=fun σ H Q=>t σ H fun c H1=>Q (!c) H1
theorem xX (ha:PT X a tA):PW X (.BoolOp .And [a] pos) tA:=by
 intro wh j' s σ H Q I h;refine isTrue_and (thn (ha j' s σ H Q I h) fun c s1 e=>?_);cases c with
 | true=>exact isTrue_and_nil e
 | false=>exact e
theorem AM (ha:PT X a tA):PW X (.BoolOp .Or [a] pos) tA:=by
 intro wh j' s σ H Q I h;refine isTrue_or (thn (ha j' s σ H Q I h) fun c s1 e=>?_);cases c with
 | false=>exact isTrue_or_nil e
 | true=>exact e
theorem AN (ha:PT X a tA) (hb:PW X (.BoolOp .And (b :: rest) pos) tB'):PW X (.BoolOp .And (a :: b :: rest) pos) (Ic tA tB'):=by
 intro wh j' s σ H Q I h;refine isTrue_and (thn (ha j' s σ H _ I h) fun c s1 ⟨H1,I1,q1⟩=>?_);cases c with
 | true=>exact hb wh j' s1 σ H1 Q I1 q1
 | false=>exact ⟨H1,I1,q1⟩
theorem EK (ha:PT X a tA) (hb:PW X (.BoolOp .Or (b :: rest) pos) tB'):PW X (.BoolOp .Or (a :: b :: rest) pos) (tOr tA tB'):=by
 intro wh j' s σ H Q I h;refine isTrue_or (thn (ha j' s σ H _ I h) fun c s1 ⟨H1,I1,q1⟩=>?_);cases c with
 | true=>exact ⟨H1,I1,q1⟩
 | false=>exact hb wh j' s1 σ H1 Q I1 q1
theorem AO (ha:PT X a tA):PT X (.UnaryOp .Not a pos) (Ie tA):=by
 intro j' s σ H Q I h;exact isTrue_not (ha j' s σ H (fun c H1=>Q (!c) H1) I h)
def EM (ta tb:TE):TE:=fun σ H Q=>ta σ H fun x H1=>∃ c,x=.bl c∧if c=e_ then tb σ H1 Q else Q (.bl d_) H1
def Ig (ta tb:TE):TE:=fun σ H Q=>ta σ H fun x H1=>∃ c,x=.bl c∧if c=e_ then Q (.bl e_) H1 else tb σ H1 Q
def EN (ta:TE):TE:=fun σ H Q=>ta σ H fun x H1=>∃ c,x=.bl c∧Q (.bl (!c)) H1
theorem AQ {op} {t:TE} (h:PE X a t):PE X (.BoolOp op [a] pos) t:=fun j' s σ H Q I hw=>BoolOp_one (h j' s σ H Q I hw)
theorem AR (ha:PE X a ta) (hb:PE X (.BoolOp .And (b :: rest) pos) tb):PE X (.BoolOp .And (a :: b :: rest) pos) (EM ta tb):=by
 intro j' s σ H Q I h;refine BoolOp_and (thn (ha j' s σ H _ I h) fun v s1 ⟨x,H1,I1,r1,q1⟩=>?_);obtain ⟨c,rfl,q1⟩:=q1;cases r1;refine KT ?_;cases c with
 | true=>exact hb j' s1 σ H1 Q I1 q1
 | false=>exact ⟨.bl d_,H1,I1,rfl,q1⟩
theorem EO (ha:PE X a ta) (hb:PE X (.BoolOp .Or (b :: rest) pos) tb):PE X (.BoolOp .Or (a :: b :: rest) pos) (Ig ta tb):=by
 intro j' s σ H Q I h;refine BoolOp_or (thn (ha j' s σ H _ I h) fun v s1 ⟨x,H1,I1,r1,q1⟩=>?_);obtain ⟨c,rfl,q1⟩:=q1;cases r1;refine KT ?_;cases c with
 | false=>exact hb j' s1 σ H1 Q I1 q1
 | true=>exact ⟨.bl e_,H1,I1,rfl,q1⟩
theorem AS (ha:PE X a ta):PE X (.UnaryOp .Not a pos) (EN ta):=by
 intro j' s σ H Q I h;refine UnaryOp_ (thn (ha j' s σ H _ I h) fun v s1 ⟨x,H1,I1,r1,q1⟩=>?_);obtain ⟨c,rfl,q1⟩:=q1;cases r1;exact not_of (KT ⟨.bl (!c),H1,I1,rfl,q1⟩)
def tIf (t:TT) (ta tb:TE):TE:=fun σ H Q=>t σ H fun c H1=>if c=e_ then ta σ H1 Q else tb σ H1 Q
theorem u4 {c:F_} (hc:PT X c tA) (ha:PE X a ta) (hb:PE X b tb):PE X (.IfExp c a b pos) (tIf tA ta tb):=by
 intro j' s σ H Q I h;refine wpAny_IfExp (thn (hc j' s σ H _ I h) fun d s1 ⟨H1,I1,q1⟩=>?_);cases d with
 | true=>exact ha j' s1 σ H1 Q I1 q1
 | false=>exact hb j' s1 σ H1 Q I1 q1
end
def SqL (K:f_) (H:Hp) (a:k_) (xs:List V):Prop :=
 Rd H a (.lst xs) ∨
  ∃ (o:Obj) (its:Array g_) (n:Nat),K.lookup a=a_ o∧o.cls=.type "list"∧o.dict=ck∧o.data=.seq its n∧its.size≤sizeLine∧Vals xs its.toList
def SqT (K:f_) (H:Hp) (a:k_) (xs:List V):Prop :=
 Rd H a (.tup xs) ∨
  ∃ (o:Obj) (its:Array g_) (n:Nat),K.lookup a=a_ o∧o.cls=.type "tuple"∧o.data=.seq its n∧its.size≤sizeLine∧Vals xs its.toList
def Ih:g_→Option V
 | .none=>a_ .non
 | .bool b=>a_ (.bl b)
 | .int i _=>a_ (.int i)
 | .str x _=>a_ (.str x)
 | .bytes b _=>a_ (.byt b)
 | .float b _=>a_ (.flt b)
 | .ref a=>a_ (.ref a)
 | .type n=>a_ (.ty n)
 | _=>ck
theorem RelV.abs {x:V} {u:g_} (r:RelV x u):Ih u=a_ x:=by
 cases x with
 | non=>cases r; rfl
 | bl _=>cases r; rfl
 | int _=>obtain ⟨t,rfl⟩:=r; rfl
 | str _=>obtain ⟨t,rfl⟩:=r; rfl
 | byt _=>obtain ⟨t,rfl⟩:=r; rfl
 | flt _=>obtain ⟨t,rfl⟩:=r; rfl
 | ref _=>cases r; rfl
 | ty _=>cases r; rfl
theorem RelV.inj {x y:V} {u:g_} (r:RelV x u) (q:RelV y u):x=y:=Jp (r.abs.symm.trans q.abs)
theorem Vals.inj:∀ {xs ys:List V} {us:List g_},Vals xs us→Vals ys us→xs=ys
 | _,_,_,.nil,.nil=>rfl
 | _,_,_,.cons r t,.cons r' t'=>by rw [r.inj r',Vals.inj t t']
section
variable {X:Cx} {j':List (k_×Obj)} {σ:St} {H:Hp} {s:h_} {a:k_} {xs ys:List V}
theorem SqL.of {K:f_} (h:H a=a_ (.lst xs)):SqL K H a xs:=.inl (.inl h)
theorem SqT.of {K:f_} (h:H a=a_ (.tup xs)):SqT K H a xs:=.inl (.inl h)
theorem Inv.list (I:Inv X j' σ H s) (h:SqL X.K H a xs):∃ its:List g_,Vals xs its∧PlainL s.heap a its.toArray∧xs.length≤sizeLine:=by
 rcases h with h | ⟨o,its,n,hk,hc,hd,hs,hz,r⟩
 · obtain ⟨z,its,n,r,e⟩:=h.ok I.hok;exact ⟨its,r,⟨_,n,e,rfl,rfl,rfl⟩,z⟩
 · refine ⟨its.toList,r,⟨o,n,I.kIn a o hk,hc,hd,by simpa using hs⟩,?_⟩;have e:=r.length;simp only [JB] at e;omega
theorem Inv.tuple (I:Inv X j' σ H s) (h:SqT X.K H a xs):∃ its:List g_,Vals xs its∧Rf s.heap a its.toArray∧xs.length≤sizeLine:=by
 rcases h with h | ⟨o,its,n,hk,hc,hs,hz,r⟩
 · obtain ⟨z,its,r,p⟩:=h.ok I.hok;exact ⟨its,r,p,z⟩
 · refine ⟨its.toList,r,⟨o,I.kIn a o hk,hc,n,by simpa using hs⟩,?_⟩;have e:=r.length;simp only [JB] at e;omega
theorem Inv.list_inj (I:Inv X j' σ H s) (h:SqL X.K H a xs) (h':SqL X.K H a ys):xs=ys:=by
 obtain ⟨its,r,⟨o,n,e,_,_,d⟩,_⟩:=I.list h;obtain ⟨its',r',⟨o',n',e',_,_,d'⟩,_⟩:=I.list h';rw [e] at e'; cases e';rw [d] at d';injection d' with d1 _;have:its=its':=by simpa using congrArg Array.toList d1
 subst this;exact r.inj r'
theorem Inv.tuple_inj (I:Inv X j' σ H s) (h:SqT X.K H a xs) (h':SqT X.K H a ys):xs=ys:=by
 obtain ⟨its,r,⟨o,e,_,n,d⟩,_⟩:=I.tuple h;obtain ⟨its',r',⟨o',e',_,n',d'⟩,_⟩:=I.tuple h';rw [e] at e'; cases e';rw [d] at d';injection d' with d1 _;have:its=its':=by simpa using congrArg Array.toList d1
 subst this;exact r.inj r'
end
abbrev Cx.wish (X:Cx) (E:g_→h_→Prop):Cx:={ X with xe:=E }
abbrev Cx.nox (X:Cx):Cx:=X.wish fun _ _=>False
theorem Cx.Ok.wish {X:Cx} (ok:X.Ok) (E:g_→h_→Prop):(X.wish E).Ok :=
 ⟨ok.mod,ok.kind,ok.glob,ok.blt,ok.above,ok.inj,ok.has,ok.cab,ok.hd,ok.frames,ok.stk,ok.exf,ok.bs,ok.bsz,ok.noex,ok.exfs,ok.funs,ok.frf⟩
theorem Cx.Ok.unwish {X:Cx} {E:g_→h_→Prop} (ok:(X.wish E).Ok):X.Ok :=
 ⟨ok.mod,ok.kind,ok.glob,ok.blt,ok.above,ok.inj,ok.has,ok.cab,ok.hd,ok.frames,ok.stk,ok.exf,ok.bs,ok.bsz,ok.noex,ok.exfs,ok.funs,ok.frf⟩
section
variable {X:Cx} {j':List (k_×Obj)} {σ:St} {H:Hp} {s:h_} {E:g_→h_→Prop}
theorem Inv.wish (I:Inv X j' σ H s) (E:g_→h_→Prop):Inv (X.wish E) j' σ H s:=⟨I.ok.wish E,I.os,I.bare,I.base,I.loc,I.cell,I.free,I.freeC,I.pin,I.hok,I.len⟩
theorem Inv.unwish (I:Inv (X.wish E) j' σ H s):Inv X j' σ H s:=⟨I.ok.unwish,I.os,I.bare,I.base,I.loc,I.cell,I.free,I.freeC,I.pin,I.hok,I.len⟩
theorem SP.unwish {D:qR} {f:Flow} {s':h_} (h:SP (X.wish E) j' D f s'):SP X j' D f s':=by
 cases f with
 | next=>obtain ⟨σ',H',I,q⟩:=h; exact ⟨σ',H',I.unwish,q⟩
 | brk=>obtain ⟨σ',H',I,q⟩:=h; exact ⟨σ',H',I.unwish,q⟩
 | cont=>obtain ⟨σ',H',I,q⟩:=h; exact ⟨σ',H',I.unwish,q⟩
 | ret u=>obtain ⟨v,σ',H',I,r,q⟩:=h; exact ⟨v,σ',H',I.unwish,r,q⟩
theorem PE.nox {e:F_} {t:TE} (h:PE X.nox e t):PE X e t:=fun j' s σ H Q I hw =>
 JC (h j' s σ H Q (I.wish _) hw) (fun _ _ ⟨v,H',I',r,q⟩=>⟨v,H',I'.unwish,r,q⟩) fun _ _ z=>JK z
theorem PT.nox {e:F_} {t:TT} (h:PT X.nox e t):PT X e t:=fun j' s σ H Q I hw =>
 JC (h j' s σ H Q (I.wish _) hw) (fun _ _ ⟨H',I',q⟩=>⟨H',I'.unwish,q⟩) fun _ _ z=>JK z
theorem PSs.nox {st:List Ky} {t:TS} (h:PSs X.nox st t):PSs X st t:=fun j' s σ H D I hw =>
 JC (h j' s σ H D (I.wish _) hw) (fun _ _ q=>q.unwish) fun _ _ z=>JK z
end
section
variable {X:Cx} {st:Ky} {rest:List Ky} {t u:TS} {e:F_} {te:TE} {pos:Pos}
def EQ:TS:=fun D σ H=>D.nx σ H
def Ii (t u:TS):TS:=fun D σ H=>t { D with nx:=u D } σ H
theorem rf:PSs X [] EQ:=fun _ _ σ H _ I h=>Ni ⟨σ,H,I,h⟩
theorem kQ (h1:PS X st t) (h2:PSs X rest u):PSs X (st :: rest) (Ii t u):=by
 intro j' s σ H D I h;refine wpAny_execs_cons (thn (h1 j' s σ H { D with nx:=u D } I h) fun f s1 q=>?_);cases f with
 | next =>
  obtain ⟨σ',H',I',q⟩:=q;exact h2 j' s1 σ' H' D I' q
 | ret v=>exact q
 | brk=>exact q
 | cont=>exact q
theorem rg (h1:PS X st t):PSs X [st] t:=by
 intro j' s σ H D I h;refine wpAny_execs_cons (thn (h1 j' s σ H D I h) fun f s1 q=>?_);cases f with
 | next=>exact Ni q
 | ret v=>exact q
 | brk=>exact q
 | cont=>exact q
theorem Inv.quiet {j':List (k_×Obj)} {σ:St} {H:Hp} {s:h_} (I:Inv X j' σ H s):interactive X.env=d_:=by simp [interactive,I.ok.kind]
def ES (te:TE):TS:=fun D σ H=>te σ H fun _ H1=>D.nx σ H1
theorem rh (he:PE X e te) (hs:KW e ck pos.line X.env=pure d_:=by rfl):PS X (.Expr e pos) (ES te):=by
 intro j' s σ H D I h;exact wpAny_Expr_any (thn (he j' s σ H _ I h) fun v s1 ⟨x,H1,I1,r1,q1⟩=>⟨σ,H1,I1,q1⟩) I.quiet hs
def Ij (te:TE):TS:=fun D σ H=>te σ H D.rt
theorem wS (he:PE X e te):PS X (.Return (a_ e) pos) (Ij te):=by
 intro j' s σ H D I h;exact wpAny_Return_some (thn (he j' s σ H _ I h) fun v s1 ⟨x,H1,I1,r1,q1⟩=>⟨x,σ,H1,I1,r1,q1⟩)
def Ik (c:TT) (t u:TS):TS:=fun D σ H=>c σ H fun b H1=>if b=e_ then t D σ H1 else u D σ H1
theorem xY {c:F_} {a b:List Ky} {tc:TT} (hc:PT X c tc) (ha:PSs X a t) (hb:PSs X b u):PS X (.If c a b pos) (Ik tc t u):=by
 intro j' s σ H D I h;refine wpAny_If (thn (hc j' s σ H _ I h) fun d s1 ⟨H1,I1,q1⟩=>?_);cases d with
 | true=>exact ha j' s1 σ H1 D I1 q1
 | false=>exact hb j' s1 σ H1 D I1 q1
end
abbrev TG:=V→St→Hp→(St→Hp→Prop)→Prop
abbrev TGs:=List V→St→Hp→(St→Hp→Prop)→Prop
def PG (X:Cx) (target:F_) (t:TG):Prop :=
 ∀ (j':List (k_×Obj)) (s:h_) (σ:St) (H:Hp) (v:V) (u:g_) (Q:St→Hp→Prop),Inv X j' σ H s→RelV v u→t v σ H Q →
  uk (z_ X.prog X.w) X.A (LI target X.env u) (fun _ s'=>∃ σ' H',Inv X j' σ' H' s'∧Q σ' H') X.xe s
def PGs (X:Cx) (ts:List F_) (t:TGs):Prop :=
 ∀ (j':List (k_×Obj)) (s:h_) (σ:St) (H:Hp) (vs:List V) (us:List g_) (Q:St→Hp→Prop),Inv X j' σ H s→Vals vs us→t vs σ H Q →
  uk (z_ X.prog X.w) X.A (assignInOrder ((Jq ts X.env).map (·.2)) us) (fun _ s'=>∃ σ' H',Inv X j' σ' H' s'∧Q σ' H') X.xe s
abbrev ET:=V→V→V→Hp→(Hp→Prop)→Prop
def Hn (X:Cx) (t:ET):Prop :=
 ∀ (j':List (k_×Obj)) (s:h_) (σ:St) (H:Hp) (o i v:V) (ov iv u:g_) (Q:Hp→Prop),Inv X j' σ H s→RelV o ov→RelV i iv→RelV v u→t o i v H Q →
  uk (z_ X.prog X.w) X.A (setItem ov iv u) (fun _ s'=>∃ H',Inv X j' σ H' s'∧Q H') X.xe s
section
variable {X:Cx} {pos:Pos}
def u5 (i:Nat):TG:=fun v σ H Q=>Q (σ.set i (a_ v)) H
theorem hZ {i:Nat} {x:Str} (hN:X.N.Nodup) (hi:X.N[i]?=a_ x) (hx:Loc X.env.scope x) (hf:X.fn x=e_∨X.env.scope.names.lookup x=a_ .local:=by first | exact .inl rfl | exact .inr rfl | assumption):PG X (.Name x pos) (u5 i):=by
 intro j' s σ H v u Q I r h;exact wpAny_assign_Name (o6 I hN hi hx r (fun s' I'=>⟨_,H,I',h⟩) hf)
def Il:TGs:=fun vs σ H Q=>vs=[]∧Q σ H
def EU (t:TG) (u:TGs):TGs:=fun vs σ H Q=>∃ v r,vs=v :: r∧t v σ H fun σ' H'=>u r σ' H' Q
theorem rj:PGs X [] Il:=by
 intro j' s σ H vs us Q I r h;obtain ⟨e,h⟩:=h;subst e;cases r;exact assignInOrder_nil ⟨σ,H,I,h⟩
theorem kT {e:F_} {es:List F_} {t:TG} {u:TGs} (h1:PG X e t) (h2:PGs X es u)
 (hs:(Jq (e :: es) X.env).map (·.2)=LI e X.env :: (Jq es X.env).map (·.2):=by rfl):PGs X (e :: es) (EU t u):=by
 intro j' s σ H vs us Q I r h;obtain ⟨v,vr,e1,h⟩:=h;subst e1;cases r with
 | cons r rr =>
  rw [hs];refine assignInOrder_cons (thn (h1 j' s σ H _ _ _ I r h) fun _ s1 ⟨σ1,H1,I1,q1⟩=>?_);exact h2 j' s1 σ1 H1 _ _ Q I1 rr q1
def Im (K:f_) (n:Nat) (t:TGs):TG:=fun v σ H Q=>∃ a xs,v=.ref a∧SqT K H a xs∧xs.length=n∧t xs σ H Q
theorem wT {es:List F_} {k:Nat} {t:TGs} {n:Nat} (hc:X.calm=e_) (h:PGs X es t)
 (hn:(Jq es X.env).length=n:=by rfl) (hst:(Jq es X.env).findIdx? (·.1)=ck:=by rfl):PG X (.Tuple es k pos) (Im X.K n t):=by
 intro j' s σ H v u Q I r hw;obtain ⟨a,xs,e1,hq,hl,hw⟩:=hw;subst e1;cases r;obtain ⟨its,rv,ht,hz⟩:=I.tuple hq;refine assign_Tuple_tuple (I.ok.hd hc) ht (by simp [hn,← hl,rv.length]) hst fun h' hx=>?_;have I1:Inv X j' σ H { s with heap:=h' }:=I.kept (t':=s.toks) fun b o e=>hx b o (I_ (v_ e)) e;exact h j' _ σ H xs _ Q I1 (by simpa using rv) hw
def Io (to ti:TE) (t:ET):TG:=fun v σ H Q=>to σ H fun o H1=>ti σ H1 fun i H2=>t o i v H2 fun H3=>Q σ H3
theorem AT {o i:F_} {to ti:TE} {t:ET} (ho:PE X o to) (hi:PE X i ti) (hs:Hn X t)
 (ha:∀ v,LI (.Subscript o i pos) X.env v=(do
   let ov ← MM [v] (eval o X.env)
   let iv ← MM [v,ov] (eval i X.env)
   standAt pos
   MM [v,ov,iv] (setItem ov iv v)
   release [v,ov,iv] []):=by intro _; rfl):PG X (.Subscript o i pos) (Io to ti t):=by
 intro j' s σ H v u Q I r h;rw [ha];refine c_ (JY (thn (ho j' s σ H _ I h) fun ov s1 ⟨x,H1,I1,r1,q1⟩=>?_));refine c_ (JY (thn (hi j' s1 σ H1 _ I1 q1) fun iv s2 ⟨y,H2,I2,r2,q2⟩=>?_));refine c_ (PD (c_ (JY (thn (hs j' s2 σ H2 x y v ov iv u _ I2 r1 r2 r q2) fun _ s3 ⟨H3,I3,q3⟩=>?_))));exact wpAny_release ⟨σ,H3,I3,q3⟩
def Ho (te:TE) (g:TG):TS:=fun D σ H=>te σ H fun x H1=>g x σ H1 D.nx
theorem wU {tg e:F_} {te:TE} {g:TG} (he:PE X e te) (hg:PG X tg g) (hs:PJ [tg] e pos.line X.env=pure d_:=by rfl) (hw:PK [tg] e X.env=pure ck:=by rfl)
 (h1:(Jq [tg] X.env).map (·.2)=[LI tg X.env]:=by rfl):PS X (.Assign [tg] e pos) (Ho te g):=by
 intro j' s σ H D I h;refine wpAny_Assign_stores (thn (he j' s σ H _ I h) fun v s1 ⟨x,H1,I1,r1,q1⟩=>?_) hs hw;rw [h1];exact thn (hg j' s1 σ H1 x v _ I1 r1 q1) fun _ s2 q=>q
theorem rm {i:Nat} {x:Str} {e:F_} {te:TE} {pos':Pos} (hN:X.N.Nodup) (hi:X.N[i]?=a_ x) (hx:Loc X.env.scope x) (he:PE X e te) (hs:KW e (a_ (.Name x pos')) pos.line X.env=pure d_:=by rfl) (hf:X.fn x=e_∨X.env.scope.names.lookup x=a_ .local:=by first | exact .inl rfl | exact .inr rfl | assumption) :
 PS X (.Assign [.Name x pos'] e pos) (Ho te (u5 i)):=by
 intro j' s σ H D I h;refine wpAny_Assign_Name (thn (he j' s σ H _ I h) fun v s1 ⟨y,H1,I1,r1,q1⟩=>?_) hs;exact o6 I1 hN hi hx r1 (fun s2 I2=>⟨_,H1,I2,q1⟩) hf
end
section
variable {X:Cx} {pos:Pos}
end
structure It where
 go:Nat→Hp→Prop
 yld:Nat→Hp→V→Hp→Prop
 stop:Nat→Hp→Prop
def ni (X:Cx) (j':List (k_×Obj)) (H:Hp) (b:k_):Prop :=
 H b=ck∧b≠X.env.locals∧b ∉ X.fs∧(b∈X.ex∨X.s₀.heap.objs.size≤b)∧(∀ x c,X.env.cells.lookup x=a_ c→c≠b)∧∀ p∈X.pn ++ j',p.1≠b
theorem Inv.fpOk {X:Cx} {j':List (k_×Obj)} {σ:St} {H H':Hp} {s:h_} {b:k_} (I:Inv X j' σ H s) (hb:s.heap.objs.size≤b) (hn:H' b=ck):ni X j' H' b:=by
 refine ⟨hn,LO (G_ I.lt hb),I.nofs hb,.inr (Jy I.sz hb),fun x c e z=>?_,fun p hp z=>?_⟩
 · obtain ⟨v,q⟩:=I.cell x c e;exact absurd (G_ q.lt (by rw [z]; exact hb)) (Kw _)
 · exact absurd (G_ (v_ (I.pin p hp).1) (by rw [z]; exact hb)) (Kw _)
structure u8 (P:rl) (w:C_) (K:f_) (tg:F_) (J:It) (fp:List k_) (it:k_) (tn:Nat→H_→Prop):Prop where
 mem:it∈fp
 obj:∀ i h,tn i h→∀ b∈fp,∃ o,h.get? b=a_ o∧∀ v,o.data≠.cell v
 keep:∀ i h h',tn i h→(∀ b∈fp,∀ o,h.get? b=a_ o→h'.get? b=a_ o)→tn i h'
 item:∀ (X:Cx),X.prog=P→X.w=w→X.K=K→X.calm=e_→∀ (i:Nat) (j':List (k_×Obj)) (s:h_) (σ:St) (H:Hp) (E:g_→h_→Prop),Inv X j' σ H s→(∀ b∈fp,ni X j' H b)→tn i s.heap→J.go i H →
  uk (z_ P w) X.A (N8 (.ref it)) (fun r s1=>∃ u,r=a_ u ∧
   uk (z_ P w) X.A (Nk tg (.ref it) u) (fun _ s2=>∃ x H',Inv X j' σ H' s2∧RelV x u∧J.yld i H x H'∧tn (i + 1) s2.heap∧∀ b∈fp,H' b=ck) E s1) E s
 done:∀ (X:Cx),X.prog=P→X.w=w→X.K=K→X.calm=e_→∀ (i:Nat) (j':List (k_×Obj)) (s:h_) (σ:St) (H:Hp) (E:g_→h_→Prop),Inv X j' σ H s→(∀ b∈fp,ni X j' H b)→tn i s.heap→J.stop i H →
  uk (z_ P w) X.A (N8 (.ref it)) (fun r s1=>r=ck∧Inv X j' σ H s1) E s
 self:∀ (A:D_) (i:Nat) (s:h_) (Q:g_→h_→Prop) (E:g_→h_→Prop),tn i s.heap→Q (.ref it) s→uk (z_ P w) A (pyIter (.ref it)) Q E s
abbrev TI:=St→Hp→(It→Hp→Prop)→Prop
def PIE (X:Cx) (j':List (k_×Obj)) (σ:St) (tg:F_) (R:It→Hp→Prop) (itv:g_) (s2:h_):Prop :=
 ∃ (it:k_) (fp:List k_) (tn:Nat→H_→Prop) (J:It) (H':Hp),itv=.ref it∧Inv X j' σ H' s2∧u8 X.prog X.w X.K tg J fp it tn∧tn 0 s2.heap∧(∀ b∈fp,ni X j' H' b)∧R J H'
def PI (X:Cx) (tg iter:F_) (wi:TI):Prop :=
 ∀ (j':List (k_×Obj)) (s:h_) (σ:St) (H:Hp) (R:It→Hp→Prop),Inv X j' σ H s→wi σ H R →
  uk (z_ X.prog X.w) X.A (eval iter X.env) (fun v s1=>uk (z_ X.prog X.w) X.A (pyIter v) (PIE X j' σ tg R) X.xe s1) X.xe s
theorem u9 {M:PQ} {A:D_} {E:g_→h_→Prop} {s:h_} {tg:F_} {it:k_} {u:g_} {o:Obj} {n:String} {vs:Array g_} {Q:Unit→h_→Prop} (ho:s.heap.get? it=a_ o) (hc:o.cls=.type n) (hd:o.data=.fields vs)
 (hn:["enumerate","zip","dict_itemiterator","dict_reverseitemiterator","odict_iterator","itertools.zip_longest","itertools.pairwise"].contains n=d_) (hQ:Q () s):uk M A (Nk tg (.ref it) u) Q E s:=by
 unfold Nk;cases tg <;> first
  | exact j_ hQ
  | (cases u <;> first
      | exact j_ hQ
      | (refine c_ (wpAny_load ho ?_)
         rw [hc,hd];show uk M A (if (["enumerate","zip","dict_itemiterator","dict_reverseitemiterator","odict_iterator","itertools.zip_longest","itertools.pairwise"].contains n && vs[0]? == a_ (Ot _))=e_ then _ else _) Q E s;rw [if_neg (by intro h; rw [hn,Bool.false_and] at h; cases h)];exact j_ hQ))
def Itl (K:f_) (a:k_):It :=
 ⟨fun i H=>∃ xs x,SqL K H a xs∧xs[i]?=a_ x,fun i H x H'=>H'=H∧∀ xs,SqL K H a xs→xs[i]?=a_ x,fun i H=>∃ xs,SqL K H a xs∧xs.length≤i⟩
def Itt (K:f_) (a:k_):It :=
 ⟨fun i H=>∃ xs x,SqT K H a xs∧xs[i]?=a_ x,fun i H x H'=>H'=H∧∀ xs,SqT K H a xs→xs[i]?=a_ x,fun i H=>∃ xs,SqT K H a xs∧xs.length≤i⟩
def Itr (lo:Int) (n:Nat):It:=⟨fun i _=>i < n,fun i H x H'=>H'=H∧x=.int (lo + i),fun i _=>n≤i⟩
theorem rn {P:rl} {w:C_} {K:f_} {tg:F_} (a it:k_):u8 P w K tg (Itl K a) [it] it (fun i h=>h.IsListIter it a i) where
 mem:=by simp
 obj:=fun i h st b hb=>by
  have e:b=it:=by simpa using hb
  subst e;obtain ⟨o,e,c,d⟩:=st;exact ⟨o,e,fun v z=>by rw [d] at z; cases z⟩
 keep:=fun i h h' st k=>st.at fun o e=>k it (by simp) o e
 item:=by
  intro X hP hw hK hc i j' s σ H E I hf st hg;subst hP hw hK;obtain ⟨xs,x,hq,hx⟩:=hg;obtain ⟨its,rv,p,hz⟩:=I.list hq;obtain ⟨u,hu,ru⟩:=rv.get hx;obtain ⟨f0,f1,f2,f3,f4,f5⟩:=hf it (by simp);refine wpAny_pyNext_list_item st p.isList (x:=u) (by simpa using hu) fun h' st' sb=>?_;have I1:Inv X j' σ H { s with heap:=h' }:=I.turned (t':=s.toks) (fun b o hb e=>(sb.2 b hb).trans e) f0 f1 f3 f4 f5;obtain ⟨o,e,c,d⟩:=id st';exact ⟨u,rfl,u9 (s:={ s with heap:=h' }) e c d (by decide) ⟨x,H,I1,ru,⟨rfl,fun ys hy=>by rw [I.list_inj hy hq]; exact hx⟩,st',fun b hb=>(hf b hb).1⟩⟩
 done:=by
  intro X hP hw hK hc i j' s σ H E I hf st hg;subst hP hw hK;obtain ⟨xs,hq,hx⟩:=hg;obtain ⟨its,rv,p,hz⟩:=I.list hq;obtain ⟨f0,f1,f2,f3,f4,f5⟩:=hf it (by simp);have hl:=rv.length;exact wpAny_pyNext_list_end (I.ok.hd hc) st p.isList (by simp; omega) fun h' eb=>⟨rfl,I.turned (t':=s.toks) (fun b o hb e=>eb b o hb e) f0 f1 f3 f4 f5⟩
 self:=fun _ _ _ _ _ st h=>wpAny_pyIter_listiter st h
theorem p8 {P:rl} {w:C_} {K:f_} {tg:F_} (a it:k_):u8 P w K tg (Itt K a) [it] it (fun i h=>h.IsTupleIter it a i) where
 mem:=by simp
 obj:=fun i h st b hb=>by
  have e:b=it:=by simpa using hb
  subst e;obtain ⟨o,e,c,d⟩:=st;exact ⟨o,e,fun v z=>by rw [d] at z; cases z⟩
 keep:=fun i h h' st k=>st.at fun o e=>k it (by simp) o e
 item:=by
  intro X hP hw hK hc i j' s σ H E I hf st hg;subst hP hw hK;obtain ⟨xs,x,hq,hx⟩:=hg;obtain ⟨its,rv,p,hz⟩:=I.tuple hq;obtain ⟨u,hu,ru⟩:=rv.get hx;obtain ⟨f0,f1,f2,f3,f4,f5⟩:=hf it (by simp);refine wpAny_pyNext_tuple_item st (show s.heap.IsTuple a its.toArray from p) (x:=u) (by simpa using hu) fun h' st' sb=>?_;have I1:Inv X j' σ H { s with heap:=h' }:=I.turned (t':=s.toks) (fun b o hb e=>(sb.2 b hb).trans e) f0 f1 f3 f4 f5;obtain ⟨o,e,c,d⟩:=id st';exact ⟨u,rfl,u9 (s:={ s with heap:=h' }) e c d (by decide) ⟨x,H,I1,ru,⟨rfl,fun ys hy=>by rw [I.tuple_inj hy hq]; exact hx⟩,st',fun b hb=>(hf b hb).1⟩⟩
 done:=by
  intro X hP hw hK hc i j' s σ H E I hf st hg;subst hP hw hK;obtain ⟨xs,hq,hx⟩:=hg;obtain ⟨its,rv,p,hz⟩:=I.tuple hq;obtain ⟨f0,f1,f2,f3,f4,f5⟩:=hf it (by simp);have hl:=rv.length;exact wpAny_pyNext_tuple_end (I.ok.hd hc) st (show s.heap.IsTuple a its.toArray from p) (by simp; omega) fun h' eb=>⟨rfl,I.turned (t':=s.toks) (fun b o hb e=>eb b o hb e) f0 f1 f3 f4 f5⟩
 self:=fun _ _ _ _ _ st h=>wpAny_pyIter_tupleiter st h
theorem p9 {P:rl} {w:C_} {K:f_} {tg:F_} (it:k_) (lo:Int) (n:Nat):u8 P w K tg (Itr lo n) [it] it (fun i h=>IsRangeIter h it (lo + (i:Nat) * 1) ((n:Int) - (i:Nat)) 1) where
 mem:=by simp
 obj:=fun i h st b hb=>by
  have e:b=it:=by simpa using hb
  subst e;exact ⟨_,st,fun v z=>by
   have z':Pc _=Data.cell v:=z;cases z'⟩
 keep:=fun i h h' st k=>k it (by simp) _ st
 item:=by
  intro X hP hw hK hc i j' s σ H E I hf st hg;subst hP hw hK;obtain ⟨f0,f1,f2,f3,f4,f5⟩:=hf it (by simp);have W:=Walks.range (prog:=X.prog) (w:=X.w) (I.ok.hd hc) it lo 1 n;refine W.item i s _ _ hg st fun v h' tk hv st' kk=>?_;obtain ⟨t,rfl⟩:=hv;have I1:Inv X j' σ H { s with heap:=h',toks:=tk }:=I.turned (fun b o hb e=>kk b o (by simpa using hb) e) f0 f1 f3 f4 f5;refine ⟨_,rfl,u9 (s:={ s with heap:=h',toks:=tk }) (n:="range_iterator") st' rfl rfl (by decide) ⟨.int (lo + i),H,I1,⟨t,?_⟩,⟨rfl,rfl⟩,st',fun b hb=>(hf b hb).1⟩⟩;rw [Int.mul_one]
 done:=by
  intro X hP hw hK hc i j' s σ H E I hf st hg;subst hP hw hK;obtain ⟨f0,f1,f2,f3,f4,f5⟩:=hf it (by simp);exact wpAny_pyNext_range_end (I.ok.hd hc) st (by have:n≤i:=hg; omega) fun h' eb=>⟨rfl,I.turned (t':=s.toks) (fun b o hb e=>eb b o hb e) f0 f1 f3 f4 f5⟩
 self:=fun _ _ _ _ _ st h=>wpAny_pyIter_rangeiter st h
section
variable {X:Cx} {tg:F_}
theorem o7 {j':List (k_×Obj)} {σ:St} {H:Hp} {s:h_} {R:It→Hp→Prop} {E:g_→h_→Prop} {lo hi:Int} {t u v:Tok} {tk:Nat} (I:Inv X j' σ H s) (h1:-(2 ^ 62)≤lo) (h2:lo < 2 ^ 62) (h3:-(2 ^ 62)≤hi) (h4:hi < 2 ^ 62)
 (q:R (Itr lo (hi - lo).toNat) H):uk (z_ X.prog X.w) X.A (pyIter (.ref s.heap.objs.size)) (PIE X j' σ tg R) E { s with heap:=s.heap.push { cls:=.type "range",data:=.fields #[.int lo t,.int hi u,.int 1 v] },toks:=tk }:=by
 refine wpAny_pyIter_range (IsRange.new ..) (small_one h1 h2 h3 h4) ?_;have I1:Inv X j' σ H { s with heap:=s.heap.push { cls:=.type "range",data:=.fields #[.int lo t,.int hi u,.int 1 v] },toks:=tk }:=I.kept fun b o e=>i_ _ e;refine ⟨(s.heap.push { cls:=.type "range",data:=.fields #[.int lo t,.int hi u,.int 1 v] }).objs.size,[(s.heap.push { cls:=.type "range",data:=.fields #[.int lo t,.int hi u,.int 1 v] }).objs.size],_,_,H,rfl,
  I1.kept (t':=tk) fun b o e=>i_ _ e,p9 _ lo (hi - lo).toNat,?_,fun b hb=>?_,q⟩
 · have e1:lo + ((0:Nat):Int) * 1=lo:=by simp
   have e2:(((hi - lo).toNat:Nat):Int) - ((0:Nat):Int)=Builtin.Range.rangeSize lo hi 1:=by rw [rangeSize_one]; split <;> omega
   show IsRangeIter _ _ (lo + ((0:Nat):Int) * 1) ((((hi - lo).toNat:Nat):Int) - ((0:Nat):Int)) 1;rw [e1,e2];exact s_ _ rfl
 · have e:b=(s.heap.push { cls:=.type "range",data:=.fields #[.int lo t,.int hi u,.int 1 v] }).objs.size:=by simpa using hb
   subst e;exact I1.fpOk (r_ _) (I1.hok.fresh (r_ _))
def EV (ta:TA):TI:=fun σ H R=>ta σ H fun vs H1=>∃ j:Int,vs=[.int j]∧-(2 ^ 62)≤j∧j < 2 ^ 62∧R (Itr 0 j.toNat) H1
def EW (ta:TA):TI:=fun σ H R=>ta σ H fun vs H1=>∃ i j:Int,vs=[.int i,.int j]∧(-(2 ^ 62)≤i∧i < 2 ^ 62∧-(2 ^ 62)≤j∧j < 2 ^ 62)∧R (Itr i (j - i).toNat) H1
theorem rq {a:F_} {ta:TA} {p pos:Pos} (hg:Gl X "range") (hm:X.mg "range"=ck) (ha:PA X [a] ta) (hs:l_ [a] X.env=[(d_,eval a X.env)]:=by rfl):PI X tg (.Call (.Name "range" p) [a] [] pos) (EV ta):=by
 intro j' s σ H R I h;refine Call_ (gY I hg hm boot_range (Kc (thn (ha pos j' s σ H _ I h) fun us s1 ⟨vs,H1,I1,r1,q1⟩=>?_) hs rfl));obtain ⟨j,e,q1,q2,q⟩:=q1;subst e;cases r1 with
 | cons r rr =>
  cases rr;obtain ⟨t,rfl⟩:=r;exact call_range_1 (o7 I1 (by omega) (by omega) q1 q2 (by simpa using q))
theorem rA {a b:F_} {ta:TA} {p pos:Pos} (hg:Gl X "range") (hm:X.mg "range"=ck) (ha:PA X [a,b] ta) (hs:l_ [a,b] X.env=[(d_,eval a X.env),(d_,eval b X.env)]:=by rfl) (hs2:l_ [b] X.env=[(d_,eval b X.env)]:=by rfl) :
 PI X tg (.Call (.Name "range" p) [a,b] [] pos) (EW ta):=by
 intro j' s σ H R I h;refine Call_ (gY I hg hm boot_range (Kc (thn (ha pos j' s σ H _ I h) fun us s1 ⟨vs,H1,I1,r1,q1⟩=>?_) (by rw [hs,hs2]) (by rw [hs2]; rfl)));obtain ⟨i,j,e,⟨q1,q2,q3,q4⟩,q⟩:=q1;subst e;cases r1 with
 | cons r rr =>
  cases rr with
  | cons r' rr =>
   cases rr;obtain ⟨t,rfl⟩:=r;obtain ⟨t',rfl⟩:=r';exact call_range_2 (o7 I1 q1 q2 q3 q4 q)
def Iq (wi:TI) (g:TG) (tb:TS):TS:=fun D σ H=>wi σ H fun J H1=>∃ W:Nat→Nat→St→Hp→Prop,(∃ m,W 0 m σ H1)∧∀ i m σ H,W i m σ H →
 (J.stop i H∧D.nx σ H)∨(J.go i H∧∃ N:St→Hp→Prop,(∀ σ' H',N σ' H'→∃ m',m' < m∧W (i + 1) m' σ' H')∧∀ x H',J.yld i H x H'→g x σ H' fun σ2 H2=>tb { D with nx:=N,ct:=N,bk:=D.nx } σ2 H2)
def de (fp:List k_) (h:H_):List (k_×Obj):=fp.filterMap fun b=>(h.get? b).map fun o=>(b,o)
theorem cU {fp:List k_} {h:H_} {b:k_} {o:Obj} (hb:b∈fp) (e:h.get? b=a_ o):(b,o)∈de fp h:=NU.mpr ⟨b,hb,by rw [e]; rfl⟩
theorem jH {fp:List k_} {h:H_} {p:k_×Obj} (hp:p∈de fp h):p.1∈fp∧h.get? p.1=a_ p.2:=by
 obtain ⟨b,hb,e⟩:=NU.mp hp;cases q:h.get? b with
 | none=>rw [q] at e; cases e
 | some o =>
  rw [q] at e;have e':(b,o)=p:=Jp e;subst e';exact ⟨hb,q⟩
theorem Inv.pinned {j':List (k_×Obj)} {σ:St} {H:Hp} {s:h_} {fp:List k_} (I:Inv X j' σ H s) (hf:∀ b∈fp,ni X j' H b) (ho:∀ b∈fp,∃ o,s.heap.get? b=a_ o∧∀ v,o.data≠.cell v):Inv X (j' ++ de fp s.heap) σ H s :=
 I.pins_of fun p hp=>(Jn.mp hp).elim (fun z=>I.pin p (m_ _ z)) fun z=>by
  obtain ⟨hb,e⟩:=jH z;obtain ⟨f0,f1,f2,_⟩:=hf p.1 hb;obtain ⟨o,e',d⟩:=ho p.1 hb;rw [e] at e'; cases e';exact ⟨e,f0,f1,f2,d⟩
theorem Inv.unpinned {j' pl:List (k_×Obj)} {σ:St} {H:Hp} {s:h_} (I:Inv X (j' ++ pl) σ H s):Inv X j' σ H s:=I.pins_of fun p hp=>I.pin p (m_ _ (A_ _ hp))
theorem rB {iter:F_} {body:List Ky} {wi:TI} {g:TG} {tb:TS} {pos:Pos} (hp:ND (z_ X.prog X.w) X.A X.env X.xe) (hc:X.calm=e_) (hi:PI X tg iter wi) (hg:PG X tg g) (hb:PSs X body tb)
 (hs:∀ x,JF iter X.env x=pure x:=by intro _; rfl):PS X (.For tg iter body [] pos) (Iq wi g tb):=by
 intro j' s σ H D I h;refine wpAny_For (thn (hi j' s σ H _ I h) fun v s1 h1=>thn h1 fun itv s2 h2=>?_) hs;obtain ⟨it,fp,tn,J,H2,e,I2,T,st2,f2,W,⟨m0,w0⟩,turn⟩:=h2;subst e;have stat:∀ {H':Hp},(∀ b∈fp,H' b=ck)→∀ b∈fp,ni X j' H' b:=fun hn b hb=>⟨hn b hb,(f2 b hb).2⟩;refine codeAny_forLoop_any (fun n s'=>∃ i σ' H',Inv X j' σ' H' s'∧tn i s'.heap∧(∀ b∈fp,H' b=ck)∧W i n σ' H') ?_ m0 ⟨0,σ,H2,I2,st2,fun b hb=>(f2 b hb).1,w0⟩;rintro n s3 ⟨i,σ3,H3,I3,st3,fr3,w3⟩;rcases turn i n σ3 H3 w3 with ⟨stop,qn⟩ | ⟨go,N,hN,step⟩
 · refine Ms hp (thn (T.done X rfl rfl rfl hc i j' s3 σ3 H3 X.xe I3 (stat fr3) st3 stop) fun r s4 ⟨hr,I4⟩=>?_);subst hr;exact Ni ⟨σ3,H3,I4,qn⟩
 · refine Ms hp (thn (T.item X rfl rfl rfl hc i j' s3 σ3 H3 X.xe I3 (stat fr3) st3 go) fun r s4 ⟨u,hr,h4⟩=>?_);subst hr;refine Ms hp (thn h4 fun _ s5 ⟨x,H5,I5,r5,y5,st5,fr5⟩=>?_);have I5':=I5.pinned (stat fr5) (T.obj _ _ st5);refine Ms hp (thn (hg _ s5 σ3 H5 x u _ I5' r5 (step x H5 y5)) fun _ s6 ⟨σ6,H6,I6,q6⟩=>?_);refine Ms hp (thn (hb _ s6 σ6 H6 _ I6 q6) fun f s7 q7=>?_);have Rm:∀ {σ7:St} {H7:Hp},Inv X (j' ++ de fp s5.heap) σ7 H7 s7→N σ7 H7→∃ m,m < n∧∃ i σ' H',Inv X j' σ' H' s7∧tn i s7.heap∧(∀ b∈fp,H' b=ck)∧W i m σ' H':=fun {σ7 H7} I7 n7=>by
    obtain ⟨m',hm,w7⟩:=hN σ7 H7 n7;refine ⟨m',hm,i + 1,σ7,H7,I7.unpinned,T.keep _ _ _ st5 fun b hb o e=>(I7.pin (b,o) (m_ _ (m_ _ (cU hb e)))).1,fun b hb=>?_,w7⟩;obtain ⟨o,e,d⟩:=T.obj _ _ st5 b hb;exact (I7.pin (b,o) (m_ _ (m_ _ (cU hb e)))).2.1
   cases f with
   | next=>obtain ⟨σ7,H7,I7,n7⟩:=q7; exact Rm I7 n7
   | cont=>obtain ⟨σ7,H7,I7,n7⟩:=q7; exact Rm I7 n7
   | brk=>obtain ⟨σ7,H7,I7,q7⟩:=q7; exact ⟨σ7,H7,I7.unpinned,q7⟩
   | ret v=>obtain ⟨x7,σ7,H7,I7,r7,q7⟩:=q7; exact ⟨x7,σ7,H7,I7.unpinned,r7,q7⟩
end
abbrev R2:=V→V→Hp→VK→Prop
def OpR (X:Cx) (f:g_→g_→Sem g_) (r:R2):Prop :=
 ∀ (j':List (k_×Obj)) (s:h_) (σ:St) (H:Hp) (x y:V) (v u:g_) (Q:VK),Inv X j' σ H s→RelV x v→RelV y u→r x y H Q →
  uk (z_ X.prog X.w) X.A (f v u) (EP X j' σ Q) X.xe s
def UnR (X:Cx) (f:g_→Sem g_) (r:V→Hp→VK→Prop):Prop :=
 ∀ (j':List (k_×Obj)) (s:h_) (σ:St) (H:Hp) (x:V) (v:g_) (Q:VK),Inv X j' σ H s→RelV x v→r x H Q →
  uk (z_ X.prog X.w) X.A (f v) (EP X j' σ Q) X.xe s
def CallR (X:Cx) (f:g_) (r:List V→Hp→VK→Prop):Prop :=
 ∀ (j':List (k_×Obj)) (s:h_) (σ:St) (H:Hp) (xs:List V) (us:List g_) (Q:VK),Inv X j' σ H s→Vals xs us→r xs H Q →
  uk (z_ X.prog X.w) X.A (call f us) (EP X j' σ Q) X.xe s
def tOp (r:R2) (ta tb:TE):TE:=fun σ H Q=>ta σ H fun x H1=>tb σ H1 fun y H2=>r x y H2 Q
def tUn (r:V→Hp→VK→Prop) (ta:TE):TE:=fun σ H Q=>ta σ H fun x H1=>r x H1 Q
def rI (C:Int→Int→Prop) (g:Int→Int→V):R2:=fun x y H Q=>∃ i j,x=.int i∧y=.int j∧C i j∧Q (g i j) H
def rI0 (g:Int→Int→V):R2:=fun x y H Q=>∃ i j,x=.int i∧y=.int j∧Q (g i j) H
def rU (g:Int→V):V→Hp→VK→Prop:=fun x H Q=>∃ i,x=.int i∧Q (g i) H
section
variable {X:Cx} {a b c:F_} {ta tb tc:TE} {pos:Pos}
theorem EY (ha:PE X a ta) (hb:PE X b tb) {j':List (k_×Obj)} {s:h_} {σ:St} {H:Hp} {R:V→V→Hp→Prop} (I:Inv X j' σ H s)
 (h:ta σ H fun x H1=>tb σ H1 fun y H2=>R x y H2) {Q:g_→h_→Prop} {f:g_→g_→Sem g_}
 (hf:∀ v u s2 x y H2,Inv X j' σ H2 s2→RelV x v→RelV y u→R x y H2→uk (z_ X.prog X.w) X.A (f v u) Q X.xe s2) :
 uk (z_ X.prog X.w) X.A (eval a X.env) (fun v s₁=>uk (z_ X.prog X.w) X.A (eval b X.env) (fun u s₂=>uk (z_ X.prog X.w) X.A (f v u) Q X.xe s₂) X.xe s₁) X.xe s:=by
 refine thn (ha j' s σ H _ I h) fun v s1 ⟨x,H1,I1,r1,q1⟩=>?_;refine thn (hb j' s1 σ H1 _ I1 q1) fun u s2 ⟨y,H2,I2,r2,q2⟩=>?_;exact hf v u s2 x y H2 I2 r1 r2 q2
theorem EZ {op:Operator} {r:R2} (ho:OpR X (Lg op) r) (ha:PE X a ta) (hb:PE X b tb):PE X (.BinOp a op b pos) (tOp r ta tb):=by
 intro j' s σ H Q I h;exact wpAny_BinOp (EY ha hb I h fun v u s2 x y H2 I2 rx ry q=>ho j' s2 σ H2 x y v u Q I2 rx ry q)
theorem Fa {op:UnaryOp} {r:V→Hp→VK→Prop} (ho:UnR X (unaryOp op) r) (ha:PE X a ta):PE X (.UnaryOp op a pos) (tUn r ta):=by
 intro j' s σ H Q I h;exact UnaryOp_ (thn (ha j' s σ H _ I h) fun v s1 ⟨x,H1,I1,r1,q1⟩=>ho j' s1 σ H1 x v Q I1 r1 q1)
theorem opI {f:g_→g_→Sem g_} {C:Int→Int→Prop} {g:Int→Int→Int}
 (rule:∀ (i j:Int) (t u:Tok) (s:h_) (Q:g_→h_→Prop) (E:g_→h_→Prop),C i j→Q (.int (g i j) s.toks) { s with toks:=s.toks + 1 }→uk (z_ X.prog X.w) X.A (f (.int i t) (.int j u)) Q E s) :
 OpR X f (rI C fun i j=>.int (g i j)):=by
 intro j' s σ H x y v u Q I rx ry h;obtain ⟨i,j,rfl,rfl,hc,q⟩:=h;obtain ⟨t,rfl⟩:=rx;obtain ⟨t',rfl⟩:=ry;exact rule i j t t' s _ _ hc ⟨.int (g i j),H,I.tok _,⟨_,rfl⟩,q⟩
theorem Hq {f:g_→g_→Sem g_} {g:Int→Int→Int}
 (rule:∀ (i j:Int) (t u:Tok) (s:h_) (Q:g_→h_→Prop) (E:g_→h_→Prop),Q (.int (g i j) s.toks) { s with toks:=s.toks + 1 }→uk (z_ X.prog X.w) X.A (f (.int i t) (.int j u)) Q E s) :
 OpR X f (rI0 fun i j=>.int (g i j)):=by
 intro j' s σ H x y v u Q I rx ry h;obtain ⟨i,j,rfl,rfl,q⟩:=h;obtain ⟨t,rfl⟩:=rx;obtain ⟨t',rfl⟩:=ry;exact rule i j t t' s _ _ ⟨.int (g i j),H,I.tok _,⟨_,rfl⟩,q⟩
theorem Fb {f:g_→g_→Sem g_} {g:Int→Int→Bool}
 (rule:∀ (i j:Int) (t u:Tok) (s:h_) (Q:g_→h_→Prop) (E:g_→h_→Prop),Q (.bool (g i j)) s→uk (z_ X.prog X.w) X.A (f (.int i t) (.int j u)) Q E s) :
 OpR X f (rI0 fun i j=>.bl (g i j)):=by
 intro j' s σ H x y v u Q I rx ry h;obtain ⟨i,j,rfl,rfl,q⟩:=h;obtain ⟨t,rfl⟩:=rx;obtain ⟨t',rfl⟩:=ry;exact rule i j t t' s _ _ ⟨.bl (g i j),H,I,rfl,q⟩
def Hr (i j:Int):Prop:=0 < j∧j < 1073741824
def CMul (i j:Int):Prop:=(-(2 ^ 64) < i∧i < 2 ^ 64)∨(-(2 ^ 64) < j∧j < 2 ^ 64)
theorem CMul.ok {i j:Int} (h:CMul i j):IntMulOk i j:=by
 rcases h with ⟨h1,h2⟩ | ⟨h1,h2⟩
 · exact .of_left (intBits_le_64 h1 h2)
 · exact .of_right (intBits_le_64 h1 h2)
theorem op_add:OpR X (Lg .Add) (rI0 fun i j=>.int (i + j)):=Hq fun _ _ _ _ _ _ _ q=>add_int q
theorem AU:OpR X (Lg .Sub) (rI0 fun i j=>.int (i - j)):=Hq fun _ _ _ _ _ _ _ q=>sub_int q
theorem AV:OpR X (Lg .Mult) (rI CMul fun i j=>.int (i * j)):=opI fun _ _ _ _ _ _ _ hc q=>mul_int q hc.ok
theorem xZ:OpR X (Lg .FloorDiv) (rI Hr fun i j=>.int (i / j)):=opI fun i j _ _ _ _ _ hc q=>by
 have h1:(0:Int) < j:=hc.1;have h2:j < 1073741824:=hc.2;exact floordiv_int (by omega) (by rw [Int.fdiv_eq_ediv_of_nonneg i (by omega)]; exact q) (.inl (PyProof.noPylong_small (by omega)))
theorem AX:OpR X (Lg .Mod) (rI (fun _ j=>0 < j) fun i j=>.int (i % j)):=opI fun i j _ _ _ _ _ hc q=>by
 have h1:(0:Int) < j:=hc;exact mod_int' (by omega) (by rw [Int.fmod_eq_emod_of_nonneg i (by omega)]; exact q)
theorem unI {f:g_→Sem g_} {g:Int→Int}
 (rule:∀ (i:Int) (t:Tok) (s:h_) (Q:g_→h_→Prop) (E:g_→h_→Prop),Q (.int (g i) s.toks) { s with toks:=s.toks + 1 }→uk (z_ X.prog X.w) X.A (f (.int i t)) Q E s) :
 UnR X f (rU fun i=>.int (g i)):=by
 intro j' s σ H x v Q I rx h;obtain ⟨i,rfl,q⟩:=h;obtain ⟨t,rfl⟩:=rx;exact rule i t s _ _ ⟨.int (g i),H,I.tok _,⟨_,rfl⟩,q⟩
theorem AY:UnR X (unaryOp .USub) (rU fun i=>.int (-i)):=unI fun _ _ _ _ _ q=>neg_int q
end
def Fc:V→V→Bool
 | .non,.non=>e_ | .non,.int _=>e_ | .int _,.non=>e_ | .non,.bl _=>e_ | .bl _,.non=>e_ | .non,.str _=>e_ | .str _,.non=>e_
 | .int _,.int _=>e_ | .bl _,.bl _=>e_ | .str _,.str _=>e_ | .byt _,.byt _=>e_
 | .int _,.str _=>e_ | .str _,.int _=>e_ | .bl _,.str _=>e_ | .str _,.bl _=>e_
 | _,_=>d_
def rEq:R2:=fun x y H Q=>Fc x y=e_∧Q (.bl (u_ (x=y))) H
def rNe:R2:=fun x y H Q=>Fc x y=e_∧Q (.bl (!u_ (x=y))) H
theorem nj {i j:Int}:u_ (V.int i=V.int j)=(i == j):=by
 rw [JX];simp
theorem rD {i j:Bool}:u_ (V.bl i=V.bl j)=(i == j):=by
 rw [JX];simp
theorem nq {i j:Str}:u_ (V.str i=V.str j)=(i == j):=by
 rw [JX];simp
theorem rE {i j:Array UInt8}:u_ (V.byt i=V.byt j)=(i.toList == j.toList):=by
 rw [JX];cases i;cases j;simp
section
variable {X:Cx} {a b c:F_} {ta tb tc:TE} {pos:Pos}
theorem bu {j':List (k_×Obj)} {σ:St} {H:Hp} {s:h_} {Q:VK} {k k':Bool} (I:Inv X j' σ H s) (q:Q (.bl k) H) (e:k=k'):EP X j' σ Q (.bool k') s:=by
 subst e;exact ⟨.bl k,H,I,rfl,q⟩
theorem op_eq:OpR X (JL .Eq) rEq:=by
 intro j' s σ H x y v u Q I rx ry h;obtain ⟨hs,q⟩:=h;cases x with
 | non =>
  cases rx;cases y with
  | non=>cases ry; exact PySem.EqNone.eq_none_none (bu I q (by simp))
  | bl j=>cases ry; exact PySem.EqNone.eq_none_bool (bu I q (by simp))
  | int j=>obtain ⟨t',rfl⟩:=ry; exact PySem.EqNone.eq_none_int (bu I q (by simp))
  | str j=>obtain ⟨t',rfl⟩:=ry; exact PySem.EqNone.eq_none_str (bu I q (by simp))
  | _=>exact absurd (show d_=e_ from hs) xy
 | bl i =>
  cases rx;cases y with
  | non=>cases ry; exact PySem.EqNone.eq_bool_none (bu I q (by simp))
  | bl j=>cases ry; exact eq_bool (bu I q rD)
  | str j=>obtain ⟨t',rfl⟩:=ry; exact PySem.EqMixed.eq_bool_str (bu I q (by simp))
  | _=>exact absurd (show d_=e_ from hs) xy
 | int i =>
  obtain ⟨t,rfl⟩:=rx;cases y with
  | non=>cases ry; exact PySem.EqNone.eq_int_none (bu I q (by simp))
  | int j=>obtain ⟨t',rfl⟩:=ry; exact eq_int (bu I q nj)
  | str j=>obtain ⟨t',rfl⟩:=ry; exact PySem.EqMixed.eq_int_str (bu I q (by simp))
  | _=>exact absurd (show d_=e_ from hs) xy
 | str i =>
  obtain ⟨t,rfl⟩:=rx;cases y with
  | non=>cases ry; exact PySem.EqNone.eq_str_none (bu I q (by simp))
  | bl j=>cases ry; exact PySem.EqMixed.eq_str_bool (bu I q (by simp))
  | int j=>obtain ⟨t',rfl⟩:=ry; exact PySem.EqMixed.eq_str_int (bu I q (by simp))
  | str j=>obtain ⟨t',rfl⟩:=ry; exact eq_str (bu I q nq)
  | _=>exact absurd (show d_=e_ from hs) xy
 | byt i =>
  obtain ⟨t,rfl⟩:=rx;cases y with
  | byt j=>obtain ⟨t',rfl⟩:=ry; exact PySem.W.eq_bytes (bu I q rE)
  | _=>exact absurd (show d_=e_ from hs) xy
 | _=>cases y <;> exact absurd (show d_=e_ from hs) xy
theorem op_ne:OpR X (JL .NotEq) rNe:=by
 intro j' s σ H x y v u Q I rx ry h;obtain ⟨hs,q⟩:=h;cases x with
 | non =>
  cases rx;cases y with
  | non=>cases ry; exact PySem.EqNone.ne_none_none (bu I q (by simp))
  | bl j=>cases ry; exact PySem.EqNone.ne_none_bool (bu I q (by simp))
  | int j=>obtain ⟨t',rfl⟩:=ry; exact PySem.EqNone.ne_none_int (bu I q (by simp))
  | str j=>obtain ⟨t',rfl⟩:=ry; exact PySem.EqNone.ne_none_str (bu I q (by simp))
  | _=>exact absurd (show d_=e_ from hs) xy
 | bl i =>
  cases rx;cases y with
  | non=>cases ry; exact PySem.EqNone.ne_bool_none (bu I q (by simp))
  | bl j=>cases ry; exact ne_bool (bu I q (congrArg not rD))
  | str j=>obtain ⟨t',rfl⟩:=ry; exact PySem.EqMixed.ne_bool_str (bu I q (by simp))
  | _=>exact absurd (show d_=e_ from hs) xy
 | int i =>
  obtain ⟨t,rfl⟩:=rx;cases y with
  | non=>cases ry; exact PySem.EqNone.ne_int_none (bu I q (by simp))
  | int j=>obtain ⟨t',rfl⟩:=ry; exact ne_int (bu I q (congrArg not nj))
  | str j=>obtain ⟨t',rfl⟩:=ry; exact PySem.EqMixed.ne_int_str (bu I q (by simp))
  | _=>exact absurd (show d_=e_ from hs) xy
 | str i =>
  obtain ⟨t,rfl⟩:=rx;cases y with
  | non=>cases ry; exact PySem.EqNone.ne_str_none (bu I q (by simp))
  | bl j=>cases ry; exact PySem.EqMixed.ne_str_bool (bu I q (by simp))
  | int j=>obtain ⟨t',rfl⟩:=ry; exact PySem.EqMixed.ne_str_int (bu I q (by simp))
  | str j=>obtain ⟨t',rfl⟩:=ry; exact ne_str (bu I q (congrArg not nq))
  | _=>exact absurd (show d_=e_ from hs) xy
 | byt i =>
  obtain ⟨t,rfl⟩:=rx;cases y with
  | byt j=>obtain ⟨t',rfl⟩:=ry; exact PySem.W.ne_bytes (bu I q (congrArg not rE))
  | _=>exact absurd (show d_=e_ from hs) xy
 | _=>cases y <;> exact absurd (show d_=e_ from hs) xy
theorem op_lt:OpR X (JL .Lt) (rI0 fun i j=>.bl (u_ (i < j))):=Fb fun _ _ _ _ _ _ _ q=>lt_int q
theorem op_le:OpR X (JL .LtE) (rI0 fun i j=>.bl (u_ (i≤j))):=Fb fun _ _ _ _ _ _ _ q=>le_int q
theorem AZ:OpR X (JL .Gt) (rI0 fun i j=>.bl (u_ (j < i))):=Fb fun _ _ _ _ _ _ _ q=>gt_int q
theorem rF:OpR X (JL .Lt) (fun x y H Q=>∃ i j,x=.str i∧y=.str j∧Q (.bl (u_ (i.cps.toList < j.cps.toList))) H):=by
 intro j' s σ H x y v u Q I rx ry h;obtain ⟨i,j,rfl,rfl,q⟩:=h;obtain ⟨t,rfl⟩:=rx;obtain ⟨t',rfl⟩:=ry;exact lt_str (bu I q rfl)
theorem op_in_str:OpR X (JL .In) (fun x y H Q=>∃ i j,x=.str i∧y=.str j∧Q (.bl (!(Jx j i 0 j.length 1).isEmpty)) H):=by
 intro j' s σ H x y v u Q I rx ry h;obtain ⟨i,j,rfl,rfl,q⟩:=h;obtain ⟨t,rfl⟩:=rx;obtain ⟨t',rfl⟩:=ry;exact in_str (bu I q rfl)
theorem wV:OpR X (JL .Is) (fun x y H Q=>y=.non∧Q (.bl (u_ (x=.non))) H):=by
 intro j' s σ H x y v u Q I rx ry h;obtain ⟨rfl,q⟩:=h;cases ry;refine is_none_gen (bu I q ?_);cases x <;> first
  | (cases rx; rfl)
  | (obtain ⟨t,rfl⟩:=rx; rfl)
theorem rG:OpR X (JL .IsNot) (fun x y H Q=>y=.non∧Q (.bl (!u_ (x=.non))) H):=by
 intro j' s σ H x y v u Q I rx ry h;obtain ⟨rfl,q⟩:=h;cases ry;refine isnot_none_gen (bu I q ?_);cases x <;> first
  | (cases rx; rfl)
  | (obtain ⟨t,rfl⟩:=rx; rfl)
theorem OpR.or {f:g_→g_→Sem g_} {r r':R2} (h:OpR X f r) (h':OpR X f r'):OpR X f (fun x y H Q=>r x y H Q∨r' x y H Q):=by
 intro j' s σ H x y v u Q I rx ry q;rcases q with q | q
 · exact h j' s σ H x y v u Q I rx ry q
 · exact h' j' s σ H x y v u Q I rx ry q
theorem Hs (b:F_) {op:CmpOp} (h:op≠.In:=by decide) (h2:op≠.NotIn:=by decide):Jt op b=d_:=by
 have e1:(op == CmpOp.In)=d_:=by cases op <;> first | rfl | exact absurd rfl h
 have e2:(op == CmpOp.NotIn)=d_:=by cases op <;> first | rfl | exact absurd rfl h2
 cases b <;> simp [Jt,e1,e2]
theorem ya {op:CmpOp} {r:R2} (ho:OpR X (JL op) r) (ha:PE X a ta) (hb:PE X b tb) (hm:Jt op b=d_):PE X (.Compare a [op] [b] pos) (tOp r ta tb):=by
 intro j' s σ H Q I h;exact wpAny_Compare1 (EY ha hb I h fun v u s2 x y H2 I2 rx ry q=>ho j' s2 σ H2 x y v u Q I2 rx ry q) hm
def Fd (t:TE):TT:=fun σ H Q=>t σ H fun x H'=>∃ k,x=.bl k∧Q k H'
theorem yb {op:CmpOp} {r:R2} (ho:OpR X (JL op) r) (ha:PE X a ta) (hb:PE X b tb) (hm:Jt op b=d_):PT X (.Compare a [op] [b] pos) (Fd (tOp r ta tb)):=by
 intro j' s σ H Q I h;refine wpAny_isTrue_Compare1 (thn (ha j' s σ H _ I h) fun v s1 ⟨x,H1,I1,r1,q1⟩=>thn (hb j' s1 σ H1 _ I1 q1) fun u s2 ⟨y,H2,I2,r2,q2⟩ =>
  thn (ho j' s2 σ H2 x y v u _ I2 r1 r2 q2) fun c s3 ⟨z,H3,I3,r3,k,e,q3⟩=>?_) hm
 subst e;cases r3;exact KT ⟨H3,I3,q3⟩
theorem lP:(sizeLine:Nat) < 2 ^ 63:=by rw [MD]; decide
theorem op_add_str:OpR X (Lg .Add) (fun x y H Q=>∃ i j,x=.str i∧y=.str j∧i.length + j.length≤sizeLine∧Q (.str (i ++ j)) H):=by
 intro j' s σ H x y v u Q I rx ry h;obtain ⟨i,j,rfl,rfl,hz,q⟩:=h;obtain ⟨t,rfl⟩:=rx;obtain ⟨t',rfl⟩:=ry;exact add_str (fun t' tk=>⟨.str (i ++ j),H,I.tok _,⟨_,rfl⟩,q⟩) hz
theorem fg {x:V} {us:List g_} (r:Vals [x] us):∃ u,us=[u]∧RelV x u:=by
 cases r with
 | cons r1 r2=>cases r2; exact ⟨_,rfl,r1⟩
theorem A0 {x y:V} {us:List g_} (r:Vals [x,y] us):∃ u w',us=[u,w']∧RelV x u∧RelV y w':=by
 cases r with
 | cons r1 r2 =>
  cases r2 with
  | cons r3 r4=>cases r4; exact ⟨_,_,rfl,r1,r3⟩
theorem rH (hc:X.calm=e_):CallR X (.builtin "min") (fun xs H Q=>∃ i j,xs=[.int i,.int j]∧Q (.int (if j < i then j else i)) H):=by
 intro j' s σ H xs us Q I r h;obtain ⟨i,j,rfl,q⟩:=h;obtain ⟨u,w',rfl,⟨t,rfl⟩,⟨t',rfl⟩⟩:=A0 r;refine min_two_ints (I.ok.hd hc) fun h' tk k=>⟨_,H,I.kept k,?_,q⟩;by_cases hj:j < i
 · rw [if_pos hj,if_pos hj]; exact ⟨_,rfl⟩
 · rw [if_neg hj,if_neg hj]; exact ⟨_,rfl⟩
def Ir (K:f_) (x:V) (H:Hp) (n:Nat):Prop :=
 match x with
 | .str y=>y.length≤sizeLine∧n=y.length
 | .byt y=>y.size≤sizeLine∧n=y.size
 | .ref p=>(∃ xs,SqL K H p xs∧n=xs.length)∨∃ xs,SqT K H p xs∧n=xs.length
 | _=>False
theorem vb:CallR X (.builtin "len") (fun xs H Q=>∃ x n,xs=[x]∧Ir X.K x H n∧Q (.int n) H):=by
 intro j' s σ H xs us Q I r h;obtain ⟨x,n,rfl,e,q⟩:=h;obtain ⟨u,rfl,rx⟩:=fg r;have hl:=lP;have hs:sizeLine=16777216:=MD;cases x with
 | str y =>
  obtain ⟨t,rfl⟩:=rx;obtain ⟨hy,e'⟩:y.length≤sizeLine∧n=y.length:=e;subst e';exact len_str (by omega) ⟨.int _,H,I.tok _,⟨_,rfl⟩,q⟩
 | byt y =>
  obtain ⟨t,rfl⟩:=rx;obtain ⟨hy,e'⟩:y.size≤sizeLine∧n=y.size:=e;subst e';exact PySem.W.len_bytes (by omega) ⟨.int _,H,I.tok _,⟨_,rfl⟩,q⟩
 | ref p =>
  cases rx;have e':(∃ xs,SqL X.K H p xs∧n=xs.length)∨∃ xs,SqT X.K H p xs∧n=xs.length:=e;rcases e' with ⟨xs,hx,e'⟩ | ⟨xs,hx,e'⟩
  · subst e';obtain ⟨its,r',pl,hz⟩:=I.list hx;have hlen:=r'.length;exact Calls.call_len_list pl.isList (by simp only [E_]; omega) ⟨.int xs.length,H,I.tok _,⟨_,by simp only [E_]; rw [hlen]⟩,q⟩
  · subst e';obtain ⟨its,r',pl,hz⟩:=I.tuple hx;have hlen:=r'.length;exact len_tuple pl (by simp only [E_]; omega) ⟨.int xs.length,H,I.tok _,⟨_,by simp only [E_]; rw [hlen]⟩,q⟩
 | _=>exact (show False from e).elim
end
structure ObjM (h:H_) (x dx C:k_) (mA:Str→Option g_):Prop where
 obj:h.get? x=a_ (Ld C dx)
 ns:h.Ns1 dx mA
 ne:dx≠x
theorem rJ {h:H_} {dx:k_} {mA:Str→Option g_} (n:h.Ns1 dx mA):∃ od,h.get? dx=a_ od∧∀ name,O3 name od=a_ (mA name):=by
 obtain ⟨o,es,ep,ho,hd,hk,_,hm⟩:=n;refine ⟨o,ho,fun name=>?_⟩;have e:=hm name;unfold nsFind findBy at e;rw [← Array.find?_toList] at e;unfold O3;rw [hd];dsimp only;split
 · rename_i y q;rw [q] at e;exact congrArg a_ e
 · rename_i q;rw [q] at e;have a:es.toList.any (·.refKey)=d_:=by
    rw [Ql];intro y hy;obtain ⟨z,t,hkey⟩:=hk y (Kg.mp hy);simp [DictEntry.refKey,hkey]
   have a':¬ es.toList.any (·.refKey)=e_:=by rw [a]; exact xy
   rw [if_neg a'];exact congrArg a_ e
theorem ObjM.look {h:H_} {x dx C:k_} {mA:Str→Option g_} (I:ObjM h x dx C mA):∃ od,PySem.W.InstAt h x (Ld C dx) C (a_ od)∧∀ name,O3 name od=a_ (mA name) :=
 let ⟨od,ho,hl⟩:=rJ I.ns
 ⟨od,⟨I.obj,rfl,rfl,ho⟩,hl⟩
section
variable {prog:rl} {w:C_} {A:D_} {E:g_→h_→Prop} {s:h_} {K:f_} {x dx C f:k_} {mA:Str→Option g_} {name:Str} {v:g_}
end
section
variable {P:rl} {w:C_} {H H':Hp} {h h':H_} {a C dx:k_} {fs fs':List (Str×V)}
theorem yc (hok:HOk P w H h) (e:H a=a_ (.ins C dx fs)):∃ mA,ObjM h a dx C mA∧(∀ f,EI (fs.lookup f) (mA f))∧PySem.Within mA (fs.map (·.1))∧fs.length≤1000∧H dx=a_ (.own a):=by
 obtain ⟨d,z,ne,ob,mA,n,r,q⟩:=(show ObjOk P w H h a (.ins C dx fs) from hok a _ e);exact ⟨mA,⟨ob,n,ne⟩,r,q,z,d⟩
end
structure Cls (K:f_) (C:k_):Prop where
 pg:Qs K C Str.empty=e_
 hd:PySem.W.hasDictIn K C=e_
 po:PySem.W.plainOver K C=e_
 sa:MN K (.ref C) "__setattr__"=a_ (a_ (.builtin "object.__setattr__"))
theorem Cls.get {K:f_} {C:k_} (c:Cls K C) (f:Str):Qs K C f=e_:=c.pg
structure Con (K:f_) (C:k_) (f:Str) (v:V) (u:g_):Prop where
 at_:MN K (.ref C) f=a_ (a_ u)
 rel:RelV v u
 get:Qc K u "__get__"=a_ ck
 cp:PySem.W.copiedNames.contains f=d_
structure Jg (K:f_) (C:k_) (m:Str) (f:k_):Prop where
 at_:MN K (.ref C) m=a_ (a_ (.ref f))
 fn:Rq K (.ref f)=e_
 kp:Ka K (.ref f)=e_
section
variable {X:Cx} {j':List (k_×Obj)} {σ:St} {H:Hp} {s:h_} {a C dx:k_} {fs:List (Str×V)} {f:Str} {v:V} {A:D_} {E:g_→h_→Prop}
theorem Inv.made (I:Inv X j' σ H s):Inv X j' σ (upd (upd H s.heap.objs.size (.own (s.heap.objs.size + 1))) (s.heap.objs.size + 1) (.ins C s.heap.objs.size []))
 { s with heap:=(s.heap.push Kx).push (Ld C s.heap.objs.size) }:=by
 have e1:(s.heap.push Kx).get? s.heap.objs.size=a_ Kx:=s_ s.heap rfl;have e2:((s.heap.push Kx).push (Ld C s.heap.objs.size)).get? (s.heap.objs.size + 1)=a_ (Ld C s.heap.objs.size):=by
  have:=s_ (s.heap.push Kx) (o:=Ld C s.heap.objs.size) rfl
  rwa [JE] at this
 have e3:(s.heap.push Kx).Ns s.heap.objs.size (fun _=>ck):=⟨Kx,#[],_,e1,rfl,(fun e he=>absurd he (by simp)),fun _=>rfl⟩;have I1:=I.laid (a:=s.heap.objs.size) (o:=.own (s.heap.objs.size + 1)) (h':=s.heap.push Kx) (t':=s.toks) (fun b u q=>i_ _ q) (r_ _) ⟨_,e1⟩;refine I1.laid (a:=s.heap.objs.size + 1) (o:=.ins C s.heap.objs.size []) (t':=s.toks) (fun b u q=>i_ _ q) (MW (JE _ _)) ?_;have ne:s.heap.objs.size≠s.heap.objs.size + 1:=I_ (M9 _);refine ⟨by rw [av ne,ax],JA _,ne,e2,fun _=>ck,(Heap.Ns1.of_empty e3).at fun o q=>i_ _ q,fun _=>NF,fun y hy=>absurd rfl hy⟩
end
section
variable {X:Cx} {o e value:F_} {f:Str} {pos pos' tpos:Pos} {ta tv:TE}
end
section
variable {X:Cx} {j':List (k_×Obj)} {σ:St} {H:Hp} {s:h_} {A:D_} {E:g_→h_→Prop} {Q:g_→h_→Prop} {c:g_} {b:Bool}
inductive o8 (K:f_) (H:Hp):V→g_→Prop where
 | non:o8 K H .non (.type "NoneType")
 | bl (x:Bool):o8 K H (.bl x) (.type "bool")
 | int (i:Int):o8 K H (.int i) (.type "int")
 | str (x:Str):o8 K H (.str x) (.type "str")
 | flt (x:UInt64):o8 K H (.flt x) (.type "float")
 | lst {a:k_} {xs:List V} (e:H a=a_ (.lst xs)):o8 K H (.ref a) (.type "list")
 | frz {a:k_} {o:Obj} {xs:List V} (e:H a=a_ (.frz o (.lst xs))):o8 K H (.ref a) (.type "list")
 | tup {a:k_} {xs:List V} (e:H a=a_ (.tup xs)):o8 K H (.ref a) (.type "tuple")
 | dK {a:k_} {kvs:List (Key×V)} (e:H a=a_ (.dK kvs)):o8 K H (.ref a) (.type "dict")
 | dT {a:k_} {kvs:List (List Key×V)} (e:H a=a_ (.dT kvs)):o8 K H (.ref a) (.type "dict")
 | ins {a C dx:k_} {fs:List (Str×V)} (e:H a=a_ (.ins C dx fs)) (cl:Cls K C) (ha:MN K (.ref C) "__class__"=a_ (a_ (.builtin "object.__class__")))
  (hn:Qc K (.builtin "object.__class__") "__get__"=a_ (a_ (.builtin "getset_descriptor.__get__"))) (htk:PySem.W.takesIn K (.builtin "object.__class__")=a_ e_)
  (hm:PySem.W.mroIn K C (.type "object")=a_ e_):o8 K H (.ref a) (.ref C)
theorem rK {x:V} {u t:g_} (I:Inv X j' σ H s) (rx:RelV x u) (ty:o8 X.K H x t) (e:Lw X.K t c=a_ b) (h:∀ tk,Q (.bool b) { s with toks:=tk }) :
 uk (z_ X.prog X.w) A (call (.builtin "isinstance") [u,c]) Q E s:=by
 cases ty with
 | non=>cases (show u=Js from rx); exact Kh PySem.W.kitx_none I.kIn NF e (fun z=>nomatch z) h
 | bl y=>cases (show u=JO y from rx); exact Kh PySem.W.kitx_bool I.kIn NF e (fun z=>nomatch z) h
 | int i=>obtain ⟨t,q⟩:=(show ∃ t,u=Qt i t from rx); cases q; exact Kh PySem.W.kitx_int I.kIn NF e (fun z=>nomatch z) h
 | str y=>obtain ⟨t,q⟩:=(show ∃ t,u=Md y t from rx); cases q; exact Kh PySem.W.kitx_str I.kIn NF e (fun z=>nomatch z) h
 | flt y=>obtain ⟨t,q⟩:=(show ∃ t,u=Value.float y t from rx); cases q; exact Kh PySem.W.kitx_float I.kIn NF e (fun z=>nomatch z) h
 | @lst a xs ea =>
  cases (show u=q_ a from rx);obtain ⟨_,_,n,_,h1⟩:=(show ObjOk X.prog X.w H s.heap a (.lst xs) from I.hok a _ ea);exact Kh Qd I.kIn ⟨_,h1,rfl⟩ e (fun z=>nomatch z) h
 | @frz a ob xs ea =>
  cases (show u=q_ a from rx);obtain ⟨_,_,_,n,_,h1⟩:=(show ObjOk X.prog X.w H s.heap a (.frz ob (.lst xs)) from I.hok a _ ea);exact Kh Qd I.kIn ⟨_,h1,rfl⟩ e (fun z=>nomatch z) h
 | @tup a xs ea =>
  cases (show u=q_ a from rx);obtain ⟨_,_,_,p⟩:=(show ObjOk X.prog X.w H s.heap a (.tup xs) from I.hok a _ ea);obtain ⟨o,h1,h2,_⟩:=p;exact Kh PySem.W.kitx_tuple I.kIn ⟨o,h1,h2⟩ e (fun z=>nomatch z) h
 | @dK a kvs ea =>
  cases (show u=q_ a from rx);obtain ⟨_,_,vs,_,p⟩:=(show ObjOk X.prog X.w H s.heap a (.dK kvs) from I.hok a _ ea);obtain ⟨o,es,ep,h1,h2,_⟩:=p;exact Kh Qe I.kIn ⟨o,h1,h2.1⟩ e (fun z=>nomatch z) h
 | @dT a kvs ea =>
  cases (show u=q_ a from rx);obtain ⟨_,_,xs,_,o,es,ep,h1,h2,_⟩:=(show ObjOk X.prog X.w H s.heap a (.dT kvs) from I.hok a _ ea);exact Kh Qe I.kIn ⟨o,h1,h2.1⟩ e (fun z=>nomatch z) h
 | @ins a C dx fs ea cl ha hn htk hm =>
  cases (show u=q_ a from rx);obtain ⟨mA,O,_⟩:=yc I.hok ea;obtain ⟨od,J,_⟩:=O.look;exact Kh (PySem.W.kitx_own (cl.get _) cl.hd ha hn htk hm) I.kIn J e (fun z=>nomatch z) h
end
structure Room (k:Nat) (A:D_):Prop where
 hd:A.handled=ck
 dp:A.depth + 3 * k + 5 < recursionLimit
 un:A.units + 16 * k + 200 < cLine
 gd:A.guards=a_ []
theorem Room.mono {j k:Nat} {A:D_} (r:Room k A) (h:j≤k):Room j A:=⟨r.hd,by have:=r.dp; omega,by have:=r.un; omega,r.gd⟩
theorem Room.deeper {k:Nat} {A:D_} (r:Room (k + 1) A) (env:Env):Room k (A.deeper env) :=
 ⟨r.hd,by have:=r.dp; show A.depth + 1 + 3 * k + 5 < _; omega,by have:=r.un; show A.units + 3 + 16 * k + 200 < _; omega,r.gd⟩
theorem Room.in1 {k:Nat} {A:D_} (r:Room (k + 1) A):Room k A.in1 :=
 ⟨r.hd,by have:=r.dp; show A.depth + 3 * k + 5 < _; omega,by have:=r.un; show A.units + 1 + 16 * k + 200 < _; omega,r.gd⟩
theorem Room.depth {k:Nat} {A:D_} (r:Room k A):A.depth < recursionLimit:=by have:=r.dp; omega
theorem Room.units {k:Nat} {A:D_} (r:Room k A):A.units + 64 < cLine:=by have:=r.un; omega
theorem Room.units0 {k:Nat} {A:D_} (r:Room k A):A.units < cLine:=by have:=r.un; omega
def Iu:TA:=fun _ H Q=>Q [] H
def Fe (ta:TE) (tr:TA):TA:=fun σ H Q=>ta σ H fun x H1=>tr σ H1 fun xs H2=>Q (x :: xs) H2
section
variable {X:Cx} {e:F_} {es:List F_} {te:TE} {t:TA} {pos:Pos}
theorem wW:PA X [] Iu:=fun _ _ _ _ H Q I h=>Qf ⟨[],H,I,.nil,h⟩
theorem nu (ha:PE X e te) (hr:PA X es t) (hs:l_ (e :: es) X.env=(d_,eval e X.env) :: l_ es X.env:=by rfl):PA X (e :: es) (Fe te t):=by
 intro pos j' s σ H Q I h;rw [hs];show uk _ _ (spliced ((d_,eval e X.env) :: JV pos (l_ es X.env))) _ _ s;refine P0 (thn (ha j' s σ H _ I h) fun u s1 ⟨x,H1,I1,r1,q1⟩=>?_);exact thn (hr pos j' s1 σ H1 _ I1 q1) fun us s2 ⟨xs,H2,I2,r2,q2⟩=>⟨x :: xs,H2,I2,.cons r1 r2,q2⟩
def Iv (t:TA):TE:=fun σ H Q=>t σ H fun xs H1=>xs.length≤sizeLine∧∀ p,H1 p=ck→Q (.ref p) (upd H1 p (.tup xs))
def Iw (t:TA):TE:=fun σ H Q=>t σ H fun xs H1=>xs.length≤sizeLine∧∀ p,H1 p=ck→Q (.ref p) (upd H1 p (.lst xs))
theorem Ba {x1} (h:PA X es t):PE X (.Tuple es x1 pos) (Iv t):=by
 intro j' s σ H Q I hq;refine wpAny_Tuple_spliced (thn (h pos j' s σ H _ I hq) fun us s1 ⟨xs,H1,I1,r,z,q⟩=>⟨by rw [← r.length]; exact z,?_⟩);have hf:H1 s1.heap.objs.size=ck:=I1.hok.fresh (r_ _);refine ⟨.ref s1.heap.objs.size,upd H1 s1.heap.objs.size (.tup xs),I1.laid (t':=s1.toks) (fun b u e=>i_ _ e) (r_ _) ?_,rfl,q _ hf⟩;exact ⟨z,us,r,⟨_,s_ _ rfl,rfl,_,rfl⟩⟩
theorem wX (h:PA X es t):PE X (.List es pos) (Iw t):=by
 intro j' s σ H Q I hq;refine wpAny_List_spliced (thn (h pos j' s σ H _ I hq) fun us s1 ⟨xs,H1,I1,r,z,q⟩=>⟨by rw [← r.length]; exact z,?_⟩);have hf:H1 s1.heap.objs.size=ck:=I1.hok.fresh (r_ _);refine ⟨.ref s1.heap.objs.size,upd H1 s1.heap.objs.size (.lst xs),I1.laid (t':=s1.toks) (fun b u e=>i_ _ e) (r_ _) ?_,rfl,q _ hf⟩;exact ⟨z,us,0,r,s_ _ rfl⟩
end
abbrev Sp:=List V→Hp→VK→XK→Prop
abbrev CXT:=List Env→Hp→h_→XK→g_→h_→Prop
structure Env0 (P:rl) (w:C_) (K:f_) (mg:Str→Option g_) (base:H_) (A:D_) (outer:List Env) (s:h_) (H:Hp):Prop where
 frames:A.frames=a_ outer
 mod:Mod K mg base
 bs:∀ b o,base.get? b=a_ o→s.heap.get? b=a_ o∧H b=ck
 bsz:base.objs.size≤s.heap.objs.size
 funs:s.heap.FunFrames base outer
 frf:∀ b∈frs outer,H b=ck
 hok:HOk P w H s.heap
 bare:NA s.gens
def CE (outer:List Env) (P:rl) (w:C_) (H:Hp) (s:h_) (Q:VK) (u:g_) (s':h_):Prop :=
 ∃ v H',s'.os=s.os∧NA s'.gens∧Un (frs outer) [] H H' s.heap s'.heap∧HOk P w H' s'.heap∧RelV v u∧Q v H'
def CR (CX:CXT) (outer:List Env) (P:rl) (w:C_) (H:Hp) (s:h_) (Q:VK) (E:XK) (r:O9) (s':h_):Prop :=
 match r with
 | .ok (.ret u)=>CE outer P w H s Q u s'
 | .ok _=>False
 | .error e=>CX outer H s E e s'
structure FnOk (P:rl) (w:C_) (K:f_) (mg:Str→Option g_) (base:H_) (CX:CXT) (k:Nat) (f:k_) (fd:JZ) (ps:List Str) (sp:Sp):Prop where
 len:∀ vs H Q E,sp vs H Q E→vs.length=ps.length
 run:∀ (A:D_) (outer:List Env) (s:h_) (H:Hp) (args:Args) (us:List g_) (vs:List V) (Q:VK) (E:XK),Room k A→Env0 P w K mg base A outer s H→Oz s fd args (ps.zip us)→Vals vs us→sp vs H Q E →
  L4 (z_ P w) A (.call (.ref f) args) (CR CX outer P w H s Q E) s
theorem FnOk.mono {P:rl} {w:C_} {K:f_} {mg:Str→Option g_} {base:H_} {CX:CXT} {j k:Nat} {f:k_} {fd:JZ} {ps:List Str} {sp:Sp} (F:FnOk P w K mg base CX j f fd ps sp) (h:j≤k) :
 FnOk P w K mg base CX k f fd ps sp:=⟨F.len,fun A outer s H args us vs Q E hr=>F.run A outer s H args us vs Q E (hr.mono h)⟩
theorem FnOk.imp {P:rl} {w:C_} {K:f_} {mg:Str→Option g_} {base:H_} {CX:CXT} {k:Nat} {f:k_} {fd:JZ} {ps:List Str} {sp sp':Sp} (F:FnOk P w K mg base CX k f fd ps sp)
 (h:∀ vs H Q E,sp' vs H Q E→sp vs H Q E):FnOk P w K mg base CX k f fd ps sp' :=
 ⟨fun vs H Q E q=>F.len vs H Q E (h _ _ _ _ q),fun A outer s H args us vs Q E hr he hb hv hs=>F.run A outer s H args us vs Q E hr he hb hv (h _ _ _ _ hs)⟩
theorem Env0.in1 {P:rl} {w:C_} {K:f_} {mg:Str→Option g_} {base:H_} {A:D_} {outer:List Env} {s:h_} {H:Hp} (e:Env0 P w K mg base A outer s H) :
 Env0 P w K mg base A.in1 outer s H:=⟨e.frames,e.mod,e.bs,e.bsz,e.funs,e.frf,e.hok,e.bare⟩
section
variable {X:Cx} {j':List (k_×Obj)} {σ:St} {H:Hp} {s s':h_}
theorem Inv.env0 (I:Inv X j' σ H s):Env0 X.prog X.w X.K X.mg X.base X.A X.stack s H :=
 ⟨I.ok.frames,I.ok.mod,I.bs,Jy I.ok.bsz I.sz,I.stack,I.stkFree,I.hok,I.bare⟩
theorem Inv.after {Q:VK} {u:g_} (I:Inv X j' σ H s) (h:CE X.stack X.prog X.w H s Q u s'):EP X j' σ Q u s':=by
 obtain ⟨v,H',os,bare,un,hok,r,q⟩:=h;obtain ⟨hh,g,d,t,os'⟩:=s';obtain rfl:os'=s.os:=os;exact ⟨v,H',I.call (h':=hh) (g':=g) (d':=d) (t':=t) (ch:=[]) un hok bare (fun b z=>absurd z (by simp)),r,q⟩
end
def Ff (sp:Sp) (dvs:List V) (E:XK) (t:TA):TE:=fun σ H Q=>t σ H fun vs H1=>sp (vs ++ dvs) H1 Q E
def Binds (K:f_) (fd:JZ) (ps:List Str) (ds:List g_):Prop :=
 ∀ (s:h_) (us:List g_),K.In s.heap→(us ++ ds).length=ps.length→Oz s fd ⟨us,[]⟩ (ps.zip (us ++ ds))
theorem Binds.all {K:f_} {fd:JZ} {ps:List Str} (h:∀ us:List g_,us.length=ps.length→O2 fd ⟨us,[]⟩=pure (ps.zip us)):Binds K fd ps []:=fun s us _ hl=>by
 rw [My] at hl ⊢;exact .of_eq (h us hl)
def o9 (CX:CXT) (X:Cx) (E:XK):Prop:=∀ (j':List (k_×Obj)) (σ:St) (H:Hp) (s:h_) (e:g_) (s':h_),Inv X j' σ H s→CX X.stack H s E e s'→X.xe e s'
section
variable {X:Cx} {CX:CXT} {k:Nat} {f C:k_} {fd:JZ} {ps:List Str} {sp:Sp} {dvs:List V} {ds:List g_} {E:XK} {x m:Str} {p pos apos:Pos} {e o:F_} {es:List F_} {ta:TE} {t:TA}
theorem Bb {j':List (k_×Obj)} {σ:St} {H:Hp} {s:h_} {Q:VK} {us:List g_} {vs:List V} (F:FnOk X.prog X.w X.K X.mg X.base CX k f fd ps sp) (hr:Room k X.A) (hb:Binds X.K fd ps ds) (hd:Vals dvs ds) (hx:o9 CX X E)
 (I:Inv X j' σ H s) (r:Vals vs us) (h:sp (vs ++ dvs) H Q E):uk (z_ X.prog X.w) X.A (call (.ref f) us) (EP X j' σ Q) X.xe s:=by
 have r2:Vals (vs ++ dvs) (us ++ ds):=r.append hd;have hl:(us ++ ds).length=ps.length:=by rw [← r2.length]; exact F.len _ _ _ _ h
 refine PU (LG (F.run X.A X.stack s H ⟨us,[]⟩ (us ++ ds) (vs ++ dvs) Q E hr I.env0 (hb s us I.kIn hl) r2 h) fun r s' hq=>?_);cases r with
 | error e=>exact hx j' σ H s e s' I hq
 | ok fl =>
  cases fl with
  | ret u=>exact I.after hq
  | next=>exact JK hq
  | brk=>exact JK hq
  | cont=>exact JK hq
theorem nv (F:FnOk X.prog X.w X.K X.mg X.base CX k f fd ps sp) (hr:Room k X.A) (hg:Gl X x) (hm:X.mg x=a_ (.ref f)) (hk:Ka X.K (.ref f)=e_) (hb:Binds X.K fd ps ds) (hd:Vals dvs ds) (hx:o9 CX X E)
 (ha:PA X (e :: es) t) (hdb:(x == ("__debug__":Str))=d_:=by decide) (he:l_ (e :: es) X.env=(d_,eval e X.env) :: l_ es X.env:=by rfl) (hpl:(JV pos (l_ es X.env)).any (·.1)=d_:=by rfl) :
 PE X (.Call (.Name x p) (e :: es) [] pos) (Ff sp dvs E t):=by
 intro j' s σ H Q I h;refine K4 (kP I hg hm ?_ hdb);refine PySem.W.callWith_K (h₀:=X.base) I.ok.mod.kin hk (thn (ha pos j' s σ H _ I h) fun us s1 ⟨vs,H1,I1,r,q⟩=>⟨I1.kIn,?_⟩) he hpl;exact Bb F hr hb hd hx I1 r q
structure Mk (K:f_) (C f:k_):Prop where
 makes:PySem.W.makesIn K C=e_
 init:MN K (.ref C) "__init__"=a_ (a_ (.ref f))
 fn:Rq K (.ref f)=e_
 kp:Ka K (.ref C)=e_
end
section
variable {X:Cx} {CX:CXT} {k:Nat} {f C:k_} {fd:JZ} {ps ks:List Str} {sp:Sp} {E:XK} {x m:Str} {p pos apos kpos:Pos} {e o:F_} {es:List F_} {kws:List L5} {te ta:TE} {t tk:TA} {nm:Option Str}
structure Ht (K:f_) (fd:JZ) (ps ks:List Str) (g:List g_→List g_→List g_) (gV:List V→List V→List V):Prop where
 to:∀ (s:h_) (us ws:List g_),K.In s.heap→(g us ws).length=ps.length→Oz s fd ⟨us,ks.zip ws⟩ (ps.zip (g us ws))
 rel:∀ {vs:List V} {us:List g_} {zs:List V} {ws:List g_},Vals vs us→Vals zs ws→Vals (gV vs zs) (g us ws)
variable {g:List g_→List g_→List g_} {gV:List V→List V→List V}
end
structure dO (N P:List Str) (sc:Kz):Prop where
 kind:sc.kind=.function
 co:sc.isCoroutine=d_
 gen:sc.isGenerator=d_
 nd:N.Nodup
 pre:N.take P.length=P
 par:∀ x∈P,sc.names.lookup x=a_ .local∨sc.names.lookup x=a_ .cell
 nofree:∀ y∈sc.names,y.2≠.free
theorem lQ {kindOf:Str→Option Lx} {x:Str}:∀ {binds:List (Str×g_)} {m:Str→Option g_},(∀ v,(x,v) ∉ binds)→Q7 kindOf binds m x=m x
 | [],_,_=>rfl
 | (n,v) :: r,m,h=>by
  unfold Q7;rw [lQ fun w hw=>h w (o_ _ hw)];split
  · have:x≠n:=by rintro rfl; exact h v n_
    simp [this]
  · rfl
theorem lR {kindOf:Str→Option Lx} {x:Str}:∀ {binds:List (Str×g_)} {m:Str→Option g_},(∀ v,(x,v) ∉ binds)→Q8 kindOf binds m x=m x
 | [],_,_=>rfl
 | (n,v) :: r,m,h=>by
  unfold Q8;rw [lR fun w hw=>h w (o_ _ hw)];split
  · rfl
  · have:x≠n:=by rintro rfl; exact h v n_
    simp [this]
theorem lS {kindOf:Str→Option Lx} {x:Str} {v:g_}:∀ {P:List Str} {vs:List g_} {i:Nat} {m:Str→Option g_},P.Nodup→P[i]?=a_ x→vs[i]?=a_ v→kindOf x=a_ .local →
 Q7 kindOf (P.zip vs) m x=a_ v
 | [],_,_,_,_,h,_,_=>by simp at h
 | _ :: _,[],_,_,_,_,h,_=>by simp at h
 | p :: P,w :: vs,0,m,nd,h1,h2,hk=>by
  simp at h1 h2; subst h1; subst h2;show Q7 kindOf ((p,w) :: P.zip vs) m p=_;unfold Q7;rw [lQ fun v hv=>(LS.mp nd).1 (Nr hv).1,if_pos hk];simp
 | p :: P,w :: vs,i + 1,m,nd,h1,h2,hk=>by
  show Q7 kindOf ((p,w) :: P.zip vs) m x=_;unfold Q7;exact lS (i:=i) (LS.mp nd).2 (by simpa using h1) (by simpa using h2) hk
theorem lT {kindOf:Str→Option Lx} {x:Str} {v:g_}:∀ {P:List Str} {vs:List g_} {i:Nat} {m:Str→Option g_},P.Nodup→P[i]?=a_ x→vs[i]?=a_ v→kindOf x≠a_ .local →
 Q8 kindOf (P.zip vs) m x=a_ v
 | [],_,_,_,_,h,_,_=>by simp at h
 | _ :: _,[],_,_,_,_,h,_=>by simp at h
 | p :: P,w :: vs,0,m,nd,h1,h2,hk=>by
  simp at h1 h2; subst h1; subst h2;show Q8 kindOf ((p,w) :: P.zip vs) m p=_;unfold Q8;rw [lR fun v hv=>(LS.mp nd).1 (Nr hv).1,if_neg hk];simp
 | p :: P,w :: vs,i + 1,m,nd,h1,h2,hk=>by
  show Q8 kindOf ((p,w) :: P.zip vs) m x=_;unfold Q8;exact lT (i:=i) (LS.mp nd).2 (by simpa using h1) (by simpa using h2) hk
def start (N:List Str) (vs:List V):St:=vs.map a_ ++ Jj (N.length - vs.length) ck
def kU (CX:CXT) (P:rl) (w:C_) (K:f_) (mg:Str→Option g_) (base:H_) (N:List Str) (qual:Str) (scope:Kz) (f:k_) (cd:g_) (A:D_) (outer:List Env) (s:h_) (H:Hp) (E:XK):Cx where
 prog:=P
 w:=w
 K:=K
 mg:=mg
 base:=base
 A:=A.deeper (LN qual scope s.heap.objs.size f cd)
 N:=N
 s₀:=s
 H₀:=H
 env:=LN qual scope s.heap.objs.size f cd
 outer:=outer
 stack:=LN qual scope s.heap.objs.size f cd :: outer
 ex:=[]
 calm:=e_
 fn:=fun _=>e_
 pn:=[]
 xe:=fun e s'=>uk (z_ P w) (A.deeper (LN qual scope s.heap.objs.size f cd)) (leaving (LN qual scope s.heap.objs.size f cd) e) (fun _ s''=>CX outer H s E e s'') (fun e' s''=>CX outer H s E e' s'') s'
theorem pb {sc:Kz} {n:Nat} {x:Str} (h:sc.names.lookup x=a_ .cell):∃ c,(JM n sc.names []).lookup x=a_ c:=by
 have q:=MO sc.names n [] (.inl h);exact Lq.mp q
theorem lU {CX:CXT} {P:rl} {w:C_} {K:f_} {mg:Str→Option g_} {base:H_} {N ps:List Str} {qual:Str} {scope:Kz} {f:k_} {cd:g_} {A:D_} {outer:List Env} {s s1:h_} {H:Hp} {E:XK} {us:List g_} {vs:List V}
 (S:dO N ps scope) (hd:A.handled=ck) (e0:Env0 P w K mg base A outer s H) (hl:vs.length=ps.length) (r:Vals vs us)
 (x:InCallC s s.heap.objs.size (Q7 (LN qual scope s.heap.objs.size f cd).kindOf (ps.zip us) fun _=>ck) (JM (s.heap.objs.size + 1) scope.names []) (Q8 (LN qual scope s.heap.objs.size f cd).kindOf (ps.zip us) fun _=>ck) s1) :
 Inv (kU CX P w K mg base N qual scope f cd A outer s H E) [] (start N vs) H s1:=by
 have hpl:ps.length≤N.length:=by have:=congrArg Nh S.pre; rw [Oo] at this; omega
 obtain ⟨h1,tk,rfl,hk⟩:=x.done;have noA:∀ b:k_,b ∉ (kU CX P w K mg base N qual scope f cd A outer s H E).ex:=fun b z=>absurd (show b∈([]:List k_) from z) (by simp);refine ⟨⟨e0.mod,S.kind,rfl,rfl,r_ _,fun y z c h1 h2=>?_,fun y hy=>?_,fun y c _ h=>?_,fun _=>hd,Around.frames_deeper e0.frames,.inr ⟨rfl,rfl⟩,fun b z=>absurd z (noA b),e0.bs,e0.bsz,fun b _ _=>noA b,fun b z=>absurd z (noA b),e0.funs,e0.frf⟩,
  rfl,e0.bare,Un.kept hk,⟨_,x.toInCall.ns,fun i y v h1 h2 h3=>?_⟩,fun y c h=>⟨_,x.cell y c h⟩,e0.hok.fresh (r_ _),fun y c h=>?_,fun p hp=>absurd (show p∈([]:List (k_×Obj)) from hp) (by simp),e0.hok.kept hk,?_⟩
 · exact name_of_addr x.apart (Lr h1) (Lr h2)
 · have hy:scope.names.lookup y=a_ .cell∨scope.names.lookup y=a_ .free:=hy;rcases hy with hy | hy
   · exact pb hy
   · exact absurd rfl (S.nofree _ (Lr hy))
 · exact Mg (x.above y c (Lr h))
 · have hi:i < vs.length:=by
    unfold start at h2;by_cases hi:i < vs.length
    · exact hi
    · rw [KC (by simpa using hi)] at h2;rw [LC] at h2;split at h2 <;> cases h2
   have ha:vs[i]?=a_ v:=by
    unfold start at h2;rw [KG (by simpa using hi),JG] at h2;cases e:vs[i]? with
    | none=>rw [e] at h2; cases h2
    | some a=>rw [e] at h2; cases h2; rfl
   obtain ⟨u,hu,rv⟩:=r.get ha;have hp:ps[i]?=a_ y:=by
    rw [← S.pre,Ob (by omega)]; exact h1
   have ndP:ps.Nodup:=by rw [← S.pre]; exact S.nd.sublist (List.take_sublist _ _)
   refine ⟨u,rv,?_⟩;rcases S.par y (Ll hp) with k | k
   · exact .inl ⟨k,lS ndP hp hu k⟩
   · obtain ⟨c,e⟩:=pb (n:=s.heap.objs.size + 1) k;refine .inr ⟨.inl k,c,e,?_⟩;have q:=x.cell y c e;rw [lT ndP hp hu (by show scope.names.lookup y≠_; rw [k]; decide)] at q;exact q
 · exact e0.hok.fresh (Mg (x.above y c (Lr h)))
 · unfold start;show _=N.length;rw [Kf,Jo,Lb];omega
theorem vd {CX:CXT} {P:rl} {w:C_} {K:f_} {mg:Str→Option g_} {base:H_} {k:Nat} {f:k_} {name qual:Str} {params:Arguments} {body:List Ky} {scope:Kz} {dV kV doc pm cdv ct oc:g_} {an od:Option k_}
 {osl:Array (Option g_)} {N ps:List Str} {sp:Sp} (lk:K.lookup f=a_ ⟨oc,od,.func (LK name qual params body scope dV kV doc pm an cdv ct),osl⟩) (hcd:NI K cdv qual=e_) (S:dO N ps scope)
 (len:∀ vs H Q E,sp vs H Q E→vs.length=ps.length)
 (hbody:∀ (A:D_) (outer:List Env) (s:h_) (H:Hp) (vs:List V) (Q:VK) (E:XK),Room k (A.deeper (LN qual scope s.heap.objs.size f cdv))→sp vs H Q E →
   ∃ t,PSs (kU CX P w K mg base N qual scope f cdv A outer s H E) body t∧t { nx:=fun _ H'=>Q .non H',rt:=Q } (start N vs) H) :
 FnOk P w K mg base CX (k + 1) f (LK name qual params body scope dV kV doc pm an cdv ct) ps sp:=by
 refine ⟨len,fun A outer s H args us vs Q E hr e0 hb r hsp=>?_⟩;have hl:=len _ _ _ _ hsp;have KX:K.In s.heap:=e0.mod.kin.keeps fun b o e=>(e0.bs b o e).1;have lim:s.heap.NoLimit:=e0.mod.nolimit.keeps fun b o e=>(e0.bs b o e).1;have hkind:∀ y∈ps.zip us,scope.names.lookup y.1=a_ .local∨(scope.names.lookup y.1=a_ .cell∧((JM (s.heap.objs.size + 1) scope.names []).lookup y.1).isSome=e_):=fun ⟨n,v⟩ hy=>by
  rcases S.par n (Nr hy).1 with q | q
  · exact .inl q
  · exact .inr ⟨q,MO _ _ _ (.inl q)⟩
 refine codeAny_call_function hr.depth (KX _ _ lk) rfl S.co S.gen rfl (PySem.W.codeRec_of KX hcd) (hb _ _ _ _ ?_);refine NH S.kind hkind fun env he s1 x=>?_;subst he;refine ⟨lim.keeps x.toInCall.keep,codeAny_func ?_⟩;obtain ⟨t,ht,hq⟩:=hbody A outer s H vs Q E (hr.deeper _) hsp;have I:Inv (kU CX P w K mg base N qual scope f cdv A outer s H E) [] (start N vs) H s1:=lU S hr.hd e0 hl r x;refine JC (ht [] s1 (start N vs) H _ I hq) (fun fl s' hs=>?_) fun e s' hs=>hs;have fin:∀ {σ':St} {H':Hp} {v:V} {u:g_},Inv (kU CX P w K mg base N qual scope f cdv A outer s H E) [] σ' H' s'→RelV v u→Q v H'→CE outer P w H s Q u s' :=
  fun {σ' H' v u} J rv q=>⟨v,H',J.os,J.bare,J.base,J.hok,rv,q⟩
 cases fl with
 | ret u =>
  obtain ⟨v,σ',H',J,rv,q⟩:=hs;exact fin J rv q
 | next =>
  obtain ⟨σ',H',J,q⟩:=hs;exact fin (v:=V.non) (u:=Js) J rfl q
 | brk =>
  obtain ⟨_,_,_,q⟩:=hs;exact JK q
 | cont =>
  obtain ⟨_,_,_,q⟩:=hs;exact JK q
section
variable {X:Cx} {x:Str} {p pos:Pos} {e:F_} {es:List F_} {t:TA} {id T:String} {r:List V→Hp→VK→Prop}
def tCB (r:List V→Hp→VK→Prop) (t:TA):TE:=fun σ H Q=>t σ H fun vs H1=>r vs H1 Q
theorem gK (hc:CallR X (.builtin id) r) (hg:Gl X x) (hm:X.mg x=ck) (hv:Kp x=a_ (.builtin id)) (ha:PA X (e :: es) t) (hn:x≠"__name__":=by decide) (hdb:(x == ("__debug__":Str))=d_:=by decide)
 (he:l_ (e :: es) X.env=(d_,eval e X.env) :: l_ es X.env:=by rfl) (hpl:(JV pos (l_ es X.env)).any (·.1)=d_:=by rfl):PE X (.Call (.Name x p) (e :: es) [] pos) (tCB r t):=by
 intro j' s σ H Q I h;refine K4 (gY I hg hm hv ?_ hn hdb);exact M8 (thn (ha pos j' s σ H _ I h) fun us s1 ⟨vs,H1,I1,r1,q1⟩=>hc j' s1 σ H1 vs us Q I1 r1 q1) he hpl
theorem jI (hc:CallR X (.type T) r) (hg:Gl X x) (hm:X.mg x=ck) (hv:Kp x=a_ (.type T)) (ha:PA X (e :: es) t) (hn:x≠"__name__":=by decide) (hdb:(x == ("__debug__":Str))=d_:=by decide)
 (he:l_ (e :: es) X.env=(d_,eval e X.env) :: l_ es X.env:=by rfl) (hpl:(JV pos (l_ es X.env)).any (·.1)=d_:=by rfl):PE X (.Call (.Name x p) (e :: es) [] pos) (tCB r t):=by
 intro j' s σ H Q I h;refine K4 (gY I hg hm hv ?_ hn hdb);exact Kc (thn (ha pos j' s σ H _ I h) fun us s1 ⟨vs,H1,I1,r1,q1⟩=>hc j' s1 σ H1 vs us Q I1 r1 q1) he hpl
end
end L2
namespace HT
open PySem PyProof.Rows
section
open PySem.SeqAt
open PySem.AutoSeq1 (wpAny_loadPart')
open PySem.MeetsSeq PySem.MeetsSeq2 PySem.MeetsSeq3
end
section
variable {prog:rl} {w:C_} {A:D_} {E:g_→h_→Prop} {s:h_}
theorem cat_tup {t b:k_} {vs ws:List g_} {Q:g_→h_→Prop} (ht:Rf s.heap t vs.toArray) (hb:Rf s.heap b ws.toArray) (hv:vs≠[])
 (h1:ws=[]→Q (.ref t) s) (h2:ws≠[]→Q (.ref s.heap.objs.size) { s with heap:=s.heap.push { cls:=.type "tuple",data:=.seq (vs ++ ws).toArray } })
 (hsz:vs.length + ws.length≤sizeLine):uk (z_ prog w) A (Lg .Add (.ref t) (.ref b)) Q E s:=by
 obtain ⟨⟨cls,dd,data,sl⟩,ho,hc,n,hd⟩:=id ht;obtain ⟨⟨cls2,dd2,data2,sl2⟩,ho2,hc2,n2,hd2⟩:=id hb;simp only at hc hd hc2 hd2;subst hc hd hc2 hd2;have e:vs.toArray ++ ws.toArray=(vs ++ ws).toArray:=by simp
 by_cases hw:ws=[]
 · exact Qa ⟨_,ho,rfl⟩ ⟨_,ho2,rfl⟩ Oc PM MS ME (Mr _ _)
    (tuple_addW1 t b vs.toArray ws.toArray n n2 dd dd2 sl sl2 (by simpa using hv) (by simp [hw])) ⟨ho,ho2,h1 hw⟩
 · refine Qa ⟨_,ho,rfl⟩ ⟨_,ho2,rfl⟩ Oc PM MS ME (Mr _ _)
    (tuple_addW2 t b vs.toArray ws.toArray n n2 dd dd2 sl sl2 (by simpa using hv) (by simpa using hw) (by rw [E_,E_]; exact hsz)) ⟨ho,ho2,?_⟩
   rw [e];exact h2 hw
def sIx (n d:Nat):Option Int→Nat
 | none=>d
 | some v=>if v < 0 then (v + (n:Int)).toNat else min v.toNat n
theorem Bc (n d:Nat) (hd:d≤n) (o:Option Int):sIx n d o≤n:=by
 cases o with
 | none=>exact hd
 | some v =>
  show (if v < 0 then (v + (n:Int)).toNat else min v.toNat n)≤n;by_cases hv:v < 0
  · rw [if_pos hv]; omega
  · rw [if_neg hv]; exact QG _ _
theorem rL (v:Int) (n d:Nat):(if v < 0 then max (v + (n:Int)) 0 else min v (n:Int))=((sIx n d (a_ v):Nat):Int):=by
 show (if v < 0 then max (v + (n:Int)) 0 else min v (n:Int))=(((if v < 0 then (v + (n:Int)).toNat else min v.toNat n):Nat):Int);by_cases hv:v < 0
 · simp only [if_pos hv]; omega
 · simp only [if_neg hv]; omega
theorem qa (lo hi:Option Int) (n:Nat):Mi lo hi 1 (n:Int)=(((sIx n 0 lo:Nat):Int),((sIx n n hi:Nat):Int)):=by
 have h1:¬ ((1:Int) < 0):=by omega
 unfold Mi;simp only [h1,if_false];refine Prod.ext ?_ ?_
 · cases lo with
   | none=>rfl
   | some v=>exact rL v n 0
 · cases hi with
   | none=>rfl
   | some v=>exact rL v n n
theorem qb (i j:Nat):Lc (i:Int) (j:Int) 1=j - i:=by
 unfold Lc;have h1:(1:Int) > 0:=by omega
 simp only [h1,if_true,Int.ediv_one];split <;> omega
theorem kq {v:g_} {o:Option Int} {Q:Option Int→h_→Prop} (p:Oy v o) (h:Q o s):uk (z_ prog w) A (Builtin.Slice.slicePartIndex v) Q E s:=by
 cases p with
 | none=>exact slicePart_none h
 | int i t=>exact slicePart_int h
theorem sliceApplied_gen {sl:k_} {vl vu:g_} {lo hi:Option Int} {n:Nat} {Q:Int×Int×Nat→h_→Prop} (hs:s.heap.IsSliceOf sl vl vu .none) (pl:Oy vl lo) (pu:Oy vu hi)
 (h:Q (((sIx n 0 lo:Nat):Int),1,sIx n n hi - sIx n 0 lo) s):uk (z_ prog w) A (NR (.ref sl) (pure (n:Int))) Q E s:=by
 obtain ⟨os,hos,hcs,hds⟩:=id hs;unfold NR Builtin.Slice.sliceFields;refine c_ (c_ (Ke hos hds (x:=vl) rfl (c_ (Ke hos hds (x:=vu) rfl (c_ (Ke hos hds (x:=.none) rfl (j_ ?_)))))));refine c_ (slicePart_none ?_);show uk _ _ (if ((1:Int) == 0)=e_ then _ else _) _ _ s;rw [if_neg (by decide)];refine c_ (kq pl (c_ (kq pu (c_ (j_ ?_)))));show uk _ _ (match Mi lo hi 1 (n:Int) with | (lo,hi)=>pure (lo,(1:Int),Lc lo hi 1)) _ _ s
 rw [qa lo hi n];show uk _ _ (pure (((sIx n 0 lo:Nat):Int),(1:Int),Lc ((sIx n 0 lo:Nat):Int) ((sIx n n hi:Nat):Int) 1)) _ _ s;rw [qb];exact j_ h
theorem ve (xs:Array g_) (i k:Nat):((pi k).filterMap fun (m:Nat)=>xs[((i:Int) + (m:Int) * 1).toNat]?).toArray=((xs.toList.drop i).take k).toArray:=by
 have e:(fun (m:Nat)=>xs[((i:Int) + (m:Int) * 1).toNat]?)=fun m=>xs[i + m]?:=by
  funext m;have:((i:Int) + (m:Int) * 1).toNat=i + m:=by omega
  rw [this]
 rw [e];have:=pick_run xs i k;rw [Mz] at this;have e2:((fun x=>xs[x]?) ∘ fun x=>i + x)=fun m=>xs[i + m]?:=rfl;rw [e2] at this;rw [this]
theorem getItem_tuple_cut {t sl:k_} {items:Array g_} {vl vu:g_} {lo hi:Option Int} {Q:g_→h_→Prop} (ht:Rf s.heap t items) (hs:s.heap.IsSliceOf sl vl vu .none) (pl:Oy vl lo) (pu:Oy vu hi)
 (hw:¬ (sIx items.size 0 lo=0∧sIx items.size items.size hi=items.size))
 (h:Q (.ref s.heap.objs.size) { s with heap:=s.heap.push { cls:=.type "tuple",data:=.seq ((items.toList.drop (sIx items.size 0 lo)).take (sIx items.size items.size hi - sIx items.size 0 lo)).toArray } })
 (hsz:items.size≤sizeLine):uk (z_ prog w) A (Ov (.ref t) (.ref sl)) Q E s:=by
 have htake:sizeOk (.seq ((items.toList.drop (sIx items.size 0 lo)).take (sIx items.size items.size hi - sIx items.size 0 lo)).toArray):=by
  show ((items.toList.drop (sIx items.size 0 lo)).take (sIx items.size items.size hi - sIx items.size 0 lo)).toArray.size≤sizeLine;rw [E_,Oo,M_,JB];omega
 have hj:sIx items.size items.size hi≤items.size:=Bc _ _ (r_ _) hi;obtain ⟨os,hos,hcs,hds⟩:=id hs;have hTs:s.TypeIs (.ref sl) "slice":=⟨os,hos,hcs⟩;unfold Ov
 try with_reducible refine JY ?_
 first | refine c_ (j_ ?_) | skip
 refine c_ (wpAny_sequenceKey ht.typeIs (by decide) ?_);refine c_ (Kr (name:=b_ "__getitem__") ht.typeIs JW
  (Lv JW ht.typeIs entry_tuple_getitem ?_ (args_tuple_getitem _ _)))
 show uk _ _ (NQ (.ref t) >>= _) _ _ s;refine c_ (tupleItemsOf_ ht ?_);refine c_ (MI hTs ?_);rw [if_pos (by decide)];refine c_ (sliceApplied_gen hs pl pu ?_);have hno:¬ ((((sIx items.size 0 lo:Nat):Int) == 0 && (1:Int) == 1 && (sIx items.size items.size hi - sIx items.size 0 lo) == items.size)=e_):=by
  intro q;rw [on,on] at q;have q1:((sIx items.size 0 lo:Nat):Int)=0:=Pm q.1.1;have q2:sIx items.size items.size hi - sIx items.size 0 lo=items.size:=Pm q.2;exact hw ⟨by omega,by omega⟩
 show uk _ _ (if (((sIx items.size 0 lo:Nat):Int) == 0 && (1:Int) == 1 && (sIx items.size items.size hi - sIx items.size 0 lo) == items.size)=e_ then _ else _) _ _ s;rw [if_neg hno,ve]
 first
  | exact c_ (m:=Lp _) (KU (j_ ⟨_,rfl,j_ h⟩) htake)
  | exact c_ (m:=Lp _) (KU (c_ (j_ (j_ ⟨_,rfl,j_ h⟩))) htake)
  | exact c_ (c_ (m:=Lp _) (KU (j_ (j_ ⟨_,rfl,j_ h⟩)) htake))
  | exact c_ (c_ (m:=Lp _) (KU (j_ ⟨_,rfl,j_ h⟩) htake))
end
end HT
namespace L2
open PySem PySem.Spec PyProof.Rows
abbrev TO:=St→Hp→(Option Int→Hp→Prop)→Prop
def PO (X:Cx) (e:Option F_) (t:TO):Prop :=
 ∀ (j':List (k_×Obj)) (s:h_) (σ:St) (H:Hp) (Q:Option Int→Hp→Prop),Inv X j' σ H s→t σ H Q →
  uk (z_ X.prog X.w) X.A (evalPart e X.env) (fun u s'=>∃ o H',Inv X j' σ H' s'∧Oy u o∧Q o H') X.xe s
def yd:TO:=fun _ H Q=>Q ck H
def Fg (t:TE):TO:=fun σ H Q=>t σ H fun x H1=>∃ i,x=.int i∧Q (a_ i) H1
section
variable {X:Cx} {e:F_} {te:TE} {lo hi:Option F_} {tl th:TO} {pos p2:Pos}
theorem ye:PO X ck yd:=by
 intro j' s σ H Q I h;rw [evalPart_none];exact j_ ⟨ck,H,I,.none,h⟩
theorem yf (h:PE X e te):PO X (a_ e) (Fg te):=by
 intro j' s σ H Q I hw;rw [evalPart_some];refine thn (h j' s σ H _ I hw) fun u s1 ⟨x,H1,I1,r1,q1⟩=>?_;obtain ⟨i,rfl,q⟩:=q1;obtain ⟨t,rfl⟩:=r1;exact ⟨a_ i,H1,I1,.int i t,q⟩
def SlR (X:Cx) (r:V→Option Int→Option Int→Hp→VK→Prop):Prop :=
 ∀ (j':List (k_×Obj)) (s:h_) (σ:St) (H:Hp) (x:V) (v vl vu:g_) (lo hi:Option Int) (sl:k_) (Q:VK),Inv X j' σ H s→RelV x v→s.heap.IsSliceOf sl vl vu .none→Oy vl lo→Oy vu hi→r x lo hi H Q →
  ∃ T id,typeLookup (.type T) "__getitem__"=pure (a_ (.builtin id))∧s.TypeIs v T∧uk (z_ X.prog X.w) X.A (Ov v (.ref sl)) (EP X j' σ Q) X.xe s
theorem SlR.or {r r':V→Option Int→Option Int→Hp→VK→Prop} (h:SlR X r) (h':SlR X r'):SlR X (fun x lo hi H Q=>r x lo hi H Q∨r' x lo hi H Q):=by
 intro j' s σ H x v vl vu lo hi sl Q I rx hs pl pu q;rcases q with q | q
 · exact h j' s σ H x v vl vu lo hi sl Q I rx hs pl pu q
 · exact h' j' s σ H x v vl vu lo hi sl Q I rx hs pl pu q
def tSl (r:V→Option Int→Option Int→Hp→VK→Prop) (te:TE) (tl th:TO):TE:=fun σ H Q=>te σ H fun x H1=>tl σ H1 fun l H2=>th σ H2 fun u H3=>r x l u H3 Q
theorem pc {r:V→Option Int→Option Int→Hp→VK→Prop} (hr:SlR X r) (he:PE X e te) (hl:PO X lo tl) (hu:PO X hi th):PE X (.Subscript e (.Slice lo hi ck p2) pos) (tSl r te tl th):=by
 intro j' s σ H Q I h;refine Subscript_ (thn (he j' s σ H _ I h) fun v s1 ⟨x,H1,I1,r1,q1⟩=>?_);refine wpAny_Slice (thn (hl j' s1 σ H1 _ I1 q1) fun vl s2 ⟨l,H2,I2,pl,q2⟩=>thn (hu j' s2 σ H2 _ I2 q2) fun vu s3 ⟨u,H3,I3,pu,q3⟩=>?_);rw [evalPart_none];refine j_ ?_;have I4:Inv X j' σ H3 { s3 with heap:=s3.heap.push { cls:=.type "slice",data:=.fields #[vl,vu,.none] } }:=I3.kept (t':=s3.toks) fun b ob q=>i_ _ q;obtain ⟨T,id,hT,ht,hg⟩:=hr j' { s3 with heap:=s3.heap.push { cls:=.type "slice",data:=.fields #[vl,vu,.none] } } σ H3 x v vl vu l u s3.heap.objs.size Q I4 r1 (Heap.IsSliceOf.new ..) pl pu q3;show uk (z_ X.prog X.w) X.A (subscriptTail e (.Slice lo hi ck p2) v (.ref s3.heap.objs.size)) (EP X j' σ Q) X.xe { s3 with heap:=s3.heap.push { cls:=.type "slice",data:=.fields #[vl,vu,.none] } };exact tail_any (ops:=[.ref s3.heap.objs.size,v]) ht hT hg (by with_unfolding_all rfl)
def vf (xs:List V) (lo hi:Option Int):List V:=(xs.drop (HT.sIx xs.length 0 lo)).take (HT.sIx xs.length xs.length hi - HT.sIx xs.length 0 lo)
theorem jJ (xs:List V) (lo hi:Option Int):(vf xs lo hi).length≤xs.length:=by
 unfold vf;rw [Oo,M_];omega
def Ix (K:f_):V→Option Int→Option Int→Hp→VK→Prop:=fun x lo hi H Q=>∃ a xs,x=.ref a∧SqT K H a xs ∧
 ¬ (HT.sIx xs.length 0 lo=0∧HT.sIx xs.length xs.length hi=xs.length)∧∀ p,H p=ck→Q (.ref p) (upd H p (.tup (vf xs lo hi)))
theorem sl_tup:SlR X (Ix X.K):=by
 intro j' s σ H x v vl vu lo hi sl Q I rx hs pl pu h;obtain ⟨a,xs,rfl,hx,hw,q⟩:=h;cases rx;obtain ⟨its,r,ht,hz⟩:=I.tuple hx;have hlen:its.toArray.size=xs.length:=by rw [E_]; exact r.length.symm
 refine ⟨"tuple",_,JW.lookup,ht.typeIs,?_⟩;refine HT.getItem_tuple_cut ht hs pl pu (by rw [hlen]; exact hw) ?_ (by rw [hlen]; exact hz);rw [hlen];refine ⟨.ref s.heap.objs.size,_,I.laid (t':=s.toks) (o:=.tup (vf xs lo hi)) (fun b ob q=>i_ _ q) (r_ _) ?_,rfl,q _ (I.hok.fresh (r_ _))⟩;exact ⟨Jy (jJ xs lo hi) hz,_,(r.drop (HT.sIx xs.length 0 lo)).take (HT.sIx xs.length xs.length hi - HT.sIx xs.length 0 lo),Rp _ _⟩
def Bd (K:f_):R2:=fun x y H Q=>∃ a b xs ys,x=.ref a∧y=.ref b∧SqT K H a xs∧SqT K H b ys∧xs≠[]∧xs.length + ys.length≤sizeLine ∧
 (ys=[]→Q (.ref a) H)∧(ys≠[]→∀ p,H p=ck→Q (.ref p) (upd H p (.tup (xs ++ ys))))
theorem Vals.nil_iff {xs:List V} {us:List g_} (r:Vals xs us):us=[]↔xs=[]:=by
 cases r with
 | nil=>simp
 | cons _ _=>simp
theorem op_catT:OpR X (Lg .Add) (Bd X.K):=by
 intro j' s σ H x y v u Q I rx ry h;obtain ⟨a,b,xs,ys,rfl,rfl,ha,hb,hx,hz,q1,q2⟩:=h;cases rx;cases ry;obtain ⟨its,r1,p1,_⟩:=I.tuple ha;obtain ⟨its2,r2,p2,_⟩:=I.tuple hb;refine HT.cat_tup p1 p2 (fun z=>hx (r1.nil_iff.mp z)) (fun z=>⟨.ref a,H,I,rfl,q1 (r2.nil_iff.mp z)⟩) (fun z=>?_) (by rw [← r1.length,← r2.length]; exact hz);refine ⟨.ref s.heap.objs.size,_,I.laid (t':=s.toks) (o:=.tup (xs ++ ys)) (fun b ob q=>i_ _ q) (r_ _) ?_,rfl,q2 (fun w=>z (r2.nil_iff.mpr w)) _ (I.hok.fresh (r_ _))⟩;exact ⟨by rw [Kf]; exact hz,_,r1.append r2,Rp _ _⟩
end
def ixN (n:Nat) (i:Int):Option Nat:=if 0≤i then (if i < n then a_ i.toNat else ck) else if -(n:Int)≤i then a_ (i + n).toNat else ck
def atI {α:Type} (xs:List α) (i:Int):Option α:=(ixN xs.length i).bind fun j=>xs[j]?
theorem rM {n:Nat} {i:Int} {j:Nat} (h:ixN n i=a_ j):seqIndex? i n=a_ j∧j < n∧-(n:Int)≤i∧i < n:=by
 unfold ixN at h;by_cases h0:0≤i
 · rw [if_pos h0] at h;by_cases h1:i < n
   · rw [if_pos h1] at h;have e:i.toNat=j:=Jp h;exact ⟨by rw [QR h0 h1,e],by omega,by omega,h1⟩
   · rw [if_neg h1] at h; cases h
 · rw [if_neg h0] at h;by_cases h1:-(n:Int)≤i
   · rw [if_pos h1] at h;have e:(i + n).toNat=j:=Jp h;exact ⟨by rw [seqIndex_neg (by omega) h1,e],by omega,h1,by omega⟩
   · rw [if_neg h1] at h; cases h
theorem ny {α:Type} {xs:List α} {i:Int} {v:α} (h:atI xs i=a_ v):∃ j,seqIndex? i xs.length=a_ j∧xs[j]?=a_ v∧j < xs.length∧-(xs.length:Int)≤i∧i < xs.length:=by
 unfold atI at h;cases e:ixN xs.length i with
 | none=>rw [e] at h; cases h
 | some j =>
  rw [e] at h;obtain ⟨h1,h2,h3,h4⟩:=rM e;exact ⟨j,h1,h,h2,h3,h4⟩
def rN (b:F_):Prop:=∀ o i,QP b d_ o i=operate [o,i] (Ov o i)
def IxR (X:Cx) (r:R2):Prop :=
 ∀ (value slice:F_) (j':List (k_×Obj)) (s:h_) (σ:St) (H:Hp) (x y:V) (v u:g_) (Q:VK),Inv X j' σ H s→RelV x v→RelV y u→r x y H Q →
  QP slice d_ v u=operate [v,u] (Ov v u)→uk (z_ X.prog X.w) X.A (subscriptTail value slice v u) (EP X j' σ Q) X.xe s
def MtR (X:Cx) (id:String) (r:V→List V→Hp→VK→Prop):Prop :=
 ∀ (j':List (k_×Obj)) (s:h_) (σ:St) (H:Hp) (x:V) (xs:List V) (v:g_) (us:List g_) (Q:VK),Inv X j' σ H s→RelV x v→Vals xs us→r x xs H Q →
  uk (z_ X.prog X.w) X.A (call (.builtin id) (v :: us)) (EP X j' σ Q) X.xe s
section
variable {X:Cx} {a b:F_} {ta tb:TE} {pos:Pos}
theorem IxR.or {r r':R2} (h:IxR X r) (h':IxR X r'):IxR X (fun x y H Q=>r x y H Q∨r' x y H Q):=by
 intro value slice j' s σ H x y v u Q I rx ry q hs;rcases q with q | q
 · exact h value slice j' s σ H x y v u Q I rx ry q hs
 · exact h' value slice j' s σ H x y v u Q I rx ry q hs
theorem MtR.or {id:String} {r r':V→List V→Hp→VK→Prop} (h:MtR X id r) (h':MtR X id r'):MtR X id (fun x xs H Q=>r x xs H Q∨r' x xs H Q):=by
 intro j' s σ H x xs v us Q I rx rs q;rcases q with q | q
 · exact h j' s σ H x xs v us Q I rx rs q
 · exact h' j' s σ H x xs v us Q I rx rs q
theorem Fh {r:R2} (hr:IxR X r) (ha:PE X a ta) (hb:PE X b tb) (hs:rN b):PE X (.Subscript a b pos) (tOp r ta tb):=by
 intro j' s σ H Q I h;exact Subscript_ (EY ha hb I h fun v u s2 x y H2 I2 rx ry q=>hr a b j' s2 σ H2 x y v u Q I2 rx ry q (hs _ _))
def Hu (K:f_):R2:=fun x y H Q=>∃ p xs i v,x=.ref p∧y=.int i∧SqL K H p xs∧atI xs i=a_ v∧Q v H
def Hv (K:f_):R2:=fun x y H Q=>∃ p xs i v,x=.ref p∧y=.int i∧SqT K H p xs∧atI xs i=a_ v∧Q v H
def Hw:R2:=fun x y H Q=>∃ z i c,x=.str z∧y=.int i∧z.length≤sizeLine∧atI z.cps.toList i=a_ c∧Q (.str ⟨#[c]⟩) H
theorem ix_list:IxR X (Hu X.K):=by
 intro value slice j' s σ H x y v u Q I rx ry h hs;obtain ⟨p,xs,i,z,rfl,rfl,hq,he,q⟩:=h;cases rx;obtain ⟨t,rfl⟩:=ry;obtain ⟨its,r,pl,hz⟩:=I.list hq;obtain ⟨j,h1,h2,h3,h4,h5⟩:=ny he;obtain ⟨w,ew,rw'⟩:=r.get h2;have hl:=r.length;have hn:=lP;have fin:EP X j' σ Q w s:=⟨z,H,I,rw',q⟩;by_cases h0:0≤i
 · have hj:i.toNat=j:=by
    rw [QR h0 h5] at h1;exact Jp h1
   exact item_listR pl.isList h0 (by omega) (by rw [hj]; simpa using ew) fin hs
 · have hj:(i + (its.toArray.size:Int)).toNat=j:=by
    rw [seqIndex_neg (by omega) h4] at h1;rw [E_,← hl];exact Jp h1
   exact OA (x:=w) pl.isList.typeIs slot_list_getitem.lookup
    (wpAny_getItem_list_neg (Q:=fun r s'=>r=w∧EP X j' σ Q r s') pl.isList (by omega) (by rw [E_] <;> omega) (by omega) (by rw [hj]; simpa using ew) ⟨rfl,fin⟩) hs
theorem ix_tup:IxR X (Hv X.K):=by
 intro value slice j' s σ H x y v u Q I rx ry h hs;obtain ⟨p,xs,i,z,rfl,rfl,hq,he,q⟩:=h;cases rx;obtain ⟨t,rfl⟩:=ry;obtain ⟨its,r,pl,hz⟩:=I.tuple hq;obtain ⟨j,h1,h2,h3,h4,h5⟩:=ny he;obtain ⟨w,ew,rw'⟩:=r.get h2;have hl:=r.length;have hn:=lP;have fin:EP X j' σ Q w s:=⟨z,H,I,rw',q⟩;exact OA (x:=w) pl.typeIs slot_tuple_getitem.lookup
  (getItem_tuple (j:=j) (Q:=fun r s'=>r=w∧EP X j' σ Q r s') pl (by omega) (by omega) (by rw [E_,← hl]; exact h1) (by simpa using ew) ⟨rfl,fin⟩) hs
theorem Be:IxR X Hw:=by
 intro value slice j' s σ H x y v u Q I rx ry h hs;obtain ⟨z,i,c,rfl,rfl,hz,he,q⟩:=h;obtain ⟨t,rfl⟩:=rx;obtain ⟨t',rfl⟩:=ry;obtain ⟨j,h1,h2,h3,h4,h5⟩:=ny he;have hl:z.cps.toList.length=z.length:=by simp [NK]
 rw [hl] at h1 h4 h5;have hn:=lP;exact tail_any (M5 s z t) slot_str_getitem.lookup (getItem_str (c:=c) (by
  have e1:u_ (i < -(2 ^ 63:Int))=d_:=decide_eq_false (by omega);have e2:u_ (i ≥ 2 ^ 63)=d_:=decide_eq_false (by omega);rw [e1,e2,Bool.or_false]) (by rw [h1]; simpa using h2) ⟨.str ⟨#[c]⟩,H,I.tok _,⟨_,rfl⟩,q⟩) hs
def rIx (K:f_):R2:=fun x y H Q=>Hu K x y H Q∨Hv K x y H Q∨Hw x y H Q
theorem Bf:IxR X (rIx X.K):=ix_list.or (ix_tup.or Be)
theorem qd (its:List g_) (n j:Nat) (u:g_):JD (·.setIfInBounds j u) { cls:=.type "list",data:=.seq its.toArray n }={ cls:=.type "list",data:=.seq (its.set j u).toArray n }:=by
 simp [JD]
theorem Inv.lst {j':List (k_×Obj)} {σ:St} {H:Hp} {s:h_} {p:k_} {xs:List V} (I:Inv X j' σ H s) (h:H p=a_ (.lst xs)) :
 ∃ (its:List g_) (n:Nat),Vals xs its∧s.heap.get? p=a_ { cls:=.type "list",data:=.seq its.toArray n }∧xs.length≤sizeLine:=by
 obtain ⟨z,its,n,r,e⟩:=I.hok p _ h;exact ⟨its,n,r,e,z⟩
theorem Inv.lstUpd {j':List (k_×Obj)} {σ:St} {H:Hp} {s:h_} {p:k_} {xs ys:List V} {its its':List g_} {n n':Nat} {f:Obj→Obj} (I:Inv X j' σ H s) (h:H p=a_ (.lst xs))
 (ho:s.heap.get? p=a_ { cls:=.type "list",data:=.seq its.toArray n }) (hf:f { cls:=.type "list",data:=.seq its.toArray n }={ cls:=.type "list",data:=.seq its'.toArray n' }) (r:Vals ys its') (hz:ys.length≤sizeLine) (t:Nat) :
 Inv X j' σ (upd H p (.lst ys)) { s with heap:=s.heap.update p f,toks:=t }:=by
 have e:(s.heap.update p f).get? p=a_ { cls:=.type "list",data:=.seq its'.toArray n' }:=by
  rw [LY f ho (by rw [hf] <;> rfl),hf]
 refine I.write (x:=p) (e:=p) (by rw [h]; trivial) (.inl rfl) (fun b u hb q=>(MQ _ _ (MU hb)).trans q) ⟨_,e⟩ ?_;exact ⟨hz,its',n',r,e⟩
def Fj:V→V→V→Hp→(Hp→Prop)→Prop:=fun o i v H Q=>∃ p xs k j,o=.ref p∧i=.int k∧H p=a_ (.lst xs)∧ixN xs.length k=a_ j∧Q (upd H p (.lst (xs.set j v)))
theorem vg:Hn X Fj:=by
 intro j' s σ H o i v ov iv u Q I ro ri rv h;obtain ⟨p,xs,k,j,rfl,rfl,hp,hj,q⟩:=h;cases ro;obtain ⟨t,rfl⟩:=ri;obtain ⟨its,n,r,ho,hz⟩:=I.lst hp;obtain ⟨h1,h2,h3,h4⟩:=rM hj;have hl:=r.length;have hn:=lP;have I':Inv X j' σ (upd H p (.lst (xs.set j v))) { s with heap:=s.heap.update p (JD (·.setIfInBounds j u)) } :=
  I.lstUpd hp ho (qd its n j u) (r.set rv j) (by rw [Kq]; exact hz) s.toks
 by_cases h0:0≤k
 · have hk:k.toNat=j:=by
    rw [QR h0 h4] at h1;exact Jp h1
   exact PySem.W.ki_setAt ho h0 (by omega) (by rw [E_,← hl]; exact h4) (by rw [hk]; exact ⟨_,I',q⟩)
 · have hk:(k + (its.toArray.size:Int)).toNat=j:=by
    rw [seqIndex_neg (by omega) h3] at h1;rw [E_,← hl];exact Jp h1
   exact PySem.W.ki_setBack ho (by omega) (by rw [E_,← hl]; exact h3) (by omega) (by rw [hk]; exact ⟨_,I',q⟩)
theorem lV (lo hi:Option Int) (n:Nat):(MC lo hi ck n).1=((HT.sIx n 0 lo:Nat):Int)∧(MC lo hi ck n).2.1=((HT.sIx n n hi:Nat):Int)∧(MC lo hi ck n).2.2=1:=by
 refine ⟨?_,?_,rfl⟩
 · cases lo with
   | none=>simp [MC,HT.sIx]
   | some i =>
    simp only [MC,HT.sIx,QF,show (1:Int) > 0 by decide,if_true];by_cases h:i < 0
    · simp only [h,if_true] <;> omega
    · simp only [h,if_false] <;> omega
 · cases hi with
   | none=>simp [MC,HT.sIx]
   | some i =>
    simp only [MC,HT.sIx,QF,show (1:Int) > 0 by decide,if_true];by_cases h:i < 0
    · simp only [h,if_true] <;> omega
    · simp only [h,if_false] <;> omega
theorem kW (its:List g_) (lo hi:Option Int):slicePick its.toArray lo hi ck=((its.drop (HT.sIx its.length 0 lo)).take (HT.sIx its.length its.length hi - HT.sIx its.length 0 lo)).toArray:=by
 obtain ⟨h1,h2,h3⟩:=lV lo hi its.toArray.size;unfold slicePick;rw [h1,h2,h3];simp only [sliceRange_one,pick_run,E_] <;> rfl
def Iy (K:f_):V→Option Int→Option Int→Hp→VK→Prop:=fun x lo hi H Q=>∃ a xs,x=.ref a∧SqL K H a xs∧∀ p,H p=ck→Q (.ref p) (upd H p (.lst (vf xs lo hi)))
theorem rO:SlR X (Iy X.K):=by
 intro j' s σ H x v vl vu lo hi sl Q I rx hs pl pu h;obtain ⟨a,xs,rfl,hx,q⟩:=h;cases rx;obtain ⟨its,r,ht,hz⟩:=I.list hx;have hlen:=r.length;refine ⟨"list",_,slot_list_getitem.lookup,ht.isList.typeIs,?_⟩;refine wpAny_getItem_list_slice ht.isList hs pl pu .none (by simp) ?_ (by rw [E_] <;> omega);rw [kW,← hlen];refine ⟨.ref s.heap.objs.size,_,I.laid (t':=s.toks) (o:=.lst (vf xs lo hi)) (fun b ob q=>i_ _ q) (r_ _) ?_,rfl,q _ (I.hok.fresh (r_ _))⟩;exact ⟨Jy (jJ xs lo hi) hz,_,0,(r.drop (HT.sIx xs.length 0 lo)).take (HT.sIx xs.length xs.length hi - HT.sIx xs.length 0 lo),s_ _ rfl⟩
def h8:V→Bool
 | .non=>e_
 | .bl _=>e_
 | .int _=>e_
 | .str _=>e_
 | _=>d_
def eqV:V→V→Bool
 | .non,.non=>e_
 | .bl a,.bl b=>a == b
 | .bl a,.int b=>(if a then 1 else 0) == b
 | .int a,.bl b=>a == (if b then 1 else 0)
 | .int a,.int b=>a == b
 | .str a,.str b=>a == b
 | _,_=>d_
theorem Bg {A:D_} {s:h_} {y x:V} {u v:g_} (ry:RelV y u) (rx:RelV x v) (fy:h8 y=e_) (fx:h8 x=e_):SeqAt.EqAt A s u v (eqV y x):=by
 cases y with
 | non =>
  cases ry;cases x with
  | non=>cases rx; exact QV _
  | bl b=>cases rx; exact O6 b
  | int b=>obtain ⟨t,rfl⟩:=rx; exact Pu b t
  | str b=>obtain ⟨t,rfl⟩:=rx; exact Ps b t
  | _=>exact absurd (show d_=e_ from fx) xy
 | bl a =>
  cases ry;cases x with
  | non=>cases rx; exact O7 a
  | bl b=>cases rx; exact O8 a b
  | int b=>obtain ⟨t,rfl⟩:=rx; exact Py a b t
  | str b=>obtain ⟨t,rfl⟩:=rx; exact Px a b t
  | _=>exact absurd (show d_=e_ from fx) xy
 | int a =>
  obtain ⟨t',rfl⟩:=ry;cases x with
  | non=>cases rx; exact Pv a t'
  | bl b=>cases rx; exact Pw a t' b
  | int b=>obtain ⟨t,rfl⟩:=rx; exact PY a t' b t
  | str b=>obtain ⟨t,rfl⟩:=rx; exact NM a t' b t
  | _=>exact absurd (show d_=e_ from fx) xy
 | str a =>
  obtain ⟨t',rfl⟩:=ry;cases x with
  | non=>cases rx; exact Pq a t'
  | bl b=>cases rx; exact Pr a t' b
  | int b=>obtain ⟨t,rfl⟩:=rx; exact NL a t' b t
  | str b=>obtain ⟨t,rfl⟩:=rx; exact PX a t' b t
  | _=>exact absurd (show d_=e_ from fx) xy
 | _=>exact absurd (show d_=e_ from fy) xy
def eqU (x:V) (u:g_):Bool:=match u with
 | .none=>eqV .non x
 | .bool b=>eqV (.bl b) x
 | .int i _=>eqV (.int i) x
 | .str z _=>eqV (.str z) x
 | _=>d_
theorem rP {x y:V} {u:g_} (r:RelV y u) (f:h8 y=e_):eqU x u=eqV y x:=by
 cases y with
 | non=>cases r; rfl
 | bl b=>cases r; rfl
 | int i=>obtain ⟨t,rfl⟩:=r; rfl
 | str z=>obtain ⟨t,rfl⟩:=r; rfl
 | _=>exact absurd (show d_=e_ from f) xy
theorem jK {x:V}:∀ {xs:List V} {us:List g_},Vals xs us→xs.all h8=e_→us.any (eqU x)=xs.any fun y=>eqV y x
 | _,_,.nil,_=>rfl
 | y :: xs,u :: us,.cons r t,f=>by
  rw [LW,on] at f;rw [Nd,Nd,rP r f.1,jK t f.2]
theorem gL {A:D_} {s:h_} {x:V} {v:g_} (rx:RelV x v) (fx:h8 x=e_):∀ {xs:List V} {us:List g_},Vals xs us→xs.all h8=e_→∀ u∈us,SeqAt.EqAt A s u v (eqU x u)
 | _,_,.nil,_=>fun u hu=>by cases hu
 | y :: xs,u :: us,.cons r t,f=>fun u' hu=>by
  rw [LW,on] at f;rcases w_.mp hu with rfl | hu
  · rw [rP r f.1]; exact Bg r rx f.1 fx
  · exact gL rx fx t f.2 u' hu
def inV (x:V) (xs:List V):Bool:=xs.any fun y=>eqV y x
def rIn (K:f_) (neg:Bool):R2:=fun x y H Q=>∃ p xs,y=.ref p∧(SqL K H p xs∨SqT K H p xs)∧h8 x=e_∧xs.all h8=e_∧Q (.bl (if neg then !inV x xs else inV x xs)) H
theorem rQ:OpR X (JL .In) (rIn X.K d_):=by
 intro j' s σ H x y v u Q I rx ry h;obtain ⟨p,xs,rfl,hq,fx,fs,q⟩:=h;cases ry;rcases hq with hq | hq
 · obtain ⟨its,r,pl,hz⟩:=I.list hq;refine SeqAt.in_listAt (eqU x) pl.isList (fun w hw=>gL rx fx r fs w (by simpa using hw)) ⟨.bl _,H,I,rfl,?_⟩;rw [show its.toArray.any (eqU x)=its.any (eqU x) by simp,jK r fs];exact q
 · obtain ⟨its,r,pl,hz⟩:=I.tuple hq;refine SeqAt.in_tupleAt (eqU x) pl (fun w hw=>gL rx fx r fs w (by simpa using hw)) ⟨.bl _,H,I,rfl,?_⟩;rw [show its.toArray.any (eqU x)=its.any (eqU x) by simp,jK r fs];exact q
theorem lW:OpR X (JL .NotIn) (rIn X.K e_):=by
 intro j' s σ H x y v u Q I rx ry h;obtain ⟨p,xs,rfl,hq,fx,fs,q⟩:=h;cases ry;rcases hq with hq | hq
 · obtain ⟨its,r,pl,hz⟩:=I.list hq;refine SeqAt.notIn_listAt (eqU x) pl.isList (fun w hw=>gL rx fx r fs w (by simpa using hw)) ⟨.bl _,H,I,rfl,?_⟩;rw [show its.toArray.any (eqU x)=its.any (eqU x) by simp,jK r fs];exact q
 · obtain ⟨its,r,pl,hz⟩:=I.tuple hq;refine SeqAt.notIn_tupleAt (eqU x) pl (fun w hw=>gL rx fx r fs w (by simpa using hw)) ⟨.bl _,H,I,rfl,?_⟩;rw [show its.toArray.any (eqU x)=its.any (eqU x) by simp,jK r fs];exact q
theorem op_notIn_str:OpR X (JL .NotIn) (fun x y H Q=>∃ i j,x=.str i∧y=.str j∧Q (.bl (!(!(Jx j i 0 j.length 1).isEmpty))) H):=by
 intro j' s σ H x y v u Q I rx ry h;obtain ⟨i,j,rfl,rfl,q⟩:=h;obtain ⟨t,rfl⟩:=rx;obtain ⟨t',rfl⟩:=ry;exact notIn_str ⟨.bl _,H,I,rfl,q⟩
theorem CallR.or {f:g_} {r r':List V→Hp→VK→Prop} (h:CallR X f r) (h':CallR X f r'):CallR X f (fun xs H Q=>r xs H Q∨r' xs H Q):=by
 intro j' s σ H xs us Q I rs q;rcases q with q | q
 · exact h j' s σ H xs us Q I rs q
 · exact h' j' s σ H xs us Q I rs q
theorem kX:CallR X (.type "tuple") (fun xs H Q=>∃ p ys,xs=[.ref p]∧((SqL X.K H p ys∧∀ l,H l=ck→Q (.ref l) (upd H l (.tup ys)))∨(SqT X.K H p ys∧Q (.ref p) H))):=by
 intro j' s σ H xs us Q I r h;obtain ⟨p,ys,rfl,h⟩:=h;obtain ⟨u,rfl,rx⟩:=fg r;cases rx;rcases h with ⟨hq,q⟩ | ⟨hq,q⟩
 · obtain ⟨its,r',pl,hz⟩:=I.list hq;have hlen:=r'.length;refine call_tuple_list pl.isList (fun h' kp=>?_) (by simp only [E_] <;> omega);have I1:Inv X j' σ H { s with heap:=h' }:=I.kept (t':=s.toks) kp;have I2:Inv X j' σ (upd H h'.objs.size (.tup ys)) { s with heap:=h'.push { cls:=.type "tuple",data:=.seq its.toArray } } :=
    I1.laid (t':=s.toks) (fun b o e=>i_ _ e) (r_ _) (show ObjOk X.prog X.w _ _ _ (.tup ys) from ⟨hz,its,r',Rp _ _⟩)
   exact ⟨.ref h'.objs.size,_,I2,rfl,q _ (I1.hok.fresh (r_ _))⟩
 · obtain ⟨its,r',pl,hz⟩:=I.tuple hq;exact call_tuple_same pl ⟨.ref p,H,I,rfl,q⟩
def tyV (K:f_) (T:String) (x:V) (H:Hp):Prop:=match x with
 | .str _=>T="str"
 | .int _=>T="int"
 | .ref p=>(T="list"∧∃ xs,SqL K H p xs)∨(T="tuple"∧∃ o,K.lookup p=a_ o∧o.cls=.type "tuple"∧o.dict=ck) ∨
  (T="dict"∧((∃ kvs,H p=a_ (.dK kvs))∨∃ kvs,H p=a_ (.dT kvs)))∨(T="set"∧∃ S n,H p=a_ (.set S n))
 | _=>False
theorem Bh {j':List (k_×Obj)} {σ:St} {H:Hp} {s:h_} {T:String} {x:V} {v:g_} (I:Inv X j' σ H s) (r:RelV x v) (ty:tyV X.K T x H) :
 s.TypeIs v T∧∀ a,v=.ref a→∃ ob,s.heap.get? a=a_ ob∧ob.dict=ck:=by
 cases x with
 | str z =>
  obtain ⟨t,rfl⟩:=r;cases (show T="str" from ty);exact ⟨M5 s z t,fun _ e=>nomatch e⟩
 | int i =>
  obtain ⟨t,rfl⟩:=r;cases (show T="int" from ty);exact ⟨typeIs_int s i t,fun _ e=>nomatch e⟩
 | ref p =>
  cases r;rcases ty with ⟨rfl,xs,hq⟩ | ⟨rfl,o,hk,hc,hd⟩ | ⟨rfl,hk⟩ | ⟨rfl,S,n,hk⟩
  · obtain ⟨its,_,pl,_⟩:=I.list hq;refine ⟨pl.isList.typeIs,fun a e=>?_⟩;cases e;obtain ⟨o,n,e,c,hd,_⟩:=pl;exact ⟨o,e,hd⟩
  · refine ⟨⟨o,I.kIn p o hk,hc⟩,fun a e=>?_⟩;cases e;exact ⟨o,I.kIn _ o hk,hd⟩
  · have z:∃ o,s.heap.get? p=a_ o∧o.ExactDict:=by
     rcases hk with ⟨kvs,hk⟩ | ⟨kvs,hk⟩
     · obtain ⟨_,_,_,_,o,_,_,e,ex,_⟩:=I.hok p _ hk;exact ⟨o,e,ex⟩
     · obtain ⟨_,_,_,_,o,_,_,e,ex,_⟩:=I.hok p _ hk;exact ⟨o,e,ex⟩
    obtain ⟨o,e,ex⟩:=z;refine ⟨⟨o,e,ex.1⟩,fun a e2=>?_⟩;cases e2;exact ⟨o,e,ex.2.1⟩
  · obtain ⟨o,_,_,_,e,ex,_⟩:=I.hok p _ hk;refine ⟨⟨o,e,ex.1⟩,fun a e2=>?_⟩;cases e2;exact ⟨o,e,ex.2.1⟩
 | _=>exact JK ty
def tBM (K:f_) (T:String) (r:V→List V→Hp→VK→Prop) (to:TE) (t:TA):TE:=fun σ H Q=>to σ H fun x H1=>tyV K T x H1∧t σ H1 fun xs H2=>r x xs H2 Q
variable {o e:F_} {es:List F_} {to:TE} {t:TA} {name:Str} {apos cpos:Pos} {T id:String} {r:V→List V→Hp→VK→Prop}
theorem yg (pa:PlainAttrs T) (slot:Slot T name id) (hty:typeOf (.builtin id)=pure (.type "method_descriptor")) (hm:MtR X id r) (ho:PE X o to) (ha:PA X (e :: es) t)
 (hbase:Mq o name X.env (eval o X.env)=eval o X.env:=by rfl)
 (hfew:((JV cpos (l_ (e :: es) X.env)).all (fun x=>!x.1) && (L8 cpos (KQ [] X.env)).all (fun x=>x.1.isSome)
   && u_ ((e :: es).length + ([]:List L5).length + (if ([]:List L5).isEmpty then 0 else 1) < 30))=e_:=by rfl)
 (hline:(apos.endLine == cpos.line)=e_:=by rfl) (hs:l_ (e :: es) X.env=(d_,eval e X.env) :: l_ es X.env:=by rfl) (hplain:(JV cpos (l_ es X.env)).any (·.1)=d_:=by rfl) :
 PE X (.Call (.Attribute o name apos) (e :: es) [] cpos) (tBM X.K T r to t):=by
 intro j' s σ H Q I h;refine wpAny_Call_method_late hbase hfew hline rfl (thn (ho j' s σ H _ I h) fun v s1 ⟨x,H1,I1,r1,ty,q1⟩=>?_);obtain ⟨h1,h2⟩:=Bh I1 r1 ty;refine ⟨T,id,pa,slot,hty,h1,h2,?_⟩;have hA:=ha cpos j' s1 σ H1 _ I1 q1;rw [hs] at hA ⊢;refine Calls.callWith_builtin (by show (d_ || (JV cpos (l_ es X.env)).any (·.1))=d_; rw [hplain] <;> rfl) (Pd ?_);exact thn hA fun us s2 ⟨vs,H2,I2,r2,q2⟩=>hm j' s2 σ H2 x vs v us Q I2 r1 r2 q2
end
def MtM (X:Cx) (id:String) (r:V→List V→Hp→VK→Prop):Prop :=
 ∀ (j':List (k_×Obj)) (s:h_) (σ:St) (H:Hp) (x:V) (xs:List V) (v:g_) (us:List g_) (Q:VK),Inv X j' σ H s→RelV x v→Vals xs us→r x xs H Q →
  uk (z_ X.prog X.w) X.A (call (.builtin id) (v :: us)) (EP X j' σ Q) X.xe s
theorem Vals.one:∀ {x:V} {us:List g_},Vals [x] us→∃ u,us=[u]∧RelV x u
 | _,_,.cons r .nil=>⟨_,rfl,r⟩
theorem Vals.two:∀ {x y:V} {us:List g_},Vals [x,y] us→∃ u v,us=[u,v]∧RelV x u∧RelV y v
 | _,_,_,.cons r (.cons q .nil)=>⟨_,_,rfl,r,q⟩
theorem Vals.zero:∀ {us:List g_},Vals [] us→us=[]
 | _,.nil=>rfl
theorem Vals.reverse {xs:List V} {us:List g_} (h:Vals xs us):Vals xs.reverse us.reverse:=by
 induction h with
 | nil=>exact .nil
 | cons r t ih=>rw [Lk,Lk]; exact Vals.append ih (.cons r .nil)
section
variable {X:Cx} {j':List (k_×Obj)} {σ:St} {H:Hp} {s:h_} {l b:k_} {xs ys zs:List V}
theorem Inv.lset {its its':List g_} {n:Nat} {f:Array g_→Array g_} {t':Nat} (I:Inv X j' σ H s) (hH:H l=a_ (.lst xs))
 (e:s.heap.get? l=a_ { cls:=.type "list",data:=.seq its.toArray n }) (hf:f its.toArray=its'.toArray) (hv:Vals ys its') (hz:ys.length≤sizeLine) :
 Inv X j' σ (upd H l (.lst ys)) { s with heap:=s.heap.update l (JD f),toks:=t' }:=by
 have q:=Qz e f;rw [hf] at q;refine I.write (x:=l) (e:=l) (by rw [hH]; exact trivial) (.inl rfl) (fun b' u hb hu=>(MQ s.heap (JD f) (MU hb)).trans hu) ⟨_,q⟩ ?_;exact ⟨hz,its',_,hv,q⟩
theorem Inv.lnew {its:List g_} {t':Nat} (I:Inv X j' σ H s) (hv:Vals ys its) (hz:ys.length≤sizeLine) :
 Inv X j' σ (upd H s.heap.objs.size (.lst ys)) { s with heap:=s.heap.push { cls:=.type "list",data:=.seq its.toArray },toks:=t' } :=
 I.laid (fun _ _ q=>i_ _ q) (r_ _) ⟨hz,its,0,hv,s_ _ rfl⟩
theorem Inv.fresh (I:Inv X j' σ H s):H s.heap.objs.size=ck:=I.hok.fresh (r_ _)
theorem Inv.lstM (I:Inv X j' σ H s) (hH:H l=a_ (.lst xs)):xs.length≤sizeLine∧∃ (its:List g_) (n:Nat),Vals xs its∧xs.length=its.length∧s.heap.get? l=a_ { cls:=.type "list",data:=.seq its.toArray n }:=by
 obtain ⟨z,its,n,r,e⟩:=I.hok l _ hH;exact ⟨z,its,n,r,r.length,e⟩
end
section
variable {X:Cx}
def yh:V→List V→Hp→VK→Prop:=fun x vs H Q=>∃ l xs y,x=.ref l∧vs=[y]∧H l=a_ (.lst xs)∧xs.length < sizeLine∧Q .non (upd H l (.lst (xs ++ [y])))
theorem rR:MtM X "list.append" yh:=by
 intro j' s σ H x vs v us Q I rx rv h;obtain ⟨l,xs,y,rfl,rfl,hH,hz,q⟩:=h;cases rx;obtain ⟨u,rfl,ru⟩:=rv.one;obtain ⟨z,its,n,r,hl,e⟩:=I.lstM hH;refine M6 Ng ⟨_,e,rfl⟩ Pz (Pb _ _) (P_ l its.toArray n u (by rw [E_]; omega)) ⟨e,?_⟩;refine ⟨.non,_,I.lset (its':=its ++ [u]) hH e (by simp) (r.append (.cons ru .nil)) ?_,rfl,q⟩;rw [Kf,OS];omega
def Hx:R2:=fun x y H Q=>∃ l b xs zs,x=.ref l∧y=.ref b∧H l=a_ (.lst xs)∧H b=a_ (.lst zs)∧xs.length + zs.length≤sizeLine∧∀ p,H p=ck→Q (.ref p) (upd H p (.lst (xs ++ zs)))
theorem Bi:OpR X (Lg .Add) Hx:=by
 intro j' s σ H x y v u Q I rx ry h;obtain ⟨l,b,xs,zs,rfl,rfl,hH,hB,hz,q⟩:=h;cases rx;cases ry;obtain ⟨z,its,n,r,hl,e⟩:=I.lstM hH;obtain ⟨z2,its2,n2,r2,hl2,e2⟩:=I.lstM hB;refine PySem.P.add_list e e2 ?_ (by rw [E_,E_]; omega);have ea:its.toArray ++ its2.toArray=(its ++ its2).toArray:=by simp
 rw [ea];exact ⟨.ref _,_,I.lnew (t':=s.toks) (r.append r2) (by rw [Kf]; omega),rfl,q _ I.fresh⟩
end
section
variable {prog:rl} {w:C_} {A:D_} {E:g_→h_→Prop} {s:h_}
end
section
variable {X:Cx}
end
end L2
namespace Att
open PySem PySem.W PySem.Calls PyProof.Rows
theorem jL {P:Nm} {h:H_}:∀ (ns:List Int) (vs:List g_),WellAll P h vs (ns.map WData.int)→OC vs ns:=by
 intro ns
 induction ns with
 | nil =>
  intro vs w;rw [List.map_nil] at w;cases w;exact .nil
 | cons n ns ih =>
  intro vs w;rw [Ju] at w;cases w with
  | cons a b =>
   cases a;exact .cons _ _ (ih _ b)
theorem rS {l:OpenLaw} {n:Nat} (hn:l.most=a_ n) {P:Nm} {h:H_} {args:List WData} {vals:List g_}
 (hpre:l.row.toRowW.claim.pre args=e_) (hwl:WellAll P h vals args) :
 ∃ a vs ns,vals=[q_ a]∧args=[WData.list (ns.map WData.int)]∧h.get? a=a_ { cls:=.type "list",data:=.seq vs.toArray }∧OC vs ns∧ns.length≤n:=by
 have hsh:WShape.hasAll [] args [.list .int]=e_:=(pre_splitW hpre).1;have hc:l.pre.holds [] { args:=args }=e_:=(pre_splitW hpre).2;obtain ⟨d,r,rfl,h1,h2⟩:=hasAllW_cons hsh;obtain rfl:=hasAllW_nil h2;obtain ⟨xs,rfl,h3⟩:=hasW_list h1;obtain ⟨ns,rfl⟩:=items_int h3;have hlen:ns.length≤n:=by
  unfold OpenLaw.pre at hc;have h4:(WTm.not (.lt (.lit (.int (n:Int))) (.len (.arg 0)))).holds [] { args:=[.list (ns.map .int)] }=e_:=by
   have h4:=(holds_andW hc).1;rw [hn] at h4;exact h4
  have h5:=condW_of h4 (w_not (w_lt w_lit (w_len_list (w_arg rfl))));rw [Jo] at h5;refine Nat.le_of_not_lt fun q=>?_;have q':(n:Int) < ((ns.length:Nat):Int):=by omega
  first
   | (rw [decide_eq_true q'] at h5; exact absurd h5 (by decide))
   | (simp at h5; omega)
 cases hwl with
 | cons w1 w2 =>
  cases w2;cases w1 with
  | list ho hall=>exact ⟨_,_,ns,rfl,rfl,ho,jL ns _ hall,hlen⟩
theorem rT (l:OpenLaw) (args:List WData):l.row.toRowW.claim.post args (.bool e_) args=e_ :=
 postW_of (r:=l.row.toRowW) (X:=(e_ == e_))
  (show WShape.has [] (.bool e_) .bool=e_ by first | rfl | decide | simp [WShape.has,WShape.arms,WShape.armsAll])
  (show (WTm.eq .res (.lit (.bool e_))).value [] { args:=args,res:=a_ (.bool e_),after:=args }=a_ (.bool (e_ == e_)) from w_eq_bool (w_res rfl) w_lit) rfl
theorem attach_call {l:OpenLaw} {n:Nat} {q:rl} {loose:List Str} {XP:(Str→Option g_)→H_→Prop} {YP:C_→H_→Prop} {d:DefRec}
 (hn:l.most=a_ n) (hdf:d.params.defaults=[])
 (call:∀ (w:C_) (s₀ s₁:h_) (mg mb:Str→Option g_) (fa:k_) (o:Obj) (pm cd doc:g_) (a:k_) (vs:List g_) (ns:List Int),
   Ground q loose [] XP w s₀ mg mb s₁.heap→YP w s₁.heap →
   s₁.heap.get? fa=a_ o→o.data=.func (docDef d.name d.params d.body d.scope pm cd doc)→s₁.heap.CodeRec cd d.name→mg d.name=a_ (.ref fa) →
   s₁.heap.get? a=a_ { cls:=.type "list",data:=.seq vs.toArray }→OC vs ns→ns.length≤n→s₁.gens=#[] →
   L4 (z_ l.prog w) Pl (.call (.ref fa) ⟨[.ref a],[]⟩) (fun r s'=>r=.ok (.ret (.bool e_))∧OldK s₁.heap s'.heap∧s'.os=s₁.os∧NA s'.gens) s₁) :
 WalkO q loose XP YP l.row.toRowW d [] (fun f vs=>Q5 f vs):=by
 intro w s₀ s₁ mg mb G Y fa o pm cd doc dV kV ho hd hcd hD hmg hg args vals as hpre hlay hrd hwl hlo;obtain rfl:dV=.none:=Dflts.none hD hdf;obtain rfl:kV=.none:=Dflts.noKw hD;obtain ⟨a,vs,ns,rfl,rfl,hobj,hints,hlen⟩:=rS hn hpre hwl;refine enter_call (LG (call w s₀ s₁ mg mb fa o pm cd doc a vs ns G Y ho (fd_plain hd) hcd hmg hobj hints hlen hg) fun r s' hq=>?_);obtain ⟨rfl,h2,h3,h4⟩:=hq;exact ⟨.inl ⟨.bool e_,.bool e_,[],rfl,fun _=>rfl,.bool e_,rT l _,fun _=>⟨N4,fun _ hm=>(nomatch hm)⟩⟩,h2,h3,h4⟩
section
variable {prog:rl} {w:C_} {A:D_} {E:g_→h_→Prop} {s:h_} {K:Frag}
def Hy (h:H_) (L d:k_):List (k_×Obj):=(pi h.objs.size).filterMap fun a=>if a=L∨a=d then ck else (h.get? a).map fun o=>(a,o)
end
end Att
namespace L2
open PySem PySem.Spec PyProof.Rows
theorem iq:∀ {vs:List g_} {ns:List Int},OC vs ns→Vals (ns.map V.int) vs
 | _,_,.nil=>.nil
 | _,_,.cons n t h=>.cons ⟨t,rfl⟩ (iq h)
def iQ (s:Ky):Arguments:=match s with
 | .FunctionDef _ a _ _ _ _ _ _ _ _=>a
 | _=>{ posonlyargs:=[],args:=[],vararg:=ck,kwonlyargs:=[],kw_defaults:=[],kwarg:=ck,defaults:=[] }
def cM (s:Ky):List Ky:=match s with
 | .FunctionDef _ _ b _ _ _ _ _ _ _=>b
 | _=>[]
def aF (s:Ky):Kz:=match s with
 | .FunctionDef _ _ _ _ _ _ sc _ _ _=>sc
 | _=>{ kind:=.function,names:=[],isGenerator:=d_,isCoroutine:=d_ }
abbrev CX0:CXT:=fun _ _ _ _ _ _=>False
abbrev E0:XK:=fun _ _ _=>False
theorem Fk {X:Cx}:o9 CX0 X E0:=fun _ _ _ _ _ _ _ h=>h.elim
structure Fun (K:f_) (x qual:Str) (st:Ky) (f:k_) (fd:JZ):Prop where
 ex:∃ (oc:g_) (od:Option k_) (kV doc pm:g_) (an:Option k_) (cdv ct:g_) (osl:Array (Option g_)),
  fd=LK x qual (iQ st) (cM st) (aF st) .none kV doc pm an cdv ct∧K.lookup f=a_ ⟨oc,od,.func fd,osl⟩∧NI K cdv qual=e_
 kp:Ka K (.ref f)=e_
section
variable {P:rl} {w:C_} {K:f_} {mg:Str→Option g_} {base:H_}
theorem Fun.ok {x qual:Str} {st:Ky} {f:k_} {fd:JZ} {N ps:List Str} {k:Nat} {sp:Sp} (F:Fun K x qual st f fd) (S:dO N ps (aF st)) (len:∀ vs H Q E,sp vs H Q E→vs.length=ps.length)
 (hbody:∀ (cdv:g_) (A:D_) (outer:List Env) (s:h_) (H:Hp) (vs:List V) (Q:VK) (E:XK),Room k (A.deeper (LN qual (aF st) s.heap.objs.size f cdv))→sp vs H Q E →
   ∃ t,PSs (kU CX0 P w K mg base N qual (aF st) f cdv A outer s H E).nox (cM st) t∧t { nx:=fun _ H'=>Q .non H',rt:=Q } (start N vs) H):FnOk P w K mg base CX0 (k + 1) f fd ps sp:=by
 obtain ⟨oc,od,kV,doc,pm,an,cdv,ct,osl,rfl,lk,hcd⟩:=F.ex;refine vd lk hcd S len fun A outer s H vs Q E hr hsp=>?_;obtain ⟨t,h,q⟩:=hbody cdv A outer s H vs Q E hr hsp;exact ⟨t,h.nox,q⟩
theorem Fun.binds {x qual:Str} {st:Ky} {f:k_} {fd:JZ} {ps:List Str} (F:Fun K x qual st f fd)
 (h:∀ (kV doc pm:g_) (an:Option k_) (cdv ct:g_) (us:List g_),us.length=ps.length→O2 (LK x qual (iQ st) (cM st) (aF st) .none kV doc pm an cdv ct) ⟨us,[]⟩=pure (ps.zip us)):Binds K fd ps []:=by
 obtain ⟨oc,od,kV,doc,pm,an,cdv,ct,osl,rfl,lk,hcd⟩:=F.ex;exact .all (h kV doc pm an cdv ct)
theorem Bj {x qual:Str} {st:Ky} {f:k_} {oc:g_} {od an:Option k_} {osl:Array (Option g_)} {kV doc pm cdv ct:g_} (l:K.lookup f=a_ ⟨oc,od,.func (LK x qual (iQ st) (cM st) (aF st) .none kV doc pm an cdv ct),osl⟩)
 (c:NI K cdv qual=e_) (k:Ka K (.ref f)=e_):Fun K x qual st f (LK x qual (iQ st) (cM st) (aF st) .none kV doc pm an cdv ct):=⟨⟨oc,od,kV,doc,pm,an,cdv,ct,osl,rfl,l,c⟩,k⟩
end
section
variable {X:Cx}
end
theorem wY {A B:Prop} (h:B):if d_=e_ then A else B:=by
 rw [if_neg xy];exact h
theorem wZ {A B:Prop} (h:A):if e_=e_ then A else B:=by
 rw [if_pos rfl];exact h
def Same (H H':Hp):Prop:=∀ b o,H b=a_ o→H' b=a_ o
theorem Same.refl (H:Hp):Same H H:=fun _ _ h=>h
theorem Same.trans {H H1 H2:Hp} (a:Same H H1) (b:Same H1 H2):Same H H2:=fun c o h=>b c o (a c o h)
theorem Same.free {H H':Hp} (e:Same H H') {l:k_} (h:H' l=ck):H l=ck:=by
 cases q:H l with
 | none=>rfl
 | some o =>
  rw [e l o q] at h;cases h
theorem Same.seq {K:f_} {H H':Hp} {a:k_} {xs:List V} (e:Same H H') (h:SqL K H a xs):SqL K H' a xs:=by
 rcases h with (h | ⟨o,h⟩) | h
 · exact .inl (.inl (e _ _ h))
 · exact .inl (.inr ⟨o,e _ _ h⟩)
 · exact .inr h
end L2
namespace FD
open PySem PySem.Spec PyProof.Rows L2
inductive Dv where
 | non | bl (b:Bool) | int (i:Int) | str (x:Str) | tup (xs:List Dv) | lst (xs:List Dv) | scr (ns:List Int) | exn (c:Nat)
def xnm:Nat→Str
 | 0=>"NoName" | 1=>"NoTable" | 2=>"NoPath" | 3=>"NoAsk" | 4=>"NoNote" | 5=>"NoJar" | 6=>"NoNumber" | 7=>"NoText" | 8=>"NoStep" | _=>"JarError"
mutual
def Rep (K:f_) (H:Hp):Dv→V→Prop
 | .non,v=>v=.non
 | .bl b,v=>v=.bl b
 | .int i,v=>v=.int i
 | .str x,v=>v=.str x
 | .tup ds,v=>∃ a xs,v=.ref a∧H a=a_ (.tup xs)∧Reps K H ds xs
 | .lst ds,v=>∃ a xs,v=.ref a∧H a=a_ (.lst xs)∧Reps K H ds xs
 | .scr ns,v=>∃ a,v=.ref a∧SqL K H a (ns.map V.int)
 | .exn c,v=>∃ a o u C,v=.ref a∧H a=a_ (.frz o u)∧o.cls=.ref C∧KN K y_ (xnm c)=a_ (a_ (.ref C))
def Reps (K:f_) (H:Hp):List Dv→List V→Prop
 | [],vs=>vs=[]
 | d :: ds,vs=>∃ v us,vs=v :: us∧Rep K H d v∧Reps K H ds us
end
section
variable {K:f_} {H H':Hp}
mutual
theorem Rep.mono (e:Same H H'):∀ (d:Dv) (v:V),Rep K H d v→Rep K H' d v
 | .non,_,h=>h
 | .bl _,_,h=>h
 | .int _,_,h=>h
 | .str _,_,h=>h
 | .tup ds,v,h=>by
  obtain ⟨a,xs,r,h,q⟩:∃ a xs,v=.ref a∧H a=a_ (.tup xs)∧Reps K H ds xs:=h;exact ⟨a,xs,r,e _ _ h,Reps.mono e ds xs q⟩
 | .lst ds,v,h=>by
  obtain ⟨a,xs,r,h,q⟩:∃ a xs,v=.ref a∧H a=a_ (.lst xs)∧Reps K H ds xs:=h;exact ⟨a,xs,r,e _ _ h,Reps.mono e ds xs q⟩
 | .scr ns,v,h=>by
  obtain ⟨a,r,h⟩:∃ a,v=.ref a∧SqL K H a (ns.map V.int):=h;exact ⟨a,r,e.seq h⟩
 | .exn c,v,h=>by
  obtain ⟨a,o,u,C,r,h,q⟩:∃ a o u C,v=.ref a∧H a=a_ (.frz o u)∧o.cls=.ref C∧KN K y_ (xnm c)=a_ (a_ (.ref C)):=h;exact ⟨a,o,u,C,r,e _ _ h,q⟩
theorem Reps.mono (e:Same H H'):∀ (ds:List Dv) (vs:List V),Reps K H ds vs→Reps K H' ds vs
 | [],_,h=>h
 | d :: ds,vs,h=>by
  obtain ⟨v,us,r,h,q⟩:∃ v us,vs=v :: us∧Rep K H d v∧Reps K H ds us:=h;exact ⟨v,us,r,Rep.mono e d v h,Reps.mono e ds us q⟩
end
theorem Reps.nil:Reps K H [] []:=rfl
theorem Reps.cons {d ds v vs} (h:Rep K H d v) (t:Reps K H ds vs):Reps K H (d :: ds) (v :: vs):=⟨v,vs,rfl,h,t⟩
theorem Reps.length:∀ {ds:List Dv} {vs:List V},Reps K H ds vs→vs.length=ds.length
 | [],vs,h=>by cases (show vs=[] from h); rfl
 | d :: ds,vs,h=>by
  obtain ⟨v,us,r,_,q⟩:∃ v us,vs=v :: us∧Rep K H d v∧Reps K H ds us:=h;subst r;show us.length + 1=ds.length + 1;rw [Reps.length q]
theorem Reps.get:∀ {ds:List Dv} {vs:List V} {i:Nat} {v:V},Reps K H ds vs→vs[i]?=a_ v→∃ d,ds[i]?=a_ d∧Rep K H d v
 | [],vs,i,v,h,e=>by cases (show vs=[] from h); simp at e
 | d :: ds,vs,i,v,h,e=>by
  obtain ⟨v',us,r,h',q⟩:∃ v us,vs=v :: us∧Rep K H d v∧Reps K H ds us:=h;subst r;cases i with
  | zero=>simp at e; subst e; exact ⟨d,rfl,h'⟩
  | succ i =>
   obtain ⟨d',e',r'⟩:=Reps.get (i:=i) q (by simpa using e);exact ⟨d',by simpa using e',r'⟩
theorem Reps.get':∀ {ds:List Dv} {vs:List V} {i:Nat} {d:Dv},Reps K H ds vs→ds[i]?=a_ d→∃ v,vs[i]?=a_ v∧Rep K H d v
 | [],vs,i,v,h,e=>by simp at e
 | d :: ds,vs,i,d0,h,e=>by
  obtain ⟨v',us,r,h',q⟩:∃ v us,vs=v :: us∧Rep K H d v∧Reps K H ds us:=h;subst r;cases i with
  | zero=>simp at e; subst e; exact ⟨v',rfl,h'⟩
  | succ i =>
   obtain ⟨d',e',r'⟩:=Reps.get' (i:=i) q (by simpa using e);exact ⟨d',by simpa using e',r'⟩
theorem Reps.append:∀ {ds es:List Dv} {vs us:List V},Reps K H ds vs→Reps K H es us→Reps K H (ds ++ es) (vs ++ us)
 | [],es,vs,us,h,q=>by cases (show vs=[] from h); exact q
 | d :: ds,es,vs,us,h,q=>by
  obtain ⟨v',vs',r,h',t⟩:∃ v us,vs=v :: us∧Rep K H d v∧Reps K H ds us:=h;subst r;exact ⟨v',vs' ++ us,rfl,h',Reps.append t q⟩
theorem Reps.take:∀ {ds:List Dv} {vs:List V} (n:Nat),Reps K H ds vs→Reps K H (ds.take n) (vs.take n)
 | ds,vs,0,_=>by simp [Reps]
 | [],vs,n + 1,h=>by cases (show vs=[] from h); exact rfl
 | d :: ds,vs,n + 1,h=>by
  obtain ⟨v',vs',r,h',t⟩:∃ v us,vs=v :: us∧Rep K H d v∧Reps K H ds us:=h;subst r;exact ⟨v',vs'.take n,rfl,h',Reps.take n t⟩
theorem Reps.drop:∀ {ds:List Dv} {vs:List V} (n:Nat),Reps K H ds vs→Reps K H (ds.drop n) (vs.drop n)
 | ds,vs,0,h=>h
 | [],vs,n + 1,h=>by cases (show vs=[] from h); exact rfl
 | d :: ds,vs,n + 1,h=>by
  obtain ⟨v',vs',r,h',t⟩:∃ v us,vs=v :: us∧Rep K H d v∧Reps K H ds us:=h;subst r;exact Reps.drop n t
theorem Rep.lstE {ds:List Dv} {v:V} (h:Rep K H (.lst ds) v):∃ a xs,v=.ref a∧H a=a_ (.lst xs)∧Reps K H ds xs:=h
theorem Rep.tupE {ds:List Dv} {v:V} (h:Rep K H (.tup ds) v):∃ a xs,v=.ref a∧H a=a_ (.tup xs)∧Reps K H ds xs:=h
theorem Rep.exnE {c:Nat} {v:V} (h:Rep K H (.exn c) v):∃ a o u C,v=.ref a∧H a=a_ (.frz o u)∧o.cls=.ref C∧KN K y_ (xnm c)=a_ (a_ (.ref C)):=h
theorem Rep.scrE {ns:List Int} {v:V} (h:Rep K H (.scr ns) v):∃ a,v=.ref a∧SqL K H a (ns.map V.int):=h
end
theorem aG {H:Hp} {p:k_} (h:H p=ck) (o:HO):Same H (upd H p o):=fun b u q=>by rw [av (aq q h)]; exact q
abbrev Ev:=List (Option Dv)
structure Envs (K:f_) (H:Hp) (σ:L2.St) (ρ:Ev):Prop where
 len:σ.length=ρ.length
 at':∀ (i:Nat) (d:Dv),ρ[i]?=a_ (a_ d)→∃ v,σ[i]?=a_ (a_ v)∧Rep K H d v
theorem Envs.mono {K:f_} {H H':Hp} {σ:L2.St} {ρ:Ev} (E:Envs K H σ ρ) (e:Same H H'):Envs K H' σ ρ :=
 ⟨E.len,fun i d h=>let ⟨v,h1,h2⟩:=E.at' i d h; ⟨v,h1,Rep.mono e d v h2⟩⟩
theorem Envs.set {K:f_} {H:Hp} {σ:L2.St} {ρ:Ev} {i:Nat} {d:Dv} {v:V} (E:Envs K H σ ρ) (r:Rep K H d v):Envs K H (σ.set i (a_ v)) (ρ.set i (a_ d)):=by
 refine ⟨by rw [Kq,Kq]; exact E.len,fun j d' h=>?_⟩;by_cases hj:i=j
 · subst hj;by_cases hl:i < ρ.length
   · rw [J_ hl] at h;cases h;exact ⟨v,by rw [J_ (by rw [E.len]; exact hl)],r⟩
   · rw [L0 (by rw [Kq]; omega)] at h;cases h
 · rw [J0 hj] at h;rw [J0 hj];exact E.at' j d' h
def fgt (js:List Nat) (ρ:Ev):Ev:=js.foldl (fun r j=>r.set j ck) ρ
theorem Envs.fgt1 {K:f_} {H:Hp} {σ:L2.St} {ρ:Ev} (j:Nat) (E:Envs K H σ ρ):Envs K H σ (ρ.set j ck):=by
 refine ⟨by rw [Kq]; exact E.len,fun i d h=>?_⟩;by_cases hj:j=i
 · subst hj;by_cases hl:j < ρ.length
   · rw [J_ hl] at h;cases h
   · rw [L0 (by rw [Kq]; omega)] at h;cases h
 · rw [J0 hj] at h;exact E.at' i d h
theorem Envs.fgt {K:f_} {H:Hp} {σ:L2.St}:∀ (js:List Nat) {ρ:Ev},Envs K H σ ρ→Envs K H σ (fgt js ρ)
 | [],_,E=>E
 | j :: js,_,E=>Envs.fgt js (E.fgt1 j)
inductive Rs (α:Type) where
 | ok (a:α)
 | exc (c:Nat)
inductive Fl where
 | nx (ρ:Ev)
 | rt (d:Dv)
 | exc (c:Nat)
def Fly (N:k_→Prop) (H:Hp) (e:k_) (cls:g_) (h:H_):Prop:=H e=ck∧N e∧∃ oe vs a0,h.get? e=a_ oe∧oe.cls=cls∧oe.data=.fields vs∧vs[0]?=a_ a0 ∧
 (vs[1]?=a_ .none∨∃ T oT ts,vs[1]?=a_ (.ref T)∧T≠e∧H T=ck∧N T∧h.get? T=a_ oT∧oT.data=.fields ts∧ts[3]?=a_ .none)
def Fm (X:Cx) (a:k_):Prop:=X.s₀.heap.get? a=ck∧∀ p∈X.pn,p.1≠a
def Fp (X:Cx) (H:Hp) (c:Nat) (e:g_) (s:h_):Prop:=∃ a C,e=.ref a∧KN X.K y_ (xnm c)=a_ (a_ (.ref C))∧Fly (Fm X) H a (.ref C) s.heap
def XW (X:Cx) (c:Nat) (H:Hp):Prop:=∀ j' σ H' s e,Same H H'→Inv X j' σ H' s→Fp X H' c e s→X.xe e s
theorem XW.mono {X:Cx} {c:Nat} {H H':Hp} (h:XW X c H) (e:Same H H'):XW X c H':=fun j' σ H1 s x e1 I q=>h j' σ H1 s x (e.trans e1) I q
def Out (X:Cx) (H:Hp) (o:Option (Rs Dv)) (Q:VK):Prop:=match o with
 | none=>False
 | some (.exc c)=>XW X c H
 | some (.ok d)=>∀ v H',Same H H'→Rep X.K H' d v→Q v H'
def OutB (X:Cx) (H:Hp) (o:Option (Rs Bool)) (Q:Bool→Hp→Prop):Prop:=match o with
 | none=>False
 | some (.exc c)=>XW X c H
 | some (.ok d)=>∀ H',Same H H'→Q d H'
def OutA (X:Cx) (H:Hp) (o:Option (Rs (List Dv))) (Q:List V→Hp→Prop):Prop:=match o with
 | none=>False
 | some (.exc c)=>XW X c H
 | some (.ok ds)=>∀ vs H',Same H H'→Reps X.K H' ds vs→Q vs H'
def OutS (X:Cx) (H:Hp) (o:Option Fl) (D:qR):Prop:=match o with
 | none=>False
 | some (.exc c)=>XW X c H
 | some (.rt d)=>∀ v H',Same H H'→Rep X.K H' d v→D.rt v H'
 | some (.nx ρ)=>∀ σ H',Same H H'→Envs X.K H' σ ρ→D.nx σ H'
def bnd {α β:Type} (o:Option (Rs α)) (k:α→Option (Rs β)):Option (Rs β):=match o with
 | none=>ck
 | some (.exc c)=>a_ (.exc c)
 | some (.ok a)=>k a
def bN {α:Type} (o:Option (Rs α)) (k:α→Option Fl):Option Fl:=match o with
 | none=>ck
 | some (.exc c)=>a_ (.exc c)
 | some (.ok a)=>k a
def sq (o:Option Fl) (k:Ev→Option Fl):Option Fl:=match o with
 | some (.nx ρ)=>k ρ
 | o=>o
section
variable {X:Cx} {H H':Hp} {Q:VK} {QB:Bool→Hp→Prop} {QA:List V→Hp→Prop} {D:qR}
theorem Out.mono (e:Same H H'):∀ {o:Option (Rs Dv)},Out X H o Q→Out X H' o Q
 | none,h=>h
 | some (.exc _),h=>XW.mono h e
 | some (.ok _),h=>fun v H1 e1 r=>h v H1 (e.trans e1) r
theorem OutB.mono (e:Same H H'):∀ {o:Option (Rs Bool)},OutB X H o QB→OutB X H' o QB
 | none,h=>h
 | some (.exc _),h=>XW.mono h e
 | some (.ok _),h=>fun H1 e1=>h H1 (e.trans e1)
theorem OutA.mono (e:Same H H'):∀ {o:Option (Rs (List Dv))},OutA X H o QA→OutA X H' o QA
 | none,h=>h
 | some (.exc _),h=>XW.mono h e
 | some (.ok _),h=>fun v H1 e1 r=>h v H1 (e.trans e1) r
theorem OutS.mono (e:Same H H'):∀ {o:Option Fl},OutS X H o D→OutS X H' o D
 | none,h=>h
 | some (.exc _),h=>XW.mono h e
 | some (.rt _),h=>fun v H1 e1 r=>h v H1 (e.trans e1) r
 | some (.nx _),h=>fun v H1 e1 r=>h v H1 (e.trans e1) r
theorem Out.bind {o:Option (Rs Dv)} {k:Dv→Option (Rs Dv)} {P:VK} (h:Out X H (bnd o k) Q) (hp:∀ d v H',Same H H'→Rep X.K H' d v→Out X H' (k d) Q→P v H'):Out X H o P:=by
 match o,h with
 | some (.exc _),h=>exact h
 | some (.ok d),h=>exact fun v H1 e r=>hp d v H1 e r (Out.mono e h)
theorem Out.bindB {o:Option (Rs Dv)} {k:Dv→Option (Rs Bool)} {P:VK} (h:OutB X H (bnd o k) QB) (hp:∀ d v H',Same H H'→Rep X.K H' d v→OutB X H' (k d) QB→P v H'):Out X H o P:=by
 match o,h with
 | some (.exc _),h=>exact h
 | some (.ok d),h=>exact fun v H1 e r=>hp d v H1 e r (OutB.mono e h)
theorem Out.bindA {o:Option (Rs Dv)} {k:Dv→Option (Rs (List Dv))} {P:VK} (h:OutA X H (bnd o k) QA) (hp:∀ d v H',Same H H'→Rep X.K H' d v→OutA X H' (k d) QA→P v H'):Out X H o P:=by
 match o,h with
 | some (.exc _),h=>exact h
 | some (.ok d),h=>exact fun v H1 e r=>hp d v H1 e r (OutA.mono e h)
theorem Out.bindS {o:Option (Rs Dv)} {k:Dv→Option Fl} {P:VK} (h:OutS X H (bN o k) D) (hp:∀ d v H',Same H H'→Rep X.K H' d v→OutS X H' (k d) D→P v H'):Out X H o P:=by
 match o,h with
 | some (.exc _),h=>exact h
 | some (.ok d),h=>exact fun v H1 e r=>hp d v H1 e r (OutS.mono e h)
theorem OutB.bind {o:Option (Rs Bool)} {k:Bool→Option (Rs Dv)} {P:Bool→Hp→Prop} (h:Out X H (bnd o k) Q) (hp:∀ b H',Same H H'→Out X H' (k b) Q→P b H'):OutB X H o P:=by
 match o,h with
 | some (.exc _),h=>exact h
 | some (.ok d),h=>exact fun H1 e=>hp d H1 e (Out.mono e h)
theorem OutB.bindB {o:Option (Rs Bool)} {k:Bool→Option (Rs Bool)} {P:Bool→Hp→Prop} (h:OutB X H (bnd o k) QB) (hp:∀ b H',Same H H'→OutB X H' (k b) QB→P b H'):OutB X H o P:=by
 match o,h with
 | some (.exc _),h=>exact h
 | some (.ok d),h=>exact fun H1 e=>hp d H1 e (OutB.mono e h)
theorem OutB.bindS {o:Option (Rs Bool)} {k:Bool→Option Fl} {P:Bool→Hp→Prop} (h:OutS X H (bN o k) D) (hp:∀ b H',Same H H'→OutS X H' (k b) D→P b H'):OutB X H o P:=by
 match o,h with
 | some (.exc _),h=>exact h
 | some (.ok d),h=>exact fun H1 e=>hp d H1 e (OutS.mono e h)
theorem OutA.bind {o:Option (Rs (List Dv))} {k:List Dv→Option (Rs Dv)} {P:List V→Hp→Prop} (h:Out X H (bnd o k) Q) (hp:∀ ds vs H',Same H H'→Reps X.K H' ds vs→Out X H' (k ds) Q→P vs H'):OutA X H o P:=by
 match o,h with
 | some (.exc _),h=>exact h
 | some (.ok d),h=>exact fun v H1 e r=>hp d v H1 e r (Out.mono e h)
theorem OutA.bindA {o:Option (Rs (List Dv))} {k:List Dv→Option (Rs (List Dv))} {P:List V→Hp→Prop} (h:OutA X H (bnd o k) QA) (hp:∀ ds vs H',Same H H'→Reps X.K H' ds vs→OutA X H' (k ds) QA→P vs H'):OutA X H o P:=by
 match o,h with
 | some (.exc _),h=>exact h
 | some (.ok d),h=>exact fun v H1 e r=>hp d v H1 e r (OutA.mono e h)
end
abbrev FnE:=Ev→Option (Rs Dv)
abbrev FnB:=Ev→Option (Rs Bool)
abbrev FnA:=Ev→Option (Rs (List Dv))
abbrev FnS:=Ev→Option Fl
def tF (X:Cx) (f:FnE):TE:=fun σ H Q=>∃ ρ,Envs X.K H σ ρ∧Out X H (f ρ) Q
def tT (X:Cx) (f:FnB):TT:=fun σ H Q=>∃ ρ,Envs X.K H σ ρ∧OutB X H (f ρ) Q
def tA (X:Cx) (f:FnA):TA:=fun σ H Q=>∃ ρ,Envs X.K H σ ρ∧OutA X H (f ρ) Q
def tS (X:Cx) (f:FnS):TS:=fun D σ H=>∃ ρ,Envs X.K H σ ρ∧OutS X H (f ρ) D
structure FE (X:Cx) (e:F_) (f:FnE):Prop where
 h:PE X e (tF X f)
structure FT (X:Cx) (e:F_) (f:FnB):Prop where
 h:PT X e (tT X f)
structure FW (X:Cx) (e:F_) (f:FnB):Prop where
 h:PW X e (tT X f)
structure FA (X:Cx) (es:List F_) (f:FnA):Prop where
 h:PA X es (tA X f)
structure FS (X:Cx) (st:Ky) (f:FnS):Prop where
 h:PS X st (tS X f)
structure FSs (X:Cx) (st:List Ky) (f:FnS):Prop where
 h:PSs X st (tS X f)
section
variable {X:Cx} {a b c e:F_} {es:List F_} {fa fb fc:FnE} {pos:Pos}
theorem df {t:TE} {f:FnE} (h:PE X e t) (w:∀ σ H Q ρ,Envs X.K H σ ρ→Out X H (f ρ) Q→t σ H Q):FE X e f :=
 ⟨fun j' s σ H Q I ⟨ρ,E,o⟩=>h j' s σ H Q I (w σ H Q ρ E o)⟩
theorem yi {t:TT} {f:FnB} (h:PT X e t) (w:∀ σ H Q ρ,Envs X.K H σ ρ→OutB X H (f ρ) Q→t σ H Q):FT X e f :=
 ⟨fun j' s σ H Q I ⟨ρ,E,o⟩=>h j' s σ H Q I (w σ H Q ρ E o)⟩
theorem Bk {t:TT} {f:FnB} (h:PW X e t) (w:∀ σ H Q ρ,Envs X.K H σ ρ→OutB X H (f ρ) Q→t σ H Q):FW X e f :=
 ⟨fun wh j' s σ H Q I ⟨ρ,E,o⟩=>h wh j' s σ H Q I (w σ H Q ρ E o)⟩
theorem nA {st:Ky} {t:TS} {f:FnS} (h:PS X st t) (w:∀ D σ H ρ,Envs X.K H σ ρ→OutS X H (f ρ) D→t D σ H):FS X st f :=
 ⟨fun j' s σ H D I ⟨ρ,E,o⟩=>h j' s σ H D I (w D σ H ρ E o)⟩
theorem w6 {st:List Ky} {t:TS} {f:FnS} (h:PSs X st t) (w:∀ D σ H ρ,Envs X.K H σ ρ→OutS X H (f ρ) D→t D σ H):FSs X st f :=
 ⟨fun j' s σ H D I ⟨ρ,E,o⟩=>h j' s σ H D I (w D σ H ρ E o)⟩
theorem FW.ft {f:FnB} (h:FW X e f):FT X e f:=⟨h.h _⟩
def ac (i:Nat):FnE:=fun ρ=>match ρ[i]? with
 | some (a_ d)=>a_ (.ok d)
 | _=>ck
def fC (d:Dv):FnE:=fun _=>a_ (.ok d)
theorem Bl (i:Nat) (h:PE X e (Am i)):FE X e (ac i):=df h fun σ H Q ρ E o=>by
 unfold ac at o;split at o
 · rename_i d hd;obtain ⟨v,h1,h2⟩:=E.at' i d hd;exact ⟨v,h1,o v H (.refl H) h2⟩
 · exact o.elim
theorem glb {x:Str} (h:X.env.kindOf x=a_ .globalImplicit):Gl X x:=h
theorem Fq (i:Nat) {x:Str} (hN:X.N[i]?=a_ x:=by kernel_rfl) (hv:X.env.scope.names.lookup x=a_ .local:=by kernel_rfl) (hd:(x == ("__debug__":Str))=d_:=by kernel_rfl) (hcd:(x == ("__classdict__":Str))=d_:=by kernel_rfl):FE X (.Name x pos) (ac i):=Bl i (q8 hN (.inl hv) hd hcd)
theorem Ft (i:Nat) {x:Str} (hN:X.N[i]?=a_ x:=by kernel_rfl) (hv:X.env.scope.names.lookup x=a_ .cell:=by kernel_rfl) (hd:(x == ("__debug__":Str))=d_:=by kernel_rfl) (hcd:(x == ("__classdict__":Str))=d_:=by kernel_rfl):FE X (.Name x pos) (ac i):=Bl i (q8 hN (.inr (.inl hv)) hd hcd)
theorem An {d:Dv} {v:V} (h:PE X e (tC v)) (r:∀ K H,Rep K H d v):FE X e (fC d):=df h fun _ H _ _ _ o=>o v H (.refl H) (r X.K H)
theorem Bm {i j}:FE X (.Constant (.int i) j pos) (fC (.int i)):=An AH fun _ _=>rfl
theorem Fu {b j}:FE X (.Constant (.bool b) j pos) (fC (.bl b)):=An EJ fun _ _=>rfl
theorem Bn {j}:FE X (.Constant .none j pos) (fC .non):=An AI fun _ _=>rfl
theorem Bo {x j}:FE X (.Constant (.str x) j pos) (fC (.str x)):=An AJ fun _ _=>rfl
theorem yj {x:Str} {i:Int} {t:Tok} (hg:Gl X x) (hm:X.mg x=a_ (.int i t)) (hd:(x == ("__debug__":Str))=d_:=by kernel_rfl):FE X (.Name x pos) (fC (.int i)):=An (q9 (v:=.int i) hg hm ⟨t,rfl⟩ hd) fun _ _=>rfl
theorem yk {x:Str} {i:Str} {t:Tok} (hg:Gl X x) (hm:X.mg x=a_ (.str i t)) (hd:(x == ("__debug__":Str))=d_:=by kernel_rfl):FE X (.Name x pos) (fC (.str i)):=An (q9 (v:=.str i) hg hm ⟨t,rfl⟩ hd) fun _ _=>rfl
def f2 (g:Dv→Dv→Option (Rs Dv)) (fa fb:FnE):FnE:=fun ρ=>bnd (fa ρ) fun x=>bnd (fb ρ) fun y=>g x y
def GOp (X:Cx) (r:R2) (g:Dv→Dv→Option (Rs Dv)):Prop:=∀ dx dy x y H Q,Rep X.K H dx x→Rep X.K H dy y→Out X H (g dx dy) Q→r x y H Q
theorem two {r:R2} {g:Dv→Dv→Option (Rs Dv)} (hg:GOp X r g) {σ:L2.St} {H:Hp} {Q:VK} {ρ:Ev} (E:Envs X.K H σ ρ) (o:Out X H (f2 g fa fb ρ) Q):tOp r (tF X fa) (tF X fb) σ H Q :=
 ⟨ρ,E,Out.bind o fun dx x H1 e1 rx o1=>⟨ρ,E.mono e1,Out.bind o1 fun dy y H2 e2 ry o2=>hg dx dy x y H2 Q (Rep.mono e2 dx x rx) ry o2⟩⟩
theorem qe {op:Operator} {r:R2} {g:Dv→Dv→Option (Rs Dv)} (ho:OpR X (Lg op) r) (hg:GOp X r g) (ha:FE X a fa) (hb:FE X b fb):FE X (.BinOp a op b pos) (f2 g fa fb) :=
 df (EZ ho ha.h hb.h) fun _ _ _ _ E o=>two hg E o
theorem jf {op:CmpOp} {r:R2} {g:Dv→Dv→Option (Rs Dv)} (ho:OpR X (JL op) r) (hg:GOp X r g) (ha:FE X a fa) (hb:FE X b fb) (hm:Jt op b=d_):FE X (.Compare a [op] [b] pos) (f2 g fa fb) :=
 df (ya ho ha.h hb.h hm) fun _ _ _ _ E o=>two hg E o
def toB:Dv→Option (Rs Bool)
 | .bl b=>a_ (.ok b)
 | _=>ck
def fB (f:FnE):FnB:=fun ρ=>bnd (f ρ) toB
theorem pj {H:Hp} {d:Dv} {v:V} {QB:Bool→Hp→Prop} (r:Rep X.K H d v) (o:OutB X H (toB d) QB):∃ k,v=.bl k∧QB k H:=by
 cases d with
 | bl b=>exact ⟨b,r,o H (.refl H)⟩
 | _=>exact o.elim
theorem iu {op:CmpOp} {r:R2} {g:Dv→Dv→Option (Rs Dv)} (ho:OpR X (JL op) r) (hg:GOp X r g) (ha:FE X a fa) (hb:FE X b fb) (hm:Jt op b=d_):FT X (.Compare a [op] [b] pos) (fB (f2 g fa fb)) :=
 yi (yb ho ha.h hb.h hm) fun σ H Q ρ E o=>by
  show tOp r (tF X fa) (tF X fb) σ H _;refine two hg E ?_;exact Out.bindB o fun d v H' e r o'=>pj r o'
theorem Bp (ha:FE X a fa) (he:∀ whole,isTrue a X.env whole=(do let v ← whole; standAt a.pos; MM [v] (truthy v)):=by intro _; kernel_rfl):FT X a (fB fa) :=
 yi (AK ha.h he) fun σ H Q ρ E o=>⟨ρ,E,Out.bindB o fun d v H' e r o'=>pj r o'⟩
def cH (f g:FnB):FnB:=fun ρ=>bnd (f ρ) fun k=>if k then g ρ else a_ (.ok d_)
def bOr (f g:FnB):FnB:=fun ρ=>bnd (f ρ) fun k=>if k then a_ (.ok e_) else g ρ
def bh (f:FnB):FnB:=fun ρ=>bnd (f ρ) fun k=>a_ (.ok (!k))
variable {ga gb:FnB} {rest:List F_}
theorem ym (ha:FT X a ga):FW X (.BoolOp .And [a] pos) ga:=⟨xX ha.h⟩
theorem Bq (ha:FT X a ga):FW X (.BoolOp .Or [a] pos) ga:=⟨AM ha.h⟩
theorem xb (ha:FT X a ga) (hb:FW X (.BoolOp .And (b :: rest) pos) gb):FW X (.BoolOp .And (a :: b :: rest) pos) (cH ga gb) :=
 Bk (AN ha.h hb.h) fun σ H Q ρ E o=>⟨ρ,E,OutB.bindB o fun k H1 e o'=>by
  cases k with
  | true=>exact wZ ⟨ρ,E.mono e,o'⟩
  | false=>exact wY (o' H1 (.refl H1))⟩
theorem Br (ha:FT X a ga) (hb:FW X (.BoolOp .Or (b :: rest) pos) gb):FW X (.BoolOp .Or (a :: b :: rest) pos) (bOr ga gb) :=
 Bk (EK ha.h hb.h) fun σ H Q ρ E o=>⟨ρ,E,OutB.bindB o fun k H1 e o'=>by
  cases k with
  | true=>exact wZ (o' H1 (.refl H1))
  | false=>exact wY ⟨ρ,E.mono e,o'⟩⟩
theorem Bs (ha:FT X a ga):FT X (.UnaryOp .Not a pos) (bh ga) :=
 yi (AO ha.h) fun σ H Q ρ E o=>⟨ρ,E,OutB.bindB o fun k H1 e o'=>o' H1 (.refl H1)⟩
def cK (f g:FnE):FnE:=fun ρ=>bnd (f ρ) fun x=>bnd (toB x) fun k=>if k then g ρ else a_ (.ok (.bl d_))
def vOr (f g:FnE):FnE:=fun ρ=>bnd (f ρ) fun x=>bnd (toB x) fun k=>if k then a_ (.ok (.bl e_)) else g ρ
def eC (f:FnE):FnE:=fun ρ=>bnd (f ρ) fun x=>bnd (toB x) fun k=>a_ (.ok (.bl (!k)))
theorem nB {H:Hp} {d:Dv} {v:V} {k:Bool→Option (Rs Dv)} {Q:VK} (r:Rep X.K H d v) (o:Out X H (bnd (toB d) k) Q):∃ b,v=.bl b∧Out X H (k b) Q:=by
 cases d with
 | bl b=>exact ⟨b,r,o⟩
 | _=>exact o.elim
theorem Bt {op} (ha:FE X a fa):FE X (.BoolOp op [a] pos) fa:=⟨AQ ha.h⟩
theorem Bu (ha:FE X a fa) (hb:FE X (.BoolOp .And (b :: rest) pos) fb):FE X (.BoolOp .And (a :: b :: rest) pos) (cK fa fb) :=
 df (AR ha.h hb.h) fun σ H Q ρ E o=>⟨ρ,E,Out.bind o fun d v H1 e r o'=>by
  obtain ⟨k,rfl,o2⟩:=nB r o';refine ⟨k,rfl,?_⟩;cases k with
  | true=>exact wZ ⟨ρ,E.mono e,o2⟩
  | false=>exact wY (o2 (.bl d_) H1 (.refl H1) rfl)⟩
theorem Fv (ha:FE X a fa) (hb:FE X (.BoolOp .Or (b :: rest) pos) fb):FE X (.BoolOp .Or (a :: b :: rest) pos) (vOr fa fb) :=
 df (EO ha.h hb.h) fun σ H Q ρ E o=>⟨ρ,E,Out.bind o fun d v H1 e r o'=>by
  obtain ⟨k,rfl,o2⟩:=nB r o';refine ⟨k,rfl,?_⟩;cases k with
  | true=>exact wZ (o2 (.bl e_) H1 (.refl H1) rfl)
  | false=>exact wY ⟨ρ,E.mono e,o2⟩⟩
theorem Bv (ha:FE X a fa):FE X (.UnaryOp .Not a pos) (eC fa) :=
 df (AS ha.h) fun σ H Q ρ E o=>⟨ρ,E,Out.bind o fun d v H1 e r o'=>by
  obtain ⟨k,rfl,o2⟩:=nB r o';exact ⟨k,rfl,o2 (.bl (!k)) H1 (.refl H1) rfl⟩⟩
def fIf (c:FnB) (f g:FnE):FnE:=fun ρ=>bnd (c ρ) fun k=>if k then f ρ else g ρ
theorem Fw (hc:FT X c ga) (ha:FE X a fa) (hb:FE X b fb):FE X (.IfExp c a b pos) (fIf ga fa fb) :=
 df (u4 hc.h ha.h hb.h) fun σ H Q ρ E o=>⟨ρ,E,OutB.bind o fun k H1 e o'=>by
  cases k with
  | true=>exact wZ ⟨ρ,E.mono e,o'⟩
  | false=>exact wY ⟨ρ,E.mono e,o'⟩⟩
def ah:FnA:=fun _=>a_ (.ok [])
def aa (f:FnE) (g:FnA):FnA:=fun ρ=>bnd (f ρ) fun x=>bnd (g ρ) fun xs=>a_ (.ok (x :: xs))
theorem Bw {t:TA} {f:FnA} (h:PA X es t) (w:∀ σ H Q ρ,Envs X.K H σ ρ→OutA X H (f ρ) Q→t σ H Q):FA X es f :=
 ⟨fun pos j' s σ H Q I ⟨ρ,E,o⟩=>h pos j' s σ H Q I (w σ H Q ρ E o)⟩
theorem rV:FA X [] ah:=Bw wW fun _ H _ _ _ o=>o [] H (.refl H) rfl
theorem nF {g:FnA} (ha:FE X e fa) (hr:FA X es g) (hs:l_ (e :: es) X.env=(d_,eval e X.env) :: l_ es X.env:=by kernel_rfl):FA X (e :: es) (aa fa g) :=
 Bw (nu ha.h hr.h hs) fun σ H Q ρ E o=>⟨ρ,E,Out.bindA o fun d v H1 e r o1=>⟨ρ,E.mono e,OutA.bindA o1 fun ds vs H2 e2 rs o2=>o2 (v :: vs) H2 (.refl H2) ⟨v,vs,rfl,Rep.mono e2 d v r,rs⟩⟩⟩
def bK (g:FnA):FnE:=fun ρ=>bnd (g ρ) fun ds=>if ds.length≤100000 then a_ (.ok (.lst ds)) else ck
def bS (g:FnA):FnE:=fun ρ=>bnd (g ρ) fun ds=>if ds.length≤100000 then a_ (.ok (.tup ds)) else ck
theorem cr {n:Nat} (h:n≤100000):n≤sizeLine:=Jy h (by rw [MD]; decide)
theorem Bx {g:FnA} (h:FA X es g):FE X (.List es pos) (bK g) :=
 df (wX h.h) fun σ H Q ρ E o=>⟨ρ,E,OutA.bind o fun ds vs H1 e rs o1=>by
  split at o1
  · rename_i hl;refine ⟨by rw [rs.length]; exact cr hl,fun p hp=>o1 (.ref p) _ (aG hp _) ⟨p,vs,rfl,ax,Reps.mono (aG hp _) _ _ rs⟩⟩
  · exact o1.elim⟩
theorem By {g:FnA} {k} (h:FA X es g):FE X (.Tuple es k pos) (bS g) :=
 df (Ba h.h) fun σ H Q ρ E o=>⟨ρ,E,OutA.bind o fun ds vs H1 e rs o1=>by
  split at o1
  · rename_i hl;refine ⟨by rw [rs.length]; exact cr hl,fun p hp=>o1 (.ref p) _ (aG hp _) ⟨p,vs,rfl,ax,Reps.mono (aG hp _) _ _ rs⟩⟩
  · exact o1.elim⟩
variable {st:Ky} {sts:List Ky} {f g:FnS}
theorem yn:FSs X [] (fun ρ=>a_ (.nx ρ)):=w6 rf fun D σ H ρ E o=>o σ H (.refl H) E
def au (f g:FnS):FnS:=fun ρ=>sq (f ρ) g
theorem vh (h1:FS X st f) (h2:FSs X sts g):FSs X (st :: sts) (au f g) :=
 w6 (kQ h1.h h2.h) fun D σ H ρ E o=>⟨ρ,E,by
  unfold au at o
  match hf:f ρ with
  | none=>rw [hf] at o; exact o.elim
  | some (.exc c)=>rw [hf] at o; exact o
  | some (.rt d)=>rw [hf] at o; exact o
  | some (.nx ρ')=>rw [hf] at o; exact fun σ' H' e E'=>⟨ρ',E',OutS.mono e o⟩⟩
theorem nG (h1:FS X st f):FSs X [st] f:=⟨rg h1.h⟩
def az (f:FnE):FnS:=fun ρ=>bN (f ρ) fun d=>a_ (.rt d)
theorem xf (he:FE X e fa):FS X (.Return (a_ e) pos) (az fa) :=
 nA (wS he.h) fun D σ H ρ E o=>⟨ρ,E,Out.bindS o fun d v H1 e r o1=>o1 v H1 (.refl H1) r⟩
def bg:FnS:=fun _=>a_ (.rt .non)
def aS (f:FnE):FnS:=fun ρ=>bN (f ρ) fun _=>a_ (.nx ρ)
theorem rW (he:FE X e fa) (hs:KW e ck pos.line X.env=pure d_:=by kernel_rfl):FS X (.Expr e pos) (aS fa) :=
 nA (rh he.h hs) fun D σ H ρ E o=>⟨ρ,E,Out.bindS o fun d v H1 e r o1=>o1 σ H1 (.refl H1) (E.mono e)⟩
def ba (i:Nat) (f:FnE):FnS:=fun ρ=>bN (f ρ) fun d=>a_ (.nx (ρ.set i (a_ d)))
theorem Bz (i:Nat) {x:Str} {pos':Pos} (hN:X.N.Nodup) (hi:X.N[i]?=a_ x) (hx:Loc X.env.scope x) (he:FE X e fa) (hs:KW e (a_ (.Name x pos')) pos.line X.env=pure d_:=by kernel_rfl) (hf:X.fn x=e_∨X.env.scope.names.lookup x=a_ .local:=by first | exact .inl rfl | exact .inr rfl | assumption) :
 FS X (.Assign [.Name x pos'] e pos) (ba i fa) :=
 nA (rm hN hi hx he.h hs hf) fun D σ H ρ E o=>⟨ρ,E,Out.bindS o fun d v H1 e r o1=>o1 _ H1 (.refl H1) ((E.mono e).set r)⟩
def aQ (c:FnB) (f g:FnS):FnS:=fun ρ=>bN (c ρ) fun k=>if k then f ρ else g ρ
theorem Fx {as bs:List Ky} (hc:FT X c ga) (ha:FSs X as f) (hb:FSs X bs g):FS X (.If c as bs pos) (aQ ga f g) :=
 nA (xY hc.h ha.h hb.h) fun D σ H ρ E o=>⟨ρ,E,OutB.bindS o fun k H1 e o1=>by
  cases k with
  | true=>exact wZ ⟨ρ,E.mono e,o1⟩
  | false=>exact wY ⟨ρ,E.mono e,o1⟩⟩
def aX:FnS:=fun _=>ck
end
def Its (z:Str):It:=⟨fun i _=>i < z.cps.size,fun i H x H'=>H'=H∧∃ c,z.cps[i]?=a_ c∧x=.str ⟨#[c]⟩,fun i _=>i=z.cps.size⟩
theorem lX {prog:rl} {w:C_} {A:D_} (hh:A.handled=ck) (I:k_) (x:Str) (t:Tok) {ty:String} (hty:ty="str_ascii_iterator"∨ty="str_iterator") :
 Walks prog w A I [I] [I] x.cps.size (SignAt x) (fun i h=>h.IsStrIter I ty x t i):=by
 rcases hty with rfl | rfl
 · exact Walks.strAscii hh I x t
 · exact Walks.strWide hh I x t
theorem vi {P:rl} {w:C_} {K:f_} {tg:F_} (z:Str) (t:Tok) (it:k_) {ty:String} (hty:ty="str_ascii_iterator"∨ty="str_iterator"):u8 P w K tg (Its z) [it] it (fun i h=>h.IsStrIter it ty z t i) where
 mem:=by simp
 obj:=fun i h st b hb=>by
  have e:b=it:=by simpa using hb
  subst e;obtain ⟨o,e,c,d⟩:=st;exact ⟨o,e,fun v z=>by rw [d] at z; cases z⟩
 keep:=fun i h h' st k=>let ⟨o,ho,r⟩:=st; ⟨o,k it (by simp) o ho,r⟩
 item:=by
  intro X hP hw hK hc i j' s σ H E I hf st hg;subst hP hw hK;obtain ⟨f0,f1,f2,f3,f4,f5⟩:=hf it (by simp);have W:=lX (prog:=X.prog) (w:=X.w) (I.ok.hd hc) it z t hty;refine W.item i s _ _ hg st fun v h' tk hv st' kk=>?_;obtain ⟨c,u,hc',rfl⟩:=hv;have I1:Inv X j' σ H { s with heap:=h',toks:=tk }:=I.turned (fun b o hb e=>kk b o (by simpa using hb) e) f0 f1 f3 f4 f5;obtain ⟨o,e,c',d⟩:=id st';refine ⟨_,rfl,u9 (s:={ s with heap:=h',toks:=tk }) e c' d (by rcases hty with rfl | rfl <;> decide) ⟨.str ⟨#[c]⟩,H,I1,⟨u,rfl⟩,⟨rfl,c,hc',rfl⟩,st',fun b hb=>(hf b hb).1⟩⟩
 done:=by
  intro X hP hw hK hc i j' s σ H E I hf st hg;subst hP hw hK;obtain ⟨f0,f1,f2,f3,f4,f5⟩:=hf it (by simp);have W:=lX (prog:=X.prog) (w:=X.w) (I.ok.hd hc) it z t hty;have hg':i=z.cps.size:=hg;subst hg';exact W.done s _ _ st fun h' tk kk=>⟨rfl,I.turned (fun b o hb e=>kk b o (by simpa using hb) e) f0 f1 f3 f4 f5⟩
 self:=fun A i s Q E st h=>by
  rcases hty with rfl | rfl
  · exact wpAny_pyIter_striter_ascii st h
  · exact wpAny_pyIter_striter_wide st h
structure Wk (K:f_) (J:It) (ds:List Dv) (H0:Hp):Prop where
 go:∀ i H,Same H0 H→i < ds.length→J.go i H
 stop:∀ H,Same H0 H→J.stop ds.length H
 yld:∀ i H x H',Same H0 H→i < ds.length→J.yld i H x H'→H'=H∧∃ d,ds[i]?=a_ d∧Rep K H d x
def OutI (X:Cx) (H:Hp) (o:Option (Rs (List Dv))) (R:It→Hp→Prop):Prop:=match o with
 | none=>False
 | some (.exc c)=>XW X c H
 | some (.ok ds)=>∀ J H',Same H H'→Wk X.K J ds H'→R J H'
structure FI (X:Cx) (tg iter:F_) (f:FnA):Prop where
 h:PI X tg iter fun σ H R=>∃ ρ,Envs X.K H σ ρ∧OutI X H (f ρ) R
theorem OutI.mono {X:Cx} {H H':Hp} {R:It→Hp→Prop} (e:Same H H'):∀ {o:Option (Rs (List Dv))},OutI X H o R→OutI X H' o R
 | none,h=>h
 | some (.exc _),h=>XW.mono h e
 | some (.ok _),h=>fun v H1 e1 r=>h v H1 (e.trans e1) r
def signs (z:Str):List Dv:=z.cps.toList.map fun c=>.str ⟨#[c]⟩
def items:Dv→Option (Rs (List Dv))
 | .lst ds=>a_ (.ok ds)
 | .tup ds=>a_ (.ok ds)
 | .str z=>a_ (.ok (signs z))
 | _=>ck
def dr (f:FnE):FnA:=fun ρ=>bnd (f ρ) items
theorem yo {K:f_} {H:Hp} {a:k_} {xs:List V} {ds:List Dv} (h:H a=a_ (.lst xs)) (r:Reps K H ds xs):Wk K (Itl K a) ds H where
 go:=fun i H' e hi=>by
  have hx:i < xs.length:=by rw [r.length]; exact hi
  exact ⟨xs,xs[i],SqL.of (e _ _ h),by simp [hx]⟩
 stop:=fun H' e=>⟨xs,SqL.of (e _ _ h),by rw [r.length]; exact r_ _⟩
 yld:=fun i H' x H2 e hi y=>by
  obtain ⟨e2,y⟩:=y;obtain ⟨d,h1,h2⟩:=Reps.get (Reps.mono e _ _ r) (y xs (SqL.of (e _ _ h)));exact ⟨e2,d,h1,h2⟩
theorem BA {K:f_} {H:Hp} {a:k_} {xs:List V} {ds:List Dv} (h:H a=a_ (.tup xs)) (r:Reps K H ds xs):Wk K (Itt K a) ds H where
 go:=fun i H' e hi=>by
  have hx:i < xs.length:=by rw [r.length]; exact hi
  exact ⟨xs,xs[i],SqT.of (e _ _ h),by simp [hx]⟩
 stop:=fun H' e=>⟨xs,SqT.of (e _ _ h),by rw [r.length]; exact r_ _⟩
 yld:=fun i H' x H2 e hi y=>by
  obtain ⟨e2,y⟩:=y;obtain ⟨d,h1,h2⟩:=Reps.get (Reps.mono e _ _ r) (y xs (SqT.of (e _ _ h)));exact ⟨e2,d,h1,h2⟩
theorem BB {K:f_} {H:Hp} {z:Str}:Wk K (Its z) (signs z) H where
 go:=fun i H' e hi=>by show i < z.cps.size; simpa [signs] using hi
 stop:=fun H' e=>by show (signs z).length=z.cps.size; simp [signs]
 yld:=fun i H' x H2 e hi y=>by
  obtain ⟨e2,c,hc,rfl⟩:=y;refine ⟨e2,.str ⟨#[c]⟩,?_,rfl⟩;have hc':z.cps.toList[i]?=a_ c:=by simpa using hc
  rw [signs,JG,hc'] <;> rfl
def rng (lo:Int):Nat→List Dv
 | 0=>[]
 | n + 1=>.int lo :: rng (lo + 1) n
theorem gM:∀ (n:Nat) (lo:Int),(rng lo n).length=n
 | 0,_=>rfl
 | n + 1,lo=>by show (rng (lo + 1) n).length + 1=n + 1; rw [gM]
theorem rX:∀ (n:Nat) (lo:Int) (i:Nat),i < n→(rng lo n)[i]?=a_ (.int (lo + i))
 | 0,_,_,h=>by omega
 | n + 1,lo,0,_=>by simp [rng]
 | n + 1,lo,i + 1,h=>by
  have q:=rX n (lo + 1) i (by omega);show (Dv.int lo :: rng (lo + 1) n)[i + 1]?=_;rw [MF,q];congr 2;omega
theorem pk {K:f_} {H:Hp} {lo:Int} {n:Nat}:Wk K (Itr lo n) (rng lo n) H where
 go:=fun i H' e hi=>by rw [gM] at hi; exact hi
 stop:=fun H' e=>by show n≤(rng lo n).length; rw [gM]; exact r_ _
 yld:=fun i H' x H2 e hi y=>by
  obtain ⟨e2,rfl⟩:=y;rw [gM] at hi;exact ⟨e2,_,rX n lo i hi,rfl⟩
section
variable {X:Cx} {tg l a b:F_} {fl:FnE} {pos p:Pos}
theorem BC (hl:FE X l fl):FI X tg l (dr fl):=by
 constructor;intro j' s σ H R I h;obtain ⟨ρ,E,o⟩:=h;have key:Out X H (fl ρ) fun x H1=>∃ d,Rep X.K H1 d x∧OutI X H1 (items d) R:=by
  unfold dr at o
  match hf:fl ρ,o with
  | some (.exc c),o=>exact o
  | some (.ok d),o=>exact fun v H1 e r=>⟨d,r,OutI.mono e o⟩
  | none,o=>exact o
 refine thn (hl.h j' s σ H _ I ⟨ρ,E,key⟩) fun v s1 ⟨x,H1,I1,r1,d,rd,q⟩=>?_;have fin:∀ (o:Obj) (tn:Nat→H_→Prop) (J:It) (ds:List Dv),u8 X.prog X.w X.K tg J [s1.heap.objs.size] s1.heap.objs.size tn→tn 0 (s1.heap.push o)→Wk X.K J ds H1→(∀ J H',Same H1 H'→Wk X.K J ds H'→R J H') →
  PIE X j' σ tg R (.ref s1.heap.objs.size) { s1 with heap:=s1.heap.push o }:=fun o tn J ds T t0 w q=>by
  refine ⟨s1.heap.objs.size,[s1.heap.objs.size],tn,J,H1,rfl,I1.kept (t':=s1.toks) fun b o e=>i_ _ e,T,t0,fun b hb=>?_,q J H1 (.refl H1) w⟩;have e:b=s1.heap.objs.size:=by simpa using hb
  subst e;exact I1.fpOk (r_ _) (I1.hok.fresh (r_ _))
 cases d with
 | lst ds =>
  obtain ⟨a,xs,rfl,h1,h2⟩:=rd.lstE;cases r1;obtain ⟨its,rv,p,hz⟩:=I1.list (SqL.of h1);exact L3 p.isList (fin _ _ (Itl X.K a) ds (rn a _) ⟨_,s_ _ rfl,rfl,rfl⟩ (yo h1 h2) q)
 | tup ds =>
  obtain ⟨a,xs,rfl,h1,h2⟩:=rd.tupE;cases r1;obtain ⟨its,rv,p,hz⟩:=I1.tuple (SqT.of h1);exact NG (show s1.heap.IsTuple a its.toArray from p) (fin _ _ (Itt X.K a) ds (p8 a _) ⟨_,s_ _ rfl,rfl,rfl⟩ (BA h1 h2) q)
 | str z =>
  cases (show x=.str z from rd);obtain ⟨t,rfl⟩:=r1;have hty:QQ z="str_ascii_iterator"∨QQ z="str_iterator":=by
   unfold QQ;split
   · exact .inl rfl
   · exact .inr rfl
  exact wpAny_pyIter_strU (fin _ _ (Its z) (signs z) (vi z t _ hty) ⟨_,s_ _ rfl,rfl,rfl⟩ BB q)
 | _=>exact q.elim
def qS:List Dv→Option (Rs (List Dv))
 | [.int j]=>if -(2 ^ 62)≤j∧j < 2 ^ 62 then a_ (.ok (rng 0 j.toNat)) else ck
 | _=>ck
def uT:List Dv→Option (Rs (List Dv))
 | [.int i,.int j]=>if -(2 ^ 62)≤i∧i < 2 ^ 62∧-(2 ^ 62)≤j∧j < 2 ^ 62 then a_ (.ok (rng i (j - i).toNat)) else ck
 | _=>ck
theorem kr {H:Hp} {R:It→Hp→Prop} {o:Option (Rs (List Dv))} {k:List Dv→Option (Rs (List Dv))} {P:List V→Hp→Prop} (h:OutI X H (bnd o k) R) (hp:∀ ds vs H',Same H H'→Reps X.K H' ds vs→OutI X H' (k ds) R→P vs H'):OutA X H o P:=by
 match o,h with
 | some (.exc _),h=>exact h
 | some (.ok d),h=>exact fun v H1 e r=>hp d v H1 e r (OutI.mono e h)
theorem rY {ga:FnA} (hg:Gl X "range") (hm:X.mg "range"=ck) (ha:FA X [a] ga) (hs:l_ [a] X.env=[(d_,eval a X.env)]:=by kernel_rfl):FI X tg (.Call (.Name "range" p) [a] [] pos) (fun ρ=>bnd (ga ρ) qS):=by
 constructor;intro j' s σ H R I h;obtain ⟨ρ,E,o⟩:=h;refine rq hg hm ha.h hs j' s σ H R I ⟨ρ,E,kr o fun ds vs H' e rs o1=>?_⟩;unfold qS at o1;split at o1
 · rename_i j;split at o1
   · rename_i hj;obtain ⟨v,us,rfl,r,t⟩:∃ v us,vs=v :: us∧Rep X.K H' (.int j) v∧Reps X.K H' [] us:=rs;cases (show us=[] from t);cases (show v=.int j from r);exact ⟨j,rfl,hj.1,hj.2,o1 _ H' (.refl H') pk⟩
   · exact o1.elim
 · exact o1.elim
theorem rZ {ga:FnA} (hg:Gl X "range") (hm:X.mg "range"=ck) (ha:FA X [a,b] ga) (hs:l_ [a,b] X.env=[(d_,eval a X.env),(d_,eval b X.env)]:=by kernel_rfl) (hs2:l_ [b] X.env=[(d_,eval b X.env)]:=by kernel_rfl) :
 FI X tg (.Call (.Name "range" p) [a,b] [] pos) (fun ρ=>bnd (ga ρ) uT):=by
 constructor;intro j' s σ H R I h;obtain ⟨ρ,E,o⟩:=h;refine rA hg hm ha.h hs hs2 j' s σ H R I ⟨ρ,E,kr o fun ds vs H' e rs o1=>?_⟩;unfold uT at o1;split at o1
 · rename_i i j;split at o1
   · rename_i hj;obtain ⟨v,us,rfl,r,t⟩:∃ v us,vs=v :: us∧Rep X.K H' (.int i) v∧Reps X.K H' [.int j] us:=rs;obtain ⟨v2,us2,rfl,r2,t2⟩:∃ v us',us=v :: us'∧Rep X.K H' (.int j) v∧Reps X.K H' [] us':=t;cases (show us2=[] from t2);cases (show v=.int i from r);cases (show v2=.int j from r2);exact ⟨i,j,rfl,hj,o1 _ H' (.refl H') pk⟩
   · exact o1.elim
 · exact o1.elim
end
def qf (i:Nat) (js:List Nat) (body:FnS):List Dv→Ev→Option Fl
 | [],ρ=>a_ (.nx (fgt js ρ))
 | d :: ds,ρ=>match body ((fgt js ρ).set i (a_ d)) with
  | some (.nx ρ')=>qf i js body ds ρ'
  | o=>o
def BD (i:Nat) (js:List Nat) (src:FnA) (body:FnS):FnS:=fun ρ=>bN (src ρ) fun ds=>qf i js body ds ρ
theorem iw {α:Type} {ds:List α} {i:Nat} {d:α} (h:ds[i]?=a_ d):ds.drop i=d :: ds.drop (i + 1):=by
 obtain ⟨hi,e⟩:=Jm.mp h;rw [List.drop_eq_getElem_cons hi,e]
theorem BE {X:Cx} {tg iter:F_} {body:List Ky} {pos:Pos} {src:FnA} {fb:FnS} (i:Nat) (js:List Nat) (hp:ND (z_ X.prog X.w) X.A X.env X.xe) (hc:X.calm=e_) (hi:FI X tg iter src) (hg:PG X tg (u5 i)) (hb:FSs X body fb)
 (hs:∀ x,JF iter X.env x=pure x:=by intro _; kernel_rfl):FS X (.For tg iter body [] pos) (BD i js src fb):=by
 refine nA (rB hp hc hi.h hg hb.h hs) fun D σ H ρ E o=>⟨ρ,E,?_⟩;unfold BD at o
 match hf:src ρ,o with
 | none,o=>exact o
 | some (.exc c),o=>exact o
 | some (.ok ds),o =>
  intro J H1 e1 wk;have o1:OutS X H1 (qf i js fb ds ρ) D:=OutS.mono e1 o;refine ⟨fun n m σ' H'=>m=ds.length - n∧n≤ds.length∧Same H1 H'∧∃ ρ',Envs X.K H' σ' ρ'∧OutS X H' (qf i js fb (ds.drop n) ρ') D,⟨ds.length,by simp,JA _,.refl H1,ρ,E.mono e1,by simpa using o1⟩,?_⟩;rintro n m σ' H' ⟨rfl,hn,e2,ρ',E',o'⟩;by_cases hlt:n < ds.length
  · refine .inr ⟨wk.go n H' e2 hlt,fun σ2 H2=>Same H1 H2∧∃ ρ2,Envs X.K H2 σ2 ρ2∧OutS X H2 (qf i js fb (ds.drop (n + 1)) ρ2) D,fun σ2 H2 ⟨e3,ρ2,E2,o2⟩=>⟨ds.length - (n + 1),by omega,rfl,hlt,e3,ρ2,E2,o2⟩,fun x H2 y=>?_⟩;obtain ⟨rfl,d,hd,rd⟩:=wk.yld n H' x H2 e2 hlt y;rw [iw hd] at o';show tS X fb _ _ _;refine ⟨(fgt js ρ').set i (a_ d),(Envs.fgt js E').set rd,?_⟩;unfold qf at o'
    match hb':fb ((fgt js ρ').set i (a_ d)) with
    | none=>rw [hb'] at o'; exact o'
    | some (.exc c)=>rw [hb'] at o'; exact o'
    | some (.rt r)=>rw [hb'] at o'; exact o'
    | some (.nx ρ2)=>rw [hb'] at o'; exact fun σ2 H3 e3 E3=>⟨e2.trans e3,ρ2,E3,OutS.mono e3 o'⟩
  · have hn':n=ds.length:=by omega
    subst hn';rw [Na] at o';exact .inl ⟨wk.stop H' e2,o' σ' H' (.refl H') (Envs.fgt js E')⟩
def spF (K:f_) (F:List Dv→Option (Rs Dv)) (n:Nat):Sp:=fun vs H Q _=>∃ ds,Reps K H ds vs∧ds.length=n∧match F ds with
 | some (.ok d)=>∀ v H',Same H H'→Rep K H' d v→Q v H'
 | _=>False
def ag (F:List Dv→Option (Rs Dv)) (n:Nat) (g:FnA):FnE:=fun ρ=>bnd (g ρ) fun ds=>if ds.length=n then (match F ds with | some (.ok d)=>a_ (.ok d) | _=>ck) else ck
section
variable {X:Cx} {k n:Nat} {f:k_} {fd:JZ} {ps:List Str} {x:Str} {p pos:Pos} {e:F_} {es:List F_} {F:List Dv→Option (Rs Dv)} {g:FnA}
theorem yp (G:FnOk X.prog X.w X.K X.mg X.base CX0 k f fd ps (spF X.K F n)) (hr:Room k X.A) (hg:Gl X x) (hm:X.mg x=a_ (.ref f)) (hk:Ka X.K (.ref f)=e_) (hb:Binds X.K fd ps [])
 (ha:FA X (e :: es) g) (hdb:(x == ("__debug__":Str))=d_:=by kernel_rfl) (he:l_ (e :: es) X.env=(d_,eval e X.env) :: l_ es X.env:=by kernel_rfl) (hpl:(JV pos (l_ es X.env)).any (·.1)=d_:=by kernel_rfl) :
 FE X (.Call (.Name x p) (e :: es) [] pos) (ag F n g) :=
 df (nv G hr hg hm hk hb .nil Fk ha.h hdb he hpl) fun σ H Q ρ E o=>⟨ρ,E,OutA.bind o fun ds vs H' e rs o1=>by
  show spF X.K F n (vs ++ []) H' Q E0;rw [My];split at o1
  · rename_i hl;refine ⟨ds,rs,hl,?_⟩
    match hF:F ds with
    | some (.ok d)=>rw [hF] at o1; exact o1
    | some (.exc c)=>rw [hF] at o1; exact o1
    | none=>rw [hF] at o1; exact o1
  · exact o1.elim⟩
def Has (P:rl) (w:C_) (K:f_) (mg:Str→Option g_) (base:H_) (x:Str) (k:Nat) (ps:List Str) (F:List Dv→Option (Rs Dv)):Prop :=
 ∃ f fd,FnOk P w K mg base CX0 k f fd ps (spF K F ps.length)∧mg x=a_ (.ref f)∧Ka K (.ref f)=e_∧Binds K fd ps []
theorem vj {k':Nat} (k:Nat) (ps:List Str) (F:List Dv→Option (Rs Dv)) (h:Has X.prog X.w X.K X.mg X.base x k ps F) (hr:Room k' X.A) (hk:k≤k') (hg:Gl X x) (ha:FA X (e :: es) g) (hn:n=ps.length:=by kernel_rfl) (hdb:(x == ("__debug__":Str))=d_:=by kernel_rfl)
 (he:l_ (e :: es) X.env=(d_,eval e X.env) :: l_ es X.env:=by kernel_rfl) (hpl:(JV pos (l_ es X.env)).any (·.1)=d_:=by kernel_rfl) :
 FE X (.Call (.Name x p) (e :: es) [] pos) (ag F n g):=by
 subst hn;obtain ⟨f,fd,G,hm,hkp,hb⟩:=h;exact yp (G.mono hk) hr hg hm hkp hb ha hdb he hpl
def bp (m:Nat) (fb:FnS):List Dv→Option (Rs Dv):=fun ds=>match fb (ds.map a_ ++ Jj (m - ds.length) ck) with
 | some (.nx _)=>a_ (.ok .non)
 | some (.rt d)=>a_ (.ok d)
 | _=>ck
theorem fj {K:f_} {H:Hp} {N:List Str} {ds:List Dv} {vs:List V} (r:Reps K H ds vs):Envs K H (L2.start N vs) (ds.map a_ ++ Jj (N.length - ds.length) ck):=by
 have hl:=r.length;refine ⟨by unfold L2.start; rw [Kf,Kf,Jo,Jo,Lb,Lb,hl],fun i d h=>?_⟩;by_cases hi:i < ds.length
 · rw [KG (by simpa using hi),JG] at h;cases hd:ds[i]? with
   | none=>rw [hd] at h; cases h
   | some d' =>
    rw [hd] at h;have h':a_ (a_ d')=a_ (a_ d):=h;injection h' with h';injection h' with h';subst h';obtain ⟨v,h1,h2⟩:=r.get' hd;refine ⟨v,?_,h2⟩;unfold L2.start;rw [KG (by rw [Jo,hl]; exact hi),JG,h1] <;> rfl
 · rw [KC (by simpa using hi),LC] at h;split at h <;> cases h
theorem Fy {P:rl} {w:C_} {K:f_} {mg:Str→Option g_} {base:H_} {qual:Str} {st:Ky} {N:List Str} {fb:FnS} (Fn:Fun K x qual st f fd) (S:dO N ps (aF st))
 (hb:∀ (cdv:g_) (A:D_) (outer:List Env) (s:h_) (H:Hp) (E:XK),Room k (A.deeper (LN qual (aF st) s.heap.objs.size f cdv))→FSs (kU CX0 P w K mg base N qual (aF st) f cdv A outer s H E).nox (cM st) fb) :
 FnOk P w K mg base CX0 (k + 1) f fd ps (spF K (bp N.length fb) ps.length):=by
 refine Fn.ok S (fun vs H Q E h=>?_) (fun cdv A outer s H vs Q E hr h=>?_)
 · obtain ⟨ds,r,hl,_⟩:=h;rw [r.length,hl]
 · obtain ⟨ds,r,hl,q⟩:=h;refine ⟨_,(hb cdv A outer s H E hr).h,ds.map a_ ++ Jj (N.length - ds.length) ck,fj r,?_⟩;unfold bp at q
   match hf:fb (ds.map a_ ++ Jj (N.length - ds.length) ck) with
   | none=>rw [hf] at q; exact q.elim
   | some (.exc c)=>rw [hf] at q; exact q.elim
   | some (.rt d)=>rw [hf] at q; exact fun v H' e r'=>q v H' e r'
   | some (.nx ρ)=>rw [hf] at q; exact fun σ' H' e _=>q .non H' e rfl
end
theorem BF {k:Nat} {f:k_} {fd:JZ} {x:Str} {P:rl} {w:C_} {K:f_} {mg:Str→Option g_} {base:H_} {qual:Str} {st:Ky} {F:List Dv→Option (Rs Dv)} {n:Nat} (N ps:List Str) (fb:FnS) (hF:F=bp N.length fb) (hn:n=ps.length)
 (Fn:Fun K x qual st f fd) (S:dO N ps (aF st))
 (hb:∀ (cdv:g_) (A:D_) (outer:List Env) (s:h_) (H:Hp) (E:XK),Room k (A.deeper (LN qual (aF st) s.heap.objs.size f cdv))→FSs (kU CX0 P w K mg base N qual (aF st) f cdv A outer s H E).nox (cM st) fb) :
 FnOk P w K mg base CX0 (k + 1) f fd ps (spF K F n):=by
 subst hF hn;exact Fy Fn S hb
def jx (names:List (Str×Lx)) (env:Env) (acc:List (Str×k_)):List (Str×k_):=match names with
 | []=>acc
 | (n,k) :: r=>jx r env (if k == .free then (n,(env.cells.lookup n).getD 0) :: acc else acc)
theorem kt {env:Env} {n:Str} {c:k_}:∀ (names:List (Str×Lx)) (acc:List (Str×k_)),(jx names env acc).lookup n=a_ c→acc.lookup n=a_ c∨((n,Kv)∈names∧c=(env.cells.lookup n).getD 0)
 | [],acc,h=>.inl h
 | (m,k) :: r,acc,h=>by
  rcases kt r _ h with q | ⟨q1,q2⟩
  · by_cases hk:k=.free
    · subst hk;simp only [beq_self_eq_true,if_true] at q;rw [JN] at q;cases hm:n == m with
      | true =>
       rw [hm] at q;have e:n=m:=by simpa using hm
       subst e;exact .inr ⟨n_,(Jp q).symm⟩
      | false=>rw [hm] at q; exact .inl q
    · have hb:(k == Kv)=d_:=by simpa using hk
      rw [hb] at q;exact .inl (by simpa using q)
  · exact .inr ⟨o_ _ q1,q2⟩
theorem lY {env:Env} {n:Str}:∀ (names:List (Str×Lx)) (acc:List (Str×k_)),(acc.lookup n).isSome=e_→((jx names env acc).lookup n).isSome=e_
 | [],acc,h=>h
 | (m,k) :: r,acc,h=>by
  refine lY r _ ?_;split
  · rw [JN];cases n == m with
    | true=>rfl
    | false=>exact h
  · exact h
theorem kY {env:Env} {n:Str}:∀ (names:List (Str×Lx)) (acc:List (Str×k_)),(n,Kv)∈names→((jx names env acc).lookup n).isSome=e_
 | [],acc,h=>by cases h
 | (m,k) :: r,acc,h=>by
  rcases w_.mp h with e | q
  · injection e with e1 e2;subst e1;subst e2;refine lY r _ ?_;simp only [beq_self_eq_true,if_true,JN];rfl
  · exact kY r _ q
theorem fk {β:Type} {n:Str} {k:β}:∀ {l:List (Str×β)},l.lookup n=a_ k→(n,k)∈l
 | [],h=>by simp at h
 | (m,j) :: r,h=>by
  rw [JN] at h;cases hm:n == m with
  | true =>
   rw [hm] at h;have e:n=m:=by simpa using hm
   subst e;have e2:j=k:=Jp h;subst e2;exact n_
  | false=>rw [hm] at h; exact o_ _ (fk h)
structure Hz (osc scope:Kz) (x:Str) (cs:List (Str×Nat)) (N:List Str):Prop where
 kind:scope.kind=.function
 okind:osc.kind=.function
 cell:∀ y∈scope.names,y.2≠.cell
 names:∀ y∈scope.names,y.2=.local→scope.names.lookup y.1=a_ .local
 tgt:scope.names.lookup x=a_ .local
 nd:(x :: cs.map (·.1)).Nodup
 free:∀ y∈scope.names,y.2=.free→osc.names.lookup y.1=a_ .cell∨osc.names.lookup y.1=a_ .free
 caps:∀ c∈cs,N[c.2]?=a_ c.1∧scope.names.lookup c.1=a_ .free
theorem jg {scope:Kz} {env:Env} {n:Str} {k:Lx} (h:(relabel scope env).names.lookup n=a_ k):(n,k)∈scope.names∨(k=.cell∧(n,Kv)∈scope.names):=by
 have q:=fk h;unfold relabel at q;obtain ⟨⟨m,j⟩,hm,e⟩:=Jz.mp q;dsimp only at e;split at e
 · rename_i hc;injection e with e1 e2;subst e1;have hj:j=.free:=by
    rw [on,on] at hc;simpa using hc.1.1
   subst hj;exact .inr ⟨e2.symm,hm⟩
 · injection e with e1 e2;subst e1;subst e2;exact .inl hm
theorem jh {env:Env}:∀ {names:List (Str×Lx)} {n:Str},names.lookup n=a_ .free →
 (names.map fun (n,k)=>if (k == Kv && env.scope.kind == .function && env.kindOf n == a_ .cell) then (n,KP) else (n,k)).lookup n=a_ .cell ∨
 (names.map fun (n,k)=>if (k == Kv && env.scope.kind == .function && env.kindOf n == a_ .cell) then (n,KP) else (n,k)).lookup n=a_ .free
 | [],_,h=>by simp at h
 | (m,k) :: r,n,h=>by
  have ih:=@jh env r n;rw [JN] at h;rw [Ju];cases hm:n == m with
  | true =>
   rw [hm] at h;have e2:k=.free:=Jp h;subst e2;by_cases hc:(Kv == Kv && env.scope.kind == .function && env.kindOf m == a_ .cell)=e_
   · dsimp only;rw [if_pos hc,JN,hm];exact .inl rfl
   · dsimp only;rw [if_neg hc,JN,hm];exact .inr rfl
  | false =>
   rw [hm] at h;dsimp only;by_cases hc:(k == Kv && env.scope.kind == .function && env.kindOf m == a_ .cell)=e_
   · rw [if_pos hc,JN,hm]; exact ih h
   · rw [if_neg hc,JN,hm]; exact ih h
def vk (cs:List (Str×Nat)) (ρ:Ev):Ev:=ck :: cs.map fun c=>(ρ[c.2]?).join
section
variable {X:Cx} {j':List (k_×Obj)} {σ:L2.St} {H:Hp} {s:h_}
end
def r9 (tst:Option FnB) (elt:FnE) (cap:Ev):List Dv→Option (List Dv)
 | []=>a_ []
 | d :: ds =>
  let ρ:=cap.set 0 (a_ d)
  match (match tst with | none=>(a_ (.ok e_):Option (Rs Bool)) | some t=>t ρ) with
  | some (.ok e_)=>(match elt ρ with
   | some (.ok y)=>(match r9 tst elt cap ds with | some ys=>a_ (y :: ys) | none=>ck)
   | _=>ck)
  | some (.ok d_)=>r9 tst elt cap ds
  | _=>ck
def bX (cs:List (Str×Nat)) (src:FnA) (tst:Option FnB) (elt:FnE):FnE:=fun ρ=>bnd (src ρ) fun ds=>match r9 tst elt (vk cs ρ) ds with
 | some ys=>if ys.length≤100000∧ds.length≤100000 then a_ (.ok (.lst ys)) else ck
 | none=>ck
def LAt (h:H_) (D:k_) (its:List g_):Prop:=∃ n,h.get? D=a_ { cls:=.type "list",data:=.seq its.toArray n }
theorem qg {P:rl} {w:C_} {A:D_} {E:g_→h_→Prop} {s:h_} {D:k_} {its:List g_} {u:g_} {Q:g_→h_→Prop} (h:LAt s.heap D its) (hz:its.length≤100000)
 (hQ:∀ h',LAt h' D (its ++ [u])→(∀ b o,b≠D→s.heap.get? b=a_ o→h'.get? b=a_ o)→Q .none { s with heap:=h' }):uk (z_ P w) A (call (.builtin "list.append") [.ref D,u]) Q E s:=by
 obtain ⟨n,e⟩:=h;refine M6 Ng ⟨_,e,rfl⟩ Pz (Pb _ _) (P_ D its.toArray n u (by rw [E_]; exact cr hz)) ⟨e,?_⟩;have q:=Qz e (·.push u);have e2:its.toArray.push u=(its ++ [u]).toArray:=by simp
 rw [e2] at q;exact hQ _ ⟨_,q⟩ fun b o hb ho=>(MQ s.heap _ (MU hb)).trans ho
def uU (X:Cx) (ifs:List F_) (tst:Option FnB):Prop:=match tst with
 | none=>ifs=[]
 | some t=>∃ c,ifs=[c]∧FT X c t
theorem HOk.add {P:rl} {w:C_} {H:Hp} {h h':H_} {D C:k_} {o:HO} (x:HOk P w H h) (hD:H D=ck) (hC:H C=ck) (k:∀ b u,b≠C→h.get? b=a_ u→h'.get? b=a_ u) (new:ObjOk P w (upd H D o) h' D o):HOk P w (upd H D o) h':=fun b u e=>by
 by_cases hb:b=D
 · subst hb; rw [ax] at e; cases e; exact new
 · rw [av hb] at e;refine (x b u e).stay (fun c v hc q=>k c v ?_ q) (fun c q=>by rw [av (aq q hD)]; exact q) fun c xs q=>by rw [av (aq q hD)]; exact q
   rcases hc with rfl | hc
   · exact aq e hC
   · exact aq hc hC
theorem yq {b D:Nat} (h:b < D):b≠D:=by omega
theorem BG {b D:Nat} (h:b < D):b≠D + 1:=by omega
theorem HB {D:Nat}:D≠D + 1:=by omega
section
variable {X:Cx}
def cO:Dv→Dv→Option (Rs Dv)
 | .int i,.int j=>a_ (.ok (.int (i + j)))
 | .str x,.str y=>if x.length + y.length≤100000 then a_ (.ok (.str (x ++ y))) else ck
 | .lst a,.lst b=>if a.length + b.length≤100000 then a_ (.ok (.lst (a ++ b))) else ck
 | _,_=>ck
def yr:R2:=fun x y H Q=>rI0 (fun i j=>.int (i + j)) x y H Q∨((∃ i j,x=.str i∧y=.str j∧i.length + j.length≤sizeLine∧Q (.str (i ++ j)) H)∨Hx x y H Q)
theorem o_add:OpR X (Lg .Add) yr:=op_add.or (op_add_str.or Bi)
theorem BH:GOp X yr cO:=by
 intro dx dy x y H Q rx ry o;cases dx <;> cases dy <;> try exact (show False from o).elim
 · rename_i i j;exact .inl ⟨i,j,rx,ry,o _ H (.refl H) rfl⟩
 · rename_i i j;simp only [cO] at o;split at o
   · rename_i hl;exact .inr (.inl ⟨i,j,rx,ry,cr hl,o _ H (.refl H) rfl⟩)
   · exact o.elim
 · rename_i a b;simp only [cO] at o;split at o
   · rename_i hl;obtain ⟨p,xs,rfl,h1,q1⟩:=rx.lstE;obtain ⟨p2,xs2,rfl,h2,q2⟩:=ry.lstE;refine .inr (.inr ⟨p,p2,xs,xs2,rfl,rfl,h1,h2,by rw [q1.length,q2.length]; exact cr hl,fun l hl=>o _ _ (aG hl _) ⟨l,_,rfl,ax,Reps.mono (aG hl _) _ _ (q1.append q2)⟩⟩)
   · exact o.elim
def xg:Dv→Dv→Option (Rs Dv)
 | .int i,.int j=>a_ (.ok (.int (i - j)))
 | _,_=>ck
theorem Fz:GOp X (rI0 fun i j=>.int (i - j)) xg:=by
 intro dx dy x y H Q rx ry o;cases dx <;> cases dy <;> try exact (show False from o).elim
 rename_i i j;exact ⟨i,j,rx,ry,o _ H (.refl H) rfl⟩
def jp:Dv→Dv→Option (Rs Dv)
 | .int i,.int j=>if (-18446744073709551616 < i∧i < 18446744073709551616)∨(-18446744073709551616 < j∧j < 18446744073709551616) then a_ (.ok (.int (i * j))) else ck
 | _,_=>ck
theorem FB:GOp X (rI CMul fun i j=>.int (i * j)) jp:=by
 intro dx dy x y H Q rx ry o;cases dx <;> cases dy <;> try exact (show False from o).elim
 rename_i i j;simp only [jp] at o;split at o
 · rename_i h;exact ⟨i,j,rx,ry,h,o _ H (.refl H) rfl⟩
 · exact o.elim
def ip:Dv→Dv→Option (Rs Dv)
 | .int i,.int j=>if 0 < j then a_ (.ok (.int (i % j))) else ck
 | _,_=>ck
theorem FF:GOp X (rI (fun _ j=>0 < j) fun i j=>.int (i % j)) ip:=by
 intro dx dy x y H Q rx ry o;cases dx <;> cases dy <;> try exact (show False from o).elim
 rename_i i j;simp only [ip] at o;split at o
 · rename_i h;exact ⟨i,j,rx,ry,h,o _ H (.refl H) rfl⟩
 · exact o.elim
def iy:Dv→Dv→Option (Rs Dv)
 | .int i,.int j=>if 0 < j∧j < 1073741824 then a_ (.ok (.int (i / j))) else ck
 | _,_=>ck
theorem BI:GOp X (rI Hr fun i j=>.int (i / j)) iy:=by
 intro dx dy x y H Q rx ry o;cases dx <;> cases dy <;> try exact (show False from o).elim
 rename_i i j;simp only [iy] at o;split at o
 · rename_i h;exact ⟨i,j,rx,ry,h,o _ H (.refl H) rfl⟩
 · exact o.elim
def xh:Dv→Option (Rs Dv)
 | .int i=>a_ (.ok (.int (-i)))
 | _=>ck
def f1 (g:Dv→Option (Rs Dv)) (fa:FnE):FnE:=fun ρ=>bnd (fa ρ) g
theorem BJ {a:F_} {fa:FnE} {pos:Pos} (ha:FE X a fa):FE X (.UnaryOp .USub a pos) (f1 xh fa) :=
 df (Fa AY ha.h) fun σ H Q ρ E o=>⟨ρ,E,Out.bind o fun d v H1 e r o1=>by
  cases d <;> try exact (show False from o1).elim
  rename_i i;exact ⟨i,r,o1 _ H1 (.refl H1) rfl⟩⟩
def seq (x y:Str):Bool:=x.cps.toList == y.cps.toList
theorem xi (x y:Str):(x == y)=seq x y:=by
 rw [JX];unfold seq;obtain ⟨⟨a⟩⟩:=x;obtain ⟨⟨b⟩⟩:=y;simp
def eqS:Dv→Dv→Option Bool
 | .non,.non=>a_ e_
 | .non,.int _=>a_ d_
 | .int _,.non=>a_ d_
 | .non,.bl _=>a_ d_
 | .bl _,.non=>a_ d_
 | .non,.str _=>a_ d_
 | .str _,.non=>a_ d_
 | .int i,.int j=>a_ (i == j)
 | .bl i,.bl j=>a_ (i == j)
 | .str i,.str j=>a_ (seq i j)
 | .int _,.str _=>a_ d_
 | .str _,.int _=>a_ d_
 | .bl _,.str _=>a_ d_
 | .str _,.bl _=>a_ d_
 | _,_=>ck
theorem xj {K:f_} {H:Hp} {dx dy:Dv} {x y:V} {b:Bool} (rx:Rep K H dx x) (ry:Rep K H dy y) (h:eqS dx dy=a_ b):Fc x y=e_∧u_ (x=y)=b:=by
 cases dx <;> cases dy <;> (try cases h) <;> (try (cases rx; cases ry; exact ⟨rfl,by first | rfl | exact nj | exact rD | (rw [nq,xi]) | simp⟩))
def FH (p:Int→Int→Bool):Dv→Dv→Option (Rs Dv)
 | .int i,.int j=>a_ (.ok (.bl (p i j)))
 | _,_=>ck
theorem BK (p:Int→Int→Bool):GOp X (rI0 fun i j=>.bl (p i j)) (FH p):=by
 intro dx dy x y H Q rx ry o;cases dx <;> cases dy <;> try exact (show False from o).elim
 rename_i i j;exact ⟨i,j,rx,ry,o _ H (.refl H) rfl⟩
abbrev gtD:=FH fun i j=>u_ (j < i)
def isN:Dv→Dv→Option (Rs Dv)
 | x,.non=>a_ (.ok (.bl (match x with | .non=>e_ | _=>d_)))
 | _,_=>ck
def cY:Dv→Dv→Option (Rs Dv)
 | x,.non=>a_ (.ok (.bl (match x with | .non=>d_ | _=>e_)))
 | _,_=>ck
theorem se {K:f_} {H:Hp} {d:Dv} {v:V} (r:Rep K H d v):u_ (v=.non)=(match d with | .non=>e_ | _=>d_):=by
 cases d with
 | non=>cases (show v=.non from r); rfl
 | bl b=>cases (show v=.bl b from r); rfl
 | int b=>cases (show v=.int b from r); rfl
 | str b=>cases (show v=.str b from r); rfl
 | tup ds=>obtain ⟨a,xs,rfl,_⟩:=r.tupE; rfl
 | lst ds=>obtain ⟨a,xs,rfl,_⟩:=r.lstE; rfl
 | scr ds=>obtain ⟨a,rfl,_⟩:=r.scrE; rfl
 | exn c =>
  obtain ⟨a,_,_,_,rfl,_⟩:=r.exnE;rfl
theorem BL:GOp X (fun x y H Q=>y=.non∧Q (.bl (u_ (x=.non))) H) isN:=by
 intro dx dy x y H Q rx ry o;cases dy <;> try exact (show False from o).elim
 have q:=se rx;refine ⟨ry,?_⟩;have q2:=o _ H (.refl H) rfl;cases dx <;> (rw [q]; exact q2)
theorem xl:GOp X (fun x y H Q=>y=.non∧Q (.bl (!u_ (x=.non))) H) cY:=by
 intro dx dy x y H Q rx ry o;cases dy <;> try exact (show False from o).elim
 have q:=se rx;refine ⟨ry,?_⟩;have q2:=o _ H (.refl H) rfl;cases dx <;> (rw [q]; exact q2)
def inS (x y:Str):Bool:=!(Jx y x 0 y.length 1).isEmpty
def iR:Dv→Bool
 | .non=>e_
 | .bl _=>e_
 | .int _=>e_
 | .str _=>e_
 | _=>d_
def eqF:Dv→Dv→Bool
 | .non,.non=>e_
 | .bl a,.bl b=>a == b
 | .bl a,.int b=>(if a then 1 else 0) == b
 | .int a,.bl b=>a == (if b then 1 else 0)
 | .int a,.int b=>a == b
 | .str a,.str b=>seq a b
 | _,_=>d_
def inL (x:Dv) (ys:List Dv):Option Bool:=if iR x && ys.all iR then a_ (ys.any fun y=>eqF y x) else ck
def Ao:Dv→Dv→Option Bool
 | .str x,.str y=>a_ (inS x y)
 | x,.lst ys=>inL x ys
 | x,.tup ys=>inL x ys
 | _,_=>ck
def inD (x y:Dv):Option (Rs Dv):=match Ao x y with
 | some b=>a_ (.ok (.bl b))
 | none=>ck
def lZ (x y:Dv):Option (Rs Dv):=match Ao x y with
 | some b=>a_ (.ok (.bl (!b)))
 | none=>ck
theorem nH {K:f_} {H:Hp} {d:Dv} {v:V} (r:Rep K H d v) (h:iR d=e_):h8 v=e_:=by
 cases d <;> first | (cases h; done) | (cases r; rfl)
theorem kZ {K:f_} {H:Hp}:∀ {ds:List Dv} {vs:List V},Reps K H ds vs→ds.all iR=e_→vs.all h8=e_
 | [],vs,r,_=>by cases (show vs=[] from r); rfl
 | d :: ds,vs,r,h=>by
  obtain ⟨v,us,rfl,r1,r2⟩:∃ v us,vs=v :: us∧Rep K H d v∧Reps K H ds us:=r;rw [LW,on] at h;rw [LW,on];exact ⟨nH r1 h.1,kZ r2 h.2⟩
theorem xm {K:f_} {H:Hp} {d e:Dv} {v u:V} (r:Rep K H d v) (q:Rep K H e u) (h:iR d=e_) (h':iR e=e_):eqV v u=eqF d e:=by
 cases d <;> first | (cases h; done) | (cases r; cases e <;> first | (cases h'; done) | (cases q; first | rfl | exact xi _ _))
theorem xn {K:f_} {H:Hp} {e:Dv} {u:V} (q:Rep K H e u) (h':iR e=e_):∀ {ds:List Dv} {vs:List V},Reps K H ds vs→ds.all iR=e_→(vs.any fun y=>eqV y u)=ds.any fun y=>eqF y e
 | [],vs,r,_=>by cases (show vs=[] from r); rfl
 | d :: ds,vs,r,h=>by
  obtain ⟨v,us,rfl,r1,r2⟩:∃ v us,vs=v :: us∧Rep K H d v∧Reps K H ds us:=r;rw [LW,on] at h;rw [Nd,Nd,xm r1 q h.1 h',xn q h' r2 h.2]
theorem pq {K:f_} {H:Hp} {dx:Dv} {ys:List Dv} {x:V} {vs:List V} {b:Bool} (rx:Rep K H dx x) (ry:Reps K H ys vs) (h:inL dx ys=a_ b):h8 x=e_∧vs.all h8=e_∧inV x vs=b:=by
 unfold inL at h;split at h
 · rename_i hc;rw [on] at hc;cases h;exact ⟨nH rx hc.1,kZ ry hc.2,xn rx hc.1 ry hc.2⟩
 · cases h
def HC (K:f_):R2:=fun x y H Q=>(∃ i j,x=.str i∧y=.str j∧Q (.bl (!(Jx j i 0 j.length 1).isEmpty)) H)∨rIn K d_ x y H Q
def nI (K:f_):R2:=fun x y H Q=>(∃ i j,x=.str i∧y=.str j∧Q (.bl (!(!(Jx j i 0 j.length 1).isEmpty))) H)∨rIn K e_ x y H Q
theorem HE:OpR X (JL .In) (HC X.K):=op_in_str.or rQ
theorem o_notIn:OpR X (JL .NotIn) (nI X.K):=op_notIn_str.or lW
theorem HF:GOp X (HC X.K) inD:=by
 intro dx dy x y H Q rx ry o;unfold inD at o;split at o
 · rename_i b hb;have q:=o _ H (.refl H) rfl;cases dy <;> try (cases dx <;> cases hb; done)
   · rename_i z;cases dx <;> try (cases hb; done)
     rename_i z';cases hb;exact .inl ⟨z',z,rx,ry,q⟩
   · rename_i ys;have hb':inL dx ys=a_ b:=by cases dx <;> exact hb
     obtain ⟨a,vs,rfl,h1,h2⟩:=ry.tupE;obtain ⟨f1,f2,f3⟩:=pq rx h2 hb';exact .inr ⟨a,vs,rfl,.inr (SqT.of h1),f1,f2,by rw [if_neg xy,f3]; exact q⟩
   · rename_i ys;have hb':inL dx ys=a_ b:=by cases dx <;> exact hb
     obtain ⟨a,vs,rfl,h1,h2⟩:=ry.lstE;obtain ⟨f1,f2,f3⟩:=pq rx h2 hb';exact .inr ⟨a,vs,rfl,.inl (SqL.of h1),f1,f2,by rw [if_neg xy,f3]; exact q⟩
 · exact o.elim
theorem sf:GOp X (nI X.K) lZ:=by
 intro dx dy x y H Q rx ry o;unfold lZ at o;split at o
 · rename_i b hb;have q:=o _ H (.refl H) rfl;cases dy <;> try (cases dx <;> cases hb; done)
   · rename_i z;cases dx <;> try (cases hb; done)
     rename_i z';cases hb;exact .inl ⟨z',z,rx,ry,q⟩
   · rename_i ys;have hb':inL dx ys=a_ b:=by cases dx <;> exact hb
     obtain ⟨a,vs,rfl,h1,h2⟩:=ry.tupE;obtain ⟨f1,f2,f3⟩:=pq rx h2 hb';exact .inr ⟨a,vs,rfl,.inr (SqT.of h1),f1,f2,by rw [if_pos rfl,f3]; exact q⟩
   · rename_i ys;have hb':inL dx ys=a_ b:=by cases dx <;> exact hb
     obtain ⟨a,vs,rfl,h1,h2⟩:=ry.lstE;obtain ⟨f1,f2,f3⟩:=pq rx h2 hb';exact .inr ⟨a,vs,rfl,.inl (SqL.of h1),f1,f2,by rw [if_pos rfl,f3]; exact q⟩
 · exact o.elim
def atD {α:Type} (xs:List α) (i:Int):Option α:=if 0≤i then xs[i.toNat]? else if -(xs.length:Int)≤i then xs[(i + xs.length).toNat]? else ck
theorem k6 {α:Type} {xs:List α} {i:Int} {v:α} (h:atD xs i=a_ v):atI xs i=a_ v:=by
 unfold atD at h;unfold atI ixN;split at h
 · rename_i h0;have hl:i.toNat < xs.length:=by
    obtain ⟨q,_⟩:=Jm.mp h;exact q
   rw [if_pos h0,if_pos (by omega)];exact h
 · rename_i h0;split at h
   · rename_i h1;rw [if_neg h0,if_pos h1];exact h
   · cases h
def ixD:Dv→Dv→Option (Rs Dv)
 | .lst xs,.int i=>(match atD xs i with | some d=>a_ (.ok d) | none=>ck)
 | .tup xs,.int i=>(match atD xs i with | some d=>a_ (.ok d) | none=>ck)
 | .str z,.int i=>if z.length≤100000 then (match atD z.cps.toList i with | some c=>a_ (.ok (.str ⟨#[c]⟩)) | none=>ck) else ck
 | .scr ns,.int i=>(match atD ns i with | some d=>a_ (.ok (.int d)) | none=>ck)
 | _,_=>ck
theorem nJ {α β:Type} {xs:List α} {ys:List β} (h:ys.length=xs.length) {i:Int} {x:α} (e:atD xs i=a_ x):∃ j:Nat,xs[j]?=a_ x∧∀ y,ys[j]?=a_ y→atD ys i=a_ y:=by
 unfold atD at e;split at e
 · rename_i h0;exact ⟨_,e,fun y q=>by unfold atD; rw [if_pos h0]; exact q⟩
 · rename_i h0;split at e
   · rename_i h1;exact ⟨_,e,fun y q=>by unfold atD; rw [if_neg h0,h,if_pos h1]; exact q⟩
   · cases e
theorem Iz:GOp X (rIx X.K) ixD:=by
 intro dx dy x y H Q rx ry o;cases dx <;> cases dy <;> try exact (show False from o).elim
 · rename_i z i;simp only [ixD] at o;split at o
   · rename_i hl;split at o
     · rename_i c hc;exact .inr (.inr ⟨z,i,c,rx,ry,cr hl,k6 hc,o _ H (.refl H) rfl⟩)
     · exact o.elim
   · exact o.elim
 · rename_i ds i;simp only [ixD] at o;split at o
   · rename_i d hd;obtain ⟨a,xs,rfl,h1,h2⟩:=rx.tupE;obtain ⟨j,e1,e2⟩:=nJ h2.length hd;obtain ⟨v,e3,r3⟩:=h2.get' e1;exact .inr (.inl ⟨a,xs,i,v,rfl,ry,SqT.of h1,k6 (e2 v e3),o v H (.refl H) r3⟩)
   · exact o.elim
 · rename_i ds i;simp only [ixD] at o;split at o
   · rename_i d hd;obtain ⟨a,xs,rfl,h1,h2⟩:=rx.lstE;obtain ⟨j,e1,e2⟩:=nJ h2.length hd;obtain ⟨v,e3,r3⟩:=h2.get' e1;exact .inl ⟨a,xs,i,v,rfl,ry,SqL.of h1,k6 (e2 v e3),o v H (.refl H) r3⟩
   · exact o.elim
 · rename_i ns i;simp only [ixD] at o;split at o
   · rename_i d hd;obtain ⟨a,rfl,h1⟩:=rx.scrE;obtain ⟨j,e1,e2⟩:=nJ (ys:=ns.map V.int) (by simp) hd;exact .inl ⟨a,_,i,.int d,rfl,ry,h1,k6 (e2 _ (by rw [JG,e1] <;> rfl)),o _ H (.refl H) rfl⟩
   · exact o.elim
theorem FJ {a b:F_} {fa fb:FnE} {pos:Pos} (ha:FE X a fa) (hb:FE X b fb) (hs:rN b:=by intro _ _; kernel_rfl):FE X (.Subscript a b pos) (f2 ixD fa fb) :=
 df (Fh Bf ha.h hb.h hs) fun _ _ _ _ E o=>two Iz E o
abbrev FnO:=Ev→Option (Rs (Option Int))
def OutO (X:Cx) (H:Hp) (o:Option (Rs (Option Int))) (Q:Option Int→Hp→Prop):Prop:=match o with
 | none=>False
 | some (.exc c)=>XW X c H
 | some (.ok d)=>∀ H',Same H H'→Q d H'
theorem OutO.mono {H H':Hp} {Q:Option Int→Hp→Prop} (e:Same H H'):∀ {o:Option (Rs (Option Int))},OutO X H o Q→OutO X H' o Q
 | none,h=>h
 | some (.exc _),h=>XW.mono h e
 | some (.ok _),h=>fun H1 e1=>h H1 (e.trans e1)
structure FO (X:Cx) (e:Option F_) (f:FnO):Prop where
 h:PO X e fun σ H Q=>∃ ρ,Envs X.K H σ ρ∧OutO X H (f ρ) Q
def dc:FnO:=fun _=>a_ (.ok ck)
def toI:Dv→Option (Rs (Option Int))
 | .int i=>a_ (.ok (a_ i))
 | _=>ck
def cg (f:FnE):FnO:=fun ρ=>bnd (f ρ) toI
theorem yt:FO X ck dc:=⟨fun j' s σ H Q I ⟨_,_,o⟩=>ye j' s σ H Q I (o H (.refl H))⟩
theorem yu {e:F_} {fa:FnE} (h:FE X e fa):FO X (a_ e) (cg fa):=⟨fun j' s σ H Q I ⟨ρ,E,o⟩=>yf h.h j' s σ H Q I ⟨ρ,E,by
 unfold cg at o
 match hf:fa ρ,o with
 | none,o=>exact o
 | some (.exc c),o=>exact o
 | some (.ok d),o =>
  intro v H' e r;cases d <;> try exact (show False from o).elim
  rename_i i;exact ⟨i,r,o H' e⟩⟩⟩
def xo {α:Type} (xs:List α) (lo hi:Option Int):List α:=(xs.drop (HT.sIx xs.length 0 lo)).take (HT.sIx xs.length xs.length hi - HT.sIx xs.length 0 lo)
def IA:V→Option Int→Option Int→Hp→VK→Prop:=fun x lo hi H Q=>∃ z,x=.str z∧z.length≤sizeLine∧Q (.str (Qu z lo hi)) H
theorem sl_str:SlR X IA:=by
 intro j' s σ H x v vl vu lo hi sl Q I rx hs pl pu q;obtain ⟨z,rfl,hz,q⟩:=q;obtain ⟨t,rfl⟩:=rx;refine ⟨"str",_,F.slot_str_getitem.lookup,M5 _ _ _,?_⟩;have fin:∀ (t':Tok) (k:Nat),EP X j' σ Q (.str (Qu z lo hi) t') { s with toks:=k }:=fun t' k=>⟨.str (Qu z lo hi),H,I.tok _,⟨_,rfl⟩,q⟩;cases pl with
 | none =>
  cases pu with
  | none=>exact Ls (l:=ck) (u:=ck) (st:=ck) hs rfl (Nj ⟨Jy (Ox z _ _) hz,fun t' k=>fin t' k⟩)
  | int j u=>exact Ls (l:=ck) (u:=a_ (j,u)) (st:=ck) hs rfl (Nj ⟨Jy (Ox z _ _) hz,fun t' k=>fin t' k⟩)
 | int i u' =>
  cases pu with
  | none=>exact Ls (l:=a_ (i,u')) (u:=ck) (st:=ck) hs rfl (Nj ⟨Jy (Ox z _ _) hz,fun t' k=>fin t' k⟩)
  | int j u=>exact Ls (l:=a_ (i,u')) (u:=a_ (j,u)) (st:=ck) hs rfl (Nj ⟨Jy (Ox z _ _) hz,fun t' k=>fin t' k⟩)
def Es (x:Dv) (lo hi:Option Int):Option (Rs Dv):=match x with
 | .str z=>if z.length≤100000 then a_ (.ok (.str (Qu z lo hi))) else ck
 | .lst xs=>a_ (.ok (.lst (xo xs lo hi)))
 | _=>ck
def qT (fa:FnE) (fl fh:FnO):FnE:=fun ρ=>bnd (fa ρ) fun x=>bnd (fl ρ) fun lo=>bnd (fh ρ) fun hi=>Es x lo hi
theorem iz {H:Hp} {Q:VK} {o:Option (Rs (Option Int))} {k:Option Int→Option (Rs Dv)} {P:Option Int→Hp→Prop} (h:Out X H (bnd o k) Q) (hp:∀ b H',Same H H'→Out X H' (k b) Q→P b H'):OutO X H o P:=by
 match o,h with
 | some (.exc _),h=>exact h
 | some (.ok d),h=>exact fun H1 e=>hp d H1 e (Out.mono e h)
theorem BM {a:F_} {lo hi:Option F_} {fa:FnE} {fl fh:FnO} {p2 pos:Pos} (ha:FE X a fa) (hl:FO X lo fl) (hh:FO X hi fh):FE X (.Subscript a (.Slice lo hi ck p2) pos) (qT fa fl fh) :=
 df (pc (sl_str.or rO) ha.h hl.h hh.h) fun σ H Q ρ E o=>⟨ρ,E,Out.bind o fun d v H1 e1 r1 o1=>⟨ρ,E.mono e1,iz o1 fun l H2 e2 o2=>⟨ρ,(E.mono e1).mono e2,iz o2 fun u H3 e3 o3=>by
  have r3:=Rep.mono e3 d v (Rep.mono e2 d v r1);cases d <;> try exact (show False from o3).elim
  · rename_i z;unfold Es at o3;dsimp only at o3;split at o3
    · rename_i hz;exact .inl ⟨z,r3,cr hz,o3 _ H3 (.refl H3) rfl⟩
    · exact o3.elim
  · rename_i ds;obtain ⟨a',xs,rfl,h1,h2⟩:=r3.lstE;refine .inr ⟨a',xs,rfl,SqL.of h1,fun p hp=>o3 _ _ (aG hp _) ⟨p,_,rfl,ax,Reps.mono (aG hp _) _ _ ?_⟩⟩;unfold vf xo;rw [h2.length];exact (h2.drop _).take _⟩⟩⟩
def gZ:List Dv→Option (Rs Dv)
 | [.str z]=>if z.length≤100000 then a_ (.ok (.int z.length)) else ck
 | [.lst xs]=>a_ (.ok (.int xs.length))
 | [.tup xs]=>a_ (.ok (.int xs.length))
 | [.scr ns]=>a_ (.ok (.int ns.length))
 | _=>ck
def fB1 (g:List Dv→Option (Rs Dv)) (ga:FnA):FnE:=fun ρ=>bnd (ga ρ) g
variable {x:Str} {p pos:Pos} {e:F_} {es:List F_} {ga:FnA}
theorem dz {K:f_} {H:Hp} {d:Dv} {vs:List V} (r:Reps K H [d] vs):∃ v,vs=[v]∧Rep K H d v:=by
 obtain ⟨v,us,rfl,r1,r2⟩:∃ v us,vs=v :: us∧Rep K H d v∧Reps K H [] us:=r;cases (show us=[] from r2);exact ⟨v,rfl,r1⟩
theorem yw {K:f_} {H:Hp} {d d2:Dv} {vs:List V} (r:Reps K H [d,d2] vs):∃ v v2,vs=[v,v2]∧Rep K H d v∧Rep K H d2 v2:=by
 obtain ⟨v,us,rfl,r1,r2⟩:∃ v us,vs=v :: us∧Rep K H d v∧Reps K H [d2] us:=r;obtain ⟨v2,rfl,r3⟩:=dz r2;exact ⟨v,v2,rfl,r1,r3⟩
theorem BN (hg:Gl X "len") (hm:X.mg "len"=ck) (ha:FA X (e :: es) ga) (he:l_ (e :: es) X.env=(d_,eval e X.env) :: l_ es X.env:=by kernel_rfl) (hpl:(JV pos (l_ es X.env)).any (·.1)=d_:=by kernel_rfl):FE X (.Call (.Name "len" p) (e :: es) [] pos) (fB1 gZ ga) :=
 df (gK vb hg hm Q6 ha.h (by decide) (by decide) he hpl) fun σ H Q ρ E o=>⟨ρ,E,OutA.bind o fun ds vs H1 e1 rs o1=>by
  unfold gZ at o1;split at o1
  · rename_i z;split at o1
    · rename_i hz;obtain ⟨v,rfl,r⟩:=dz rs;cases (show v=.str z from r);exact ⟨_,_,rfl,⟨cr hz,rfl⟩,o1 _ H1 (.refl H1) rfl⟩
    · exact o1.elim
  · rename_i xs;obtain ⟨v,rfl,r⟩:=dz rs;obtain ⟨a,ws,rfl,h1,h2⟩:=r.lstE;exact ⟨_,_,rfl,.inl ⟨ws,SqL.of h1,rfl⟩,o1 _ H1 (.refl H1) (by rw [h2.length]; rfl)⟩
  · rename_i xs;obtain ⟨v,rfl,r⟩:=dz rs;obtain ⟨a,ws,rfl,h1,h2⟩:=r.tupE;exact ⟨_,_,rfl,.inr ⟨ws,SqT.of h1,rfl⟩,o1 _ H1 (.refl H1) (by rw [h2.length]; rfl)⟩
  · rename_i ns;obtain ⟨v,rfl,r⟩:=dz rs;obtain ⟨a,rfl,h1⟩:=r.scrE;exact ⟨_,_,rfl,.inl ⟨_,h1,rfl⟩,o1 _ H1 (.refl H1) (by rw [Jo]; rfl)⟩
  · exact o1.elim⟩
def dD:List Dv→Option (List Bool)
 | []=>a_ []
 | .bl b :: r=>(match dD r with | some bs=>a_ (b :: bs) | none=>ck)
 | _=>ck
def iA:List Dv→Option (Rs Dv)
 | [.lst xs]=>(match dD xs with | some bs=>a_ (.ok (.bl (bs.all id))) | none=>ck)
 | _=>ck
theorem k7 {K:f_} {H:Hp}:∀ {ds:List Dv} {vs:List V} {us:List g_} {bs:List Bool},Reps K H ds vs→Vals vs us→dD ds=a_ bs→us=bs.map JO
 | [],vs,us,bs,r,q,h=>by
  cases (show vs=[] from r);cases q;cases h;rfl
 | d :: ds,vs,us,bs,r,q,h=>by
  obtain ⟨v,ws,rfl,r1,r2⟩:∃ v us,vs=v :: us∧Rep K H d v∧Reps K H ds us:=r;cases q with
  | cons q1 q2 =>
   cases d <;> try (cases h; done)
   rename_i b;simp only [dD] at h;cases hb:dD ds with
   | none=>rw [hb] at h; cases h
   | some bs' =>
    rw [hb] at h;cases h;cases (show v=.bl b from r1);cases q1;rw [k7 r2 q2 hb];rfl
theorem vm:CallR X (.builtin "all") (fun xs H Q=>∃ a vs bs ds,xs=[.ref a]∧H a=a_ (.lst vs)∧Reps X.K H ds vs∧dD ds=a_ bs∧X.calm=e_∧Q (.bl (bs.all id)) H):=by
 intro j' s σ H xs us Q I r h;obtain ⟨a,vs,bs,ds,rfl,h1,h2,h3,hc,q⟩:=h;obtain ⟨u,rfl,ru⟩:=fg r;cases ru;obtain ⟨z,its,n,rv,hl,e⟩:=I.lstM h1;have eb:=k7 h2 rv h3;subst eb;have hL:s.heap.IsList a (bs.map JO).toArray:=⟨_,e,rfl,_,rfl⟩;have hlt:a < s.heap.objs.size:=v_ e;refine call_all_walk (L3 hL ?_);refine ⟨s.heap.objs.size,[s.heap.objs.size,a],[s.heap.objs.size],(bs.map JO).toArray.size,_,_,fun i=>(bs[i]?).getD e_,rfl,PV (A:=X.A.in1) (I.ok.hd hc) _ a (I_ hlt) (bs.map JO).toArray,
  ⟨⟨_,s_ _ rfl,rfl,rfl⟩,hL.push _⟩,fun i v s' Q' E' hP hQ=>?_,fun h' tk hk=>?_⟩
 · have hP':(bs.map JO)[i]?=a_ v:=by simpa using hP
   rw [JG] at hP';cases hb:bs[i]? with
   | none=>rw [hb] at hP'; cases hP'
   | some b =>
    rw [hb] at hP';cases hP';have hQ2:Q' ((bs[i]?).getD e_) s':=hQ;rw [hb] at hQ2;exact KT hQ2
 · have e2:((pi (bs.map JO).toArray.size).all fun i=>(bs[i]?).getD e_)=bs.all id:=by
    rw [E_,Jo];rw [JX];simp only [Kj,JQ,id];constructor
    · intro hh b hb;obtain ⟨i,hi,rfl⟩:=Pg.mp hb;simpa [hi] using hh i hi
    · intro hh i hi;simp only [B_ hi,QE];exact hh _ (Mh hi)
   rw [e2];refine ⟨.bl _,H,I.kept fun b x eb=>hk b x (fun hm=>?_) (i_ _ eb),rfl,q⟩;rw [Jk.mp hm] at eb;exact Kw _ (v_ eb)
theorem BO (hc:X.calm=e_) (hg:Gl X "all") (hm:X.mg "all"=ck) (ha:FA X (e :: es) ga) (he:l_ (e :: es) X.env=(d_,eval e X.env) :: l_ es X.env:=by kernel_rfl) (hpl:(JV pos (l_ es X.env)).any (·.1)=d_:=by kernel_rfl):FE X (.Call (.Name "all" p) (e :: es) [] pos) (fB1 iA ga) :=
 df (gK vm hg hm PyProof.Rows.boot_all ha.h (by decide) (by decide) he hpl) fun σ H Q ρ E o=>⟨ρ,E,OutA.bind o fun ds vs H1 e1 rs o1=>by
  unfold iA at o1;split at o1
  · rename_i xs;split at o1
    · rename_i bs hb;obtain ⟨v,rfl,r⟩:=dz rs;obtain ⟨a,ws,rfl,h1,h2⟩:=r.lstE;exact ⟨a,ws,bs,xs,rfl,h1,h2,hb,hc,o1 _ H1 (.refl H1) rfl⟩
    · exact o1.elim
  · exact o1.elim⟩
def tyD:Dv→String
 | .non=>"NoneType"
 | .bl _=>"bool"
 | .int _=>"int"
 | .str _=>"str"
 | .tup _=>"tuple"
 | .lst _=>"list"
 | .scr _=>"list"
 | .exn _=>"object"
end
section
variable {X:Cx} {p pos apos cpos pT:Pos} {e a o:F_} {es:List F_} {ga:FnA} {fa fo:FnE}
theorem yx {K:f_} {H:Hp} {d:Dv} {v:V} (r:Rep K H d v) (hs:∀ ns,d≠.scr ns) (hx:∀ c,d≠.exn c):o8 K H v (.type (tyD d)):=by
 cases d with
 | non=>cases (show v=.non from r); exact .non
 | bl b=>cases (show v=.bl b from r); exact .bl b
 | int b=>cases (show v=.int b from r); exact .int b
 | str b=>cases (show v=.str b from r); exact .str b
 | tup ds=>obtain ⟨a,xs,rfl,h,_⟩:=r.tupE; exact .tup h
 | lst ds=>obtain ⟨a,xs,rfl,h,_⟩:=r.lstE; exact .lst h
 | scr ns=>exact absurd rfl (hs ns)
 | exn c=>exact absurd rfl (hx c)
theorem vn (T:String):CallR X (.builtin "isinstance") (fun xs H Q=>∃ x t b,xs=[x,.ty T]∧o8 X.K H x t∧Lw X.K t (.type T)=a_ b∧Q (.bl b) H):=by
 intro j' s σ H xs us Q I r h;obtain ⟨x,t,b,rfl,ty,hk,q⟩:=h;obtain ⟨u,w',rfl,ru,rw'⟩:=A0 r;cases (show w'=x_ T from rw');exact rK I ru ty hk fun tk=>⟨.bl b,H,I.tok tk,rfl,q⟩
def cu (tb:Dv→Bool):Dv→Option (Rs Dv)
 | .scr _=>ck
 | .exn _=>ck
 | d=>a_ (.ok (.bl (tb d)))
theorem pv {T:String} {tb:Dv→Bool} (hk:∀ K d,Lw K (.type (tyD d)) (.type T)=a_ (tb d)) (hT:Kp (b_ T)=a_ (.type T)) (hn:b_ T≠"__name__") (hdT:(b_ T == ("__debug__":Str))=d_)
 (hg:Gl X "isinstance") (hm:X.mg "isinstance"=ck) (hgT:Gl X (b_ T)) (hmT:X.mg (b_ T)=ck) (ha:FE X a fa)
 (hs1:l_ [a,.Name (b_ T) pT] X.env=(d_,eval a X.env) :: l_ [.Name (b_ T) pT] X.env:=by kernel_rfl) (hs2:l_ [.Name (b_ T) pT] X.env=(d_,eval (.Name (b_ T) pT) X.env) :: l_ [] X.env:=by kernel_rfl)
 (hpl:(JV pos (l_ [.Name (b_ T) pT] X.env)).any (·.1)=d_:=by kernel_rfl) :
 FE X (.Call (.Name "isinstance" p) [a,.Name (b_ T) pT] [] pos) (f1 (cu tb) fa) :=
 df (gK (vn T) hg hm PyProof.Rows.boot_isinstance (nu ha.h (nu (xW (v:=.ty T) hgT hmT hT rfl hn hdT) wW hs2) hs1) (by decide) (by decide) hs1 hpl) fun σ H Q ρ E o=>⟨ρ,E,Out.bind o fun d v H1 e1 r o1=>by
  show ∃ x t b,[v,V.ty T]=[x,.ty T]∧_;cases d with
  | scr ns=>exact o1.elim
  | exn c=>exact o1.elim
  | _=>exact ⟨v,_,_,rfl,yx r (fun ns z=>by cases z) (fun c z=>by cases z),hk X.K _,o1 _ H1 (.refl H1) rfl⟩⟩
def bx:Dv→Bool
 | .str _=>e_
 | _=>d_
theorem yy (K:f_) (d:Dv):Lw K (.type (tyD d)) (.type "str")=a_ (bx d):=by cases d <;> kernel_rfl
def bB:Dv→Bool
 | .tup _=>e_
 | _=>d_
theorem yz (K:f_) (d:Dv):Lw K (.type (tyD d)) (.type "tuple")=a_ (bB d):=by cases d <;> kernel_rfl
def aD:Dv→Bool
 | .bl _=>e_
 | _=>d_
theorem vo (K:f_) (d:Dv):Lw K (.type (tyD d)) (.type "bool")=a_ (aD d):=by cases d <;> kernel_rfl
def fM (g:Str→List Dv→Option (Rs Dv)) (fo:FnE) (ga:FnA):FnE:=fun ρ=>bnd (fo ρ) fun x=>match x with
 | .str i=>bnd (ga ρ) fun xs=>g i xs
 | _=>ck
def l4 (h:Str→Str→Bool):Str→List Dv→Option (Rs Dv)
 | x,[.str y]=>a_ (.ok (.bl (h x y)))
 | _,_=>ck
def Et (h:Str→Str→Int):Str→List Dv→Option (Rs Dv)
 | x,[.str y]=>a_ (.ok (.int (h x y)))
 | _,_=>ck
def yA (h:Str→Str→Bool):V→List V→Hp→VK→Prop:=fun x xs H Q=>∃ i j,x=.str i∧xs=[.str j]∧Q (.bl (h i j)) H
def BP (h:Str→Str→Int):V→List V→Hp→VK→Prop:=fun x xs H Q=>∃ i j,x=.str i∧xs=[.str j]∧Q (.int (h i j)) H
theorem FK:MtR X "str.startswith" (yA Jv):=by
 intro j' s σ H x xs v us Q I rx rs h;obtain ⟨i,j,rfl,rfl,q⟩:=h;obtain ⟨t,rfl⟩:=rx;obtain ⟨u,rfl,ru⟩:=fg rs;obtain ⟨t',rfl⟩:=ru;exact SC.startswith ⟨.bl _,H,I,rfl,q⟩
theorem FL:MtR X "str.endswith" (yA Nx):=by
 intro j' s σ H x xs v us Q I rx rs h;obtain ⟨i,j,rfl,rfl,q⟩:=h;obtain ⟨t,rfl⟩:=rx;obtain ⟨u,rfl,ru⟩:=fg rs;obtain ⟨t',rfl⟩:=ru;exact SC.endswith ⟨.bl _,H,I,rfl,q⟩
theorem vp:MtR X "str.rfind" (BP Ro):=by
 intro j' s σ H x xs v us Q I rx rs h;obtain ⟨i,j,rfl,rfl,q⟩:=h;obtain ⟨t,rfl⟩:=rx;obtain ⟨u,rfl,ru⟩:=fg rs;obtain ⟨t',rfl⟩:=ru;exact SC.rfind ⟨.int _,H,I.tok _,⟨_,rfl⟩,q⟩
theorem yB {name:Str} {id:String} {r:V→List V→Hp→VK→Prop} {g:Str→List Dv→Option (Rs Dv)} (slot:Slot "str" name id) (hty:typeOf (.builtin id)=pure (.type "method_descriptor")) (hm:MtR X id r)
 (hg:∀ i ds vs H Q,Reps X.K H ds vs→Out X H (g i ds) Q→r (.str i) vs H Q) (ho:FE X o fo) (ha:FA X (e :: es) ga)
 (hbase:Mq o name X.env (eval o X.env)=eval o X.env:=by kernel_rfl)
 (hfew:((JV cpos (l_ (e :: es) X.env)).all (fun x=>!x.1) && (L8 cpos (KQ [] X.env)).all (fun x=>x.1.isSome)
   && u_ ((e :: es).length + ([]:List L5).length + (if ([]:List L5).isEmpty then 0 else 1) < 30))=e_:=by kernel_rfl)
 (hline:(apos.endLine == cpos.line)=e_:=by kernel_rfl) (hs:l_ (e :: es) X.env=(d_,eval e X.env) :: l_ es X.env:=by kernel_rfl) (hplain:(JV cpos (l_ es X.env)).any (·.1)=d_:=by kernel_rfl) :
 FE X (.Call (.Attribute o name apos) (e :: es) [] cpos) (fM g fo ga) :=
 df (yg PySem.F.plainAttrs_str slot hty hm ho.h ha.h hbase hfew hline hs hplain) fun σ H Q ρ E o=>⟨ρ,E,Out.bind o fun d v H1 e1 rd o1=>by
  cases d <;> try exact (show False from o1).elim
  rename_i i;cases (show v=.str i from rd);exact ⟨rfl,ρ,E.mono e1,OutA.bind o1 fun ds vs H2 e2 rs o2=>hg i ds vs H2 Q rs o2⟩⟩
theorem xp {h:Str→Str→Bool} (i:Str) (ds:List Dv) (vs:List V) (H:Hp) (Q:VK) (rs:Reps X.K H ds vs) (o:Out X H (l4 h i ds) Q):yA h (.str i) vs H Q:=by
 unfold l4 at o;split at o
 · rename_i j;obtain ⟨w,rfl,rw'⟩:=dz rs;cases (show w=.str j from rw');exact ⟨i,j,rfl,rfl,o _ H (.refl H) rfl⟩
 · exact o.elim
theorem BQ {h:Str→Str→Int} (i:Str) (ds:List Dv) (vs:List V) (H:Hp) (Q:VK) (rs:Reps X.K H ds vs) (o:Out X H (Et h i ds) Q):BP h (.str i) vs H Q:=by
 unfold Et at o;split at o
 · rename_i j;obtain ⟨w,rfl,rw'⟩:=dz rs;cases (show w=.str j from rw');exact ⟨i,j,rfl,rfl,o _ H (.refl H) rfl⟩
 · exact o.elim
def HG (K:f_):R2:=fun x y H Q=>∃ (a b:k_) (ns:List Int),x=.ref a∧y=.ref b∧SqL K H a (ns.map V.int)∧H b=a_ (.lst [])∧Q (.bl ns.isEmpty) H
theorem FM (hu:X.A.units < cLine):OpR X (JL .Eq) (HG X.K):=by
 intro j' s σ H x y v u Q I rx ry h;obtain ⟨a,b,ns,rfl,rfl,h1,h2,q⟩:=h;cases rx;cases ry;obtain ⟨its,r,pl,hz⟩:=I.list h1;obtain ⟨z2,its2,n2,r2,hl2,e2⟩:=I.lstM h2;cases r2;have hb:s.heap.IsList b #[]:=⟨_,e2,rfl,_,rfl⟩;have hl:=r.length;cases ns with
 | nil =>
  have e0:its=[]:=by cases its with | nil=>rfl | cons _ _=>simp at hl
  subst e0;exact SeqAt.eq_listAt (e:=fun _=>e_) pl.isList hb rfl hu (fun i hi=>absurd hi (by simp)) (by first | exact ⟨.bl _,H,I,rfl,q⟩ | (refine ⟨.bl _,H,I,?_,q⟩; simp [RelV]))
 | cons n ns =>
  refine SeqAt.eq_list_lengthsAt pl.isList hb ?_ hu ⟨.bl _,H,I,rfl,q⟩;have:0 < its.length:=by rw [← hl]; simp
  simp;exact fun z=>by rw [z] at this; simp at this
def Eu:Dv→Dv→Option (Rs Dv)
 | .scr ns,.lst []=>a_ (.ok (.bl ns.isEmpty))
 | _,_=>ck
theorem FN:GOp X (HG X.K) Eu:=by
 intro dx dy x y H Q rx ry o;unfold Eu at o;split at o
 · rename_i ns;obtain ⟨a,rfl,h1⟩:=rx.scrE;obtain ⟨b,xs,rfl,h2,h3⟩:=ry.lstE;cases (show xs=[] from h3);exact ⟨a,b,ns,rfl,rfl,h1,h2,o _ H (.refl H) rfl⟩
 · exact o.elim
end
end FD
namespace FD
open PySem
theorem BR:Kp (b_ "str")=a_ (.type "str"):=PyProof.Rows.boot_str
theorem vq:Kp (b_ "tuple")=a_ (.type "tuple"):=by decide +kernel
theorem yC:Kp (b_ "bool")=a_ (.type "bool"):=by decide +kernel
end FD
namespace FD
open PySem PySem.Spec PyProof.Rows L2
mutual
def cX:Dv→PyData
 | .non=>.none
 | .bl b=>.bool b
 | .int i=>.int i
 | .str x=>.str x
 | .tup xs=>.tuple (toPys xs)
 | .lst xs=>.list (toPys xs)
 | .scr ns=>.list (ns.map PyData.int)
 | .exn _=>.dict []
def toPys:List Dv→List PyData
 | []=>[]
 | d :: ds=>cX d :: toPys ds
end
section
variable {X:Cx} {j':List (k_×Obj)} {σ:L2.St} {H:Hp} {s:h_}
theorem ku:∀ {ns:List Int} {us:List g_},Vals (ns.map V.int) us→∃ as,ReadsAll s.heap us (ns.map PyData.int) as
 | [],us,r=>by cases r; exact ⟨_,.nil⟩
 | n :: ns,us,r=>by
  cases r with
  | cons r1 r2 =>
   obtain ⟨t,rfl⟩:=r1;obtain ⟨as,q⟩:=ku r2;exact ⟨_,.cons (.int n t) q⟩
mutual
theorem Rep.reads (I:Inv X j' σ H s):∀ (d:Dv) (v:V) (u:g_),Rep X.K H d v→RelV v u→(cX d).canLay0=e_→∃ as,Reads s.heap u (cX d) as
 | .non,v,u,r,q,hz0=>by cases (show v=.non from r); cases (show u=Js from q); exact ⟨_,.none⟩
 | .bl b,v,u,r,q,hz0=>by cases (show v=.bl b from r); cases (show u=JO b from q); exact ⟨_,.bool b⟩
 | .int i,v,u,r,q,hz0=>by cases (show v=.int i from r); obtain ⟨t,rfl⟩:=(show ∃ t,u=Qt i t from q); exact ⟨_,.int i t⟩
 | .str x,v,u,r,q,hz0=>by cases (show v=.str x from r); obtain ⟨t,rfl⟩:=(show ∃ t,u=Md x t from q); exact ⟨_,.str x t⟩
 | .tup ds,v,u,r,q,hz0=>by
  obtain ⟨a,xs,rfl,h,rs⟩:=r.tupE;cases (show u=q_ a from q);obtain ⟨its,rv,⟨o,e,c,n,d⟩,hz⟩:=I.tuple (SqT.of h);obtain ⟨as,ra⟩:=Reps.reads I ds xs its rs rv (by simpa [cX,JP] using hz0);exact ⟨as,.tuple e c d (by simpa using ra)⟩
 | .lst ds,v,u,r,q,hz0=>by
  obtain ⟨a,xs,rfl,h,rs⟩:=r.lstE;cases (show u=q_ a from q);obtain ⟨z,its,n,rv,hl,e⟩:=I.lstM h;obtain ⟨as,ra⟩:=Reps.reads I ds xs its rs rv (by simpa [cX,JP] using hz0);exact ⟨a :: as,.list e rfl rfl (by simpa using ra)⟩
 | .scr ns,v,u,r,q,hz0=>by
  obtain ⟨a,rfl,h⟩:=r.scrE;cases (show u=q_ a from q);obtain ⟨its,rv,⟨o,n,e,c,hd,d⟩,hz⟩:=I.list h;obtain ⟨as,ra⟩:=ku (s:=s) rv;exact ⟨a :: as,.list e c d (by simpa using ra)⟩
 | .exn c,v,u,r,q,hz0=>by simp [cX,JP] at hz0
theorem Reps.reads (I:Inv X j' σ H s):∀ (ds:List Dv) (vs:List V) (us:List g_),Reps X.K H ds vs→Vals vs us→KB (toPys ds)=e_→∃ as,ReadsAll s.heap us (toPys ds) as
 | [],vs,us,r,q,_=>by cases (show vs=[] from r); cases q; exact ⟨_,.nil⟩
 | d :: ds,vs,us,r,q,hz0=>by
  obtain ⟨v,ws,rfl,r1,r2⟩:∃ v us,vs=v :: us∧Rep X.K H d v∧Reps X.K H ds us:=r;cases q with
  | cons q1 q2 =>
   have hz1:(cX d).canLay0=e_∧KB (toPys ds)=e_:=by simpa [toPys,KB] using hz0
   obtain ⟨as,a⟩:=Rep.reads I d v _ r1 q1 hz1.1;obtain ⟨bs,b⟩:=Reps.reads I ds ws _ r2 q2 hz1.2;exact ⟨_,.cons a b⟩
end
end
section
variable {X:Cx}
def okP (d:Dv):Bool:=SeqAt.shaped (cX d)
def rPy (X:Cx) (neg:Bool):R2:=fun x y H Q=>∃ dx dy,Rep X.K H dx x∧Rep X.K H dy y∧okP dx=e_∧okP dy=e_∧Q (.bl (if neg then !JH (cX dx) (cX dy) else JH (cX dx) (cX dy))) H
theorem BS (hu:X.A.units + 64 < cLine):OpR X (JL .Eq) (rPy X d_):=by
 intro j' s σ H x y v u Q I rx ry h;obtain ⟨dx,dy,qx,qy,hx,hy,q⟩:=h;obtain ⟨as,ra⟩:=Rep.reads I dx x v qx rx (Ku.mp hx).1;obtain ⟨bs,rb⟩:=Rep.reads I dy y u qy ry (Ku.mp hy).1;exact SeqAt.compareEq_shaped ra rb hx hy hu ⟨.bl _,H,I,rfl,q⟩
theorem BU (hu:X.A.units + 64 < cLine):OpR X (JL .NotEq) (rPy X e_):=by
 intro j' s σ H x y v u Q I rx ry h;obtain ⟨dx,dy,qx,qy,hx,hy,q⟩:=h;obtain ⟨as,ra⟩:=Rep.reads I dx x v qx rx (Ku.mp hx).1;obtain ⟨bs,rb⟩:=Rep.reads I dy y u qy ry (Ku.mp hy).1;exact SeqAt.compareNe_shaped ra rb hx hy hu ⟨.bl _,H,I,rfl,q⟩
def eqX (x y:Dv):Option (Rs Dv):=match eqS x y with
 | some b=>a_ (.ok (.bl b))
 | none=>if okP x && okP y then a_ (.ok (.bl (JH (cX x) (cX y)))) else ck
def neX (x y:Dv):Option (Rs Dv):=match eqS x y with
 | some b=>a_ (.ok (.bl (!b)))
 | none=>if okP x && okP y then a_ (.ok (.bl (!JH (cX x) (cX y)))) else ck
def HH (X:Cx):R2:=fun x y H Q=>rEq x y H Q∨rPy X d_ x y H Q
def HI (X:Cx):R2:=fun x y H Q=>rNe x y H Q∨rPy X e_ x y H Q
theorem BV (hu:X.A.units + 64 < cLine):OpR X (JL .Eq) (HH X):=op_eq.or (BS hu)
theorem FP (hu:X.A.units + 64 < cLine):OpR X (JL .NotEq) (HI X):=op_ne.or (BU hu)
theorem BW:GOp X (HH X) eqX:=by
 intro dx dy x y H Q rx ry o;unfold eqX at o;split at o
 · rename_i b hb;obtain ⟨h1,h2⟩:=xj rx ry hb;exact .inl ⟨h1,by rw [h2]; exact o _ H (.refl H) rfl⟩
 · split at o
   · rename_i hc;rw [on] at hc;exact .inr ⟨dx,dy,rx,ry,hc.1,hc.2,o _ H (.refl H) rfl⟩
   · exact o.elim
theorem FQ:GOp X (HI X) neX:=by
 intro dx dy x y H Q rx ry o;unfold neX at o;split at o
 · rename_i b hb;obtain ⟨h1,h2⟩:=xj rx ry hb;exact .inl ⟨h1,by rw [h2]; exact o _ H (.refl H) rfl⟩
 · split at o
   · rename_i hc;rw [on] at hc;exact .inr ⟨dx,dy,rx,ry,hc.1,hc.2,o _ H (.refl H) rfl⟩
   · exact o.elim
def ltX:Dv→Dv→Option (Rs Dv)
 | .int i,.int j=>a_ (.ok (.bl (u_ (i < j))))
 | .str x,.str y=>a_ (.ok (.bl (u_ (x.cps.toList < y.cps.toList))))
 | _,_=>ck
def HJ:R2:=fun x y H Q=>rI0 (fun i j=>.bl (u_ (i < j))) x y H Q∨∃ i j,x=.str i∧y=.str j∧Q (.bl (u_ (i.cps.toList < j.cps.toList))) H
theorem BX:OpR X (JL .Lt) HJ:=op_lt.or rF
theorem BY:GOp X HJ ltX:=by
 intro dx dy x y H Q rx ry o;cases dx <;> cases dy <;> try exact (show False from o).elim
 · rename_i i j;exact .inl ⟨i,j,rx,ry,o _ H (.refl H) rfl⟩
 · rename_i i j;exact .inr ⟨i,j,rx,ry,o _ H (.refl H) rfl⟩
theorem l7:∀ (ps:List Str) (k:Nat),Vals (ps.map V.str) (strsFrom k ps)
 | [],_=>.nil
 | p :: ps,k=>.cons ⟨k,rfl⟩ (l7 ps (k + 1))
theorem l8 {K:f_} {H:Hp}:∀ ps:List Str,Reps K H (ps.map Dv.str) (ps.map V.str)
 | []=>rfl
 | p :: ps=>⟨.str p,ps.map V.str,rfl,rfl,l8 ps⟩
def fW:Str→List Dv→Option (Rs Dv)
 | x,[.str y]=>if y.length≠0∧x.length≤100000∧(Le x y).length≤100000 then a_ (.ok (.lst ((Le x y).map Dv.str))) else ck
 | _,_=>ck
def xq:V→List V→Hp→VK→Prop:=fun x xs H Q=>∃ i j,x=.str i∧xs=[.str j]∧j.length≠0∧i.length≤sizeLine∧(Le i j).length≤sizeLine∧∀ p,H p=ck→Q (.ref p) (upd H p (.lst ((Le i j).map V.str)))
theorem vt:MtR X "str.split" xq:=by
 intro j' s σ H x xs v us Q I rx rs h;obtain ⟨i,j,rfl,rfl,hj,hi,hn,q⟩:=h;obtain ⟨t,rfl⟩:=rx;obtain ⟨u,rfl,ru⟩:=fg rs;obtain ⟨t',rfl⟩:=ru;have hy:(j.length == 0)=d_:=by simpa using hj
 have one:∀ {s':h_},s'={ s with heap:=s.heap.push { cls:=.type "list",data:=.seq [Md i t].toArray } }→Le i j=[i]→EP X j' σ Q (.ref s.heap.objs.size) s':=fun e e2=>by
  subst e;rw [e2] at q;exact ⟨.ref _,_,I.lnew (its:=[Md i t]) (ys:=[V.str i]) (t':=s.toks) (.cons ⟨t,rfl⟩ .nil) (by show 1≤sizeLine; decide),rfl,q _ I.fresh⟩
 cases h1:(u_ (i.length < j.length) || u_ (KZ i < KZ j))
 · cases hf:(Jx i j 0 i.length (i.length + 1)).isEmpty
   · have e2:Le i j=Builtin.Str.partsBetween i (Jx i j 0 i.length (i.length + 1)) j.length:=by
      unfold Le;rw [if_neg (by rw [h1]; exact xy),if_neg (by rw [hf]; exact xy)]
     rw [e2] at q hn;refine M6 MH (M5 _ _ _) N2 (NN _ _) (meets_str_split_sep i j t t' h1 hy hf hi hn) ?_;exact ⟨.ref _,_,I.lnew (t':=_) (l7 _ _) (by rw [Jo]; exact hn),rfl,q _ I.fresh⟩
   · refine M6 MH (M5 _ _ _) N2 (NN _ _) (meets_str_split_not_found i j t t' h1 hy hf) ?_;exact one rfl (by unfold Le; rw [if_neg (by rw [h1]; exact xy),if_pos hf])
 · refine M6 MH (M5 _ _ _) N2 (NN _ _) (meets_str_split_cannot_occur i j t t' h1) ?_;exact one rfl (by unfold Le; rw [if_pos h1])
theorem yD (i:Str) (ds:List Dv) (vs:List V) (H:Hp) (Q:VK) (rs:Reps X.K H ds vs) (o:Out X H (fW i ds) Q):xq (.str i) vs H Q:=by
 unfold fW at o;split at o
 · rename_i j;split at o
   · rename_i hc;obtain ⟨w,rfl,rw'⟩:=dz rs;cases (show w=.str j from rw');exact ⟨i,j,rfl,rfl,hc.1,cr hc.2.1,cr hc.2.2,fun p hp=>o _ _ (aG hp _) ⟨p,_,rfl,ax,l8 _⟩⟩
   · exact o.elim
 · exact o.elim
def qi:List Dv→Option (List Str)
 | []=>a_ []
 | .str x :: r=>(match qi r with | some xs=>a_ (x :: xs) | none=>ck)
 | _=>ck
def vv:Str→List Dv→Option (Rs Dv)
 | x,[.lst ds]=>(match qi ds with
  | some ts=>if JoinOk x ts=e_ then a_ (.ok (.str (L9 x ts))) else ck
  | none=>ck)
 | _,_=>ck
def BZ (K:f_):V→List V→Hp→VK→Prop:=fun x xs H Q=>∃ i a vs ds ts,x=.str i∧xs=[.ref a]∧H a=a_ (.lst vs)∧Reps K H ds vs∧qi ds=a_ ts∧JoinOk i ts=e_∧Q (.str (L9 i ts)) H
theorem kv {K:f_} {H:Hp}:∀ {ds:List Dv} {vs:List V} {us:List g_} {ts:List Str},Reps K H ds vs→Vals vs us→qi ds=a_ ts→∃ l:List (Str×Tok),us=strValues l∧l.map (·.1)=ts
 | [],vs,us,ts,r,q,h=>by
  cases (show vs=[] from r);cases q;cases h;exact ⟨[],rfl,rfl⟩
 | d :: ds,vs,us,ts,r,q,h=>by
  obtain ⟨v,ws,rfl,r1,r2⟩:∃ v us,vs=v :: us∧Rep K H d v∧Reps K H ds us:=r;cases q with
  | cons q1 q2 =>
   cases d <;> try (cases h; done)
   rename_i b;simp only [qi] at h;cases hb:qi ds with
   | none=>rw [hb] at h; cases h
   | some bs' =>
    rw [hb] at h;cases h;cases (show v=.str b from r1);obtain ⟨t,rfl⟩:=q1;obtain ⟨l,e1,e2⟩:=kv r2 q2 hb;exact ⟨(b,t) :: l,by rw [e1]; rfl,by rw [Ju,e2]⟩
theorem yE:MtR X "str.join" (BZ X.K):=by
 intro j' s σ H x xs v us Q I rx rs h;obtain ⟨i,a,vs,ds,ts,rfl,rfl,h1,h2,h3,h4,q⟩:=h;obtain ⟨t,rfl⟩:=rx;obtain ⟨u,rfl,ru⟩:=fg rs;cases ru;obtain ⟨z,its,n,rv,hl,e⟩:=I.lstM h1;obtain ⟨l,e1,e2⟩:=kv h2 rv h3;subst e1;exact SC.join ⟨_,e,rfl,_,rfl⟩ e2 h4 fun t' k=>⟨.str _,H,I.tok _,⟨_,rfl⟩,q⟩
theorem B0 (i:Str) (ds:List Dv) (vs:List V) (H:Hp) (Q:VK) (rs:Reps X.K H ds vs) (o:Out X H (vv i ds) Q):BZ X.K (.str i) vs H Q:=by
 unfold vv at o;split at o
 · rename_i es;split at o
   · rename_i ts ht;split at o
     · rename_i hj;obtain ⟨w,rfl,rw'⟩:=dz rs;obtain ⟨a,xs,rfl,h1,h2⟩:=rw'.lstE;exact ⟨i,a,xs,es,ts,rfl,rfl,h1,h2,ht,hj,o _ H (.refl H) rfl⟩
     · exact o.elim
   · exact o.elim
 · exact o.elim
def k8:Str→List Dv→Option (Rs Dv)
 | x,[.str y]=>if y.length≠0∧x.length≤100000 then a_ (.ok (.tup [.str (K2 x y).1,.str (K2 x y).2.1,.str (K2 x y).2.2])) else ck
 | _,_=>ck
def B1:V→List V→Hp→VK→Prop:=fun x xs H Q=>∃ i j,x=.str i∧xs=[.str j]∧j.length≠0∧i.length≤sizeLine∧∀ p,H p=ck→Q (.ref p) (upd H p (.tup [.str (K2 i j).1,.str (K2 i j).2.1,.str (K2 i j).2.2]))
theorem yF:MtR X "str.partition" B1:=by
 intro j' s σ H x xs v us Q I rx rs h;obtain ⟨i,j,rfl,rfl,hj,hi,q⟩:=h;obtain ⟨t,rfl⟩:=rx;obtain ⟨u,rfl,ru⟩:=fg rs;obtain ⟨t',rfl⟩:=ru;have hy:(j.length == 0)=d_:=by simpa using hj
 have fin:∀ (a b c:Str) (ta tb tc:Tok) (k:Nat),K2 i j=(a,b,c)→EP X j' σ Q (.ref s.heap.objs.size) { s with toks:=k,heap:=s.heap.push { cls:=.type "tuple",data:=.seq [Md a ta,.str b tb,.str c tc].toArray } }:=fun a b c ta tb tc k e=>by
  rw [e] at q;refine ⟨.ref _,_,I.laid (t':=k) (fun b u e=>i_ _ e) (r_ _) ?_,rfl,q _ I.fresh⟩;exact ⟨by show 3≤sizeLine; decide,[Md a ta,.str b tb,.str c tc],.cons ⟨_,rfl⟩ (.cons ⟨_,rfl⟩ (.cons ⟨_,rfl⟩ .nil)),⟨_,s_ _ rfl,rfl,_,rfl⟩⟩
 refine M6 Og (M5 _ _ _) F.entry_str_partition (F.args_str_partition_2 _ _) (meets_str_partition i j t t' hy hi) ?_;cases ho:Jx i j 0 i.length 1 with
 | nil=>exact fin _ _ _ _ _ _ _ (by unfold K2; rw [ho])
 | cons k r=>exact fin _ _ _ _ _ _ _ (by unfold K2; rw [ho])
theorem B4 (i:Str) (ds:List Dv) (vs:List V) (H:Hp) (Q:VK) (rs:Reps X.K H ds vs) (o:Out X H (k8 i ds) Q):B1 (.str i) vs H Q:=by
 unfold k8 at o;split at o
 · rename_i j;split at o
   · rename_i hc;obtain ⟨w,rfl,rw'⟩:=dz rs;cases (show w=.str j from rw');exact ⟨i,j,rfl,rfl,hc.1,cr hc.2,fun p hp=>o _ _ (aG hp _) ⟨p,_,rfl,ax,⟨_,_,rfl,rfl,_,_,rfl,rfl,_,_,rfl,rfl,rfl⟩⟩⟩
   · exact o.elim
 · exact o.elim
variable {p pos:Pos} {e:F_} {es:List F_} {ga:FnA}
def fX:List Dv→Option (Rs Dv)
 | [.lst xs]=>a_ (.ok (.tup xs))
 | [.tup xs]=>a_ (.ok (.tup xs))
 | _=>ck
theorem vw (hg:Gl X "tuple") (hm:X.mg "tuple"=ck) (ha:FA X (e :: es) ga) (he:l_ (e :: es) X.env=(d_,eval e X.env) :: l_ es X.env:=by kernel_rfl) (hpl:(JV pos (l_ es X.env)).any (·.1)=d_:=by kernel_rfl):FE X (.Call (.Name "tuple" p) (e :: es) [] pos) (fB1 fX ga) :=
 df (jI kX hg hm (by decide +kernel) ha.h (by decide) (by decide) he hpl) fun σ H Q ρ E o=>⟨ρ,E,OutA.bind o fun ds vs H1 e1 rs o1=>by
  unfold fX at o1;split at o1
  · rename_i xs;obtain ⟨v,rfl,r⟩:=dz rs;obtain ⟨a,ws,rfl,h1,h2⟩:=r.lstE;exact ⟨a,ws,rfl,.inl ⟨SqL.of h1,fun l hl=>o1 _ _ (aG hl _) ⟨l,ws,rfl,ax,Reps.mono (aG hl _) _ _ h2⟩⟩⟩
  · rename_i xs;obtain ⟨v,rfl,r⟩:=dz rs;obtain ⟨a,ws,rfl,h1,h2⟩:=r.tupE;exact ⟨a,ws,rfl,.inr ⟨SqT.of h1,o1 _ H1 (.refl H1) ⟨a,ws,rfl,h1,h2⟩⟩⟩
  · exact o1.elim⟩
end
section
variable {X:Cx} {apos cpos:Pos} {e o:F_} {es:List F_} {ga:FnA} {fo:FnE}
def Ew (x:Dv):List Dv→Nat→Option Nat
 | [],_=>ck
 | y :: ys,k=>if eqF y x then a_ k else Ew x ys (k + 1)
def FR:List Dv→List Dv→Option (Rs Dv)
 | xs,[x]=>if iR x && xs.all iR && u_ (xs.length≤100000) then (match Ew x xs 0 with | some j=>a_ (.ok (.int j)) | none=>ck) else ck
 | _,_=>ck
theorem sg {K:f_} {H:Hp} {x:Dv} {u:V} (q:Rep K H x u) (hx:iR x=e_):∀ {xs:List Dv} {vs:List V} {k j:Nat},Reps K H xs vs→xs.all iR=e_→Ew x xs k=a_ j →
 k≤j∧(∃ v,vs[j - k]?=a_ v∧eqV v u=e_)∧∀ (m:Nat) v,m < j - k→vs[m]?=a_ v→eqV v u=d_
 | [],vs,k,j,r,_,h=>by cases h
 | y :: ys,vs,k,j,r,hf,h=>by
  obtain ⟨v,ws,rfl,r1,r2⟩:∃ v us,vs=v :: us∧Rep K H y v∧Reps K H ys us:=r;rw [LW,on] at hf;unfold Ew at h;have e1:=xm r1 q hf.1 hx;split at h
  · rename_i hh;cases h;refine ⟨r_ _,⟨v,by simp,by rw [e1]; exact hh⟩,fun m w hm=>by omega⟩
  · rename_i hh;obtain ⟨a,⟨w,b1,b2⟩,c⟩:=sg q hx r2 hf.2 h;refine ⟨by omega,⟨w,?_,b2⟩,fun m z hm hz=>?_⟩
    · have e:j - k=(j - (k + 1)) + 1:=by omega
      rw [e,MF];exact b1
    · cases m with
      | zero =>
       have:z=v:=by simpa using hz.symm
       subst this;rw [e1];simpa using hh
      | succ m=>exact c m z (by omega) (by simpa using hz)
def B5:V→List V→Hp→VK→Prop:=fun x xs H Q=>∃ a vs y j,x=.ref a∧xs=[y]∧H a=a_ (.lst vs)∧h8 y=e_∧vs.all h8=e_∧vs.length≤100000∧(∃ v,vs[j]?=a_ v∧eqV v y=e_)∧(∀ (m:Nat) v,m < j→vs[m]?=a_ v→eqV v y=d_)∧Q (.int j) H
theorem xr {y:V} {vs:List V} {its:List g_} (r:Vals vs its) (f:vs.all h8=e_) {m:Nat} {v:V} (h:vs[m]?=a_ v):∃ hm:m < its.length,eqU y its[m]=eqV v y:=by
 obtain ⟨u,hu,ru⟩:=r.get h;obtain ⟨hm,e⟩:=Jm.mp hu;refine ⟨hm,?_⟩;rw [e];exact rP ru (Kj.mp f v (Ll h))
theorem vx:MtR X "list.index" B5:=by
 intro j' s σ H x xs v us Q I rx rs h;obtain ⟨a,vs,y,j,rfl,rfl,h1,fy,fv,hz,⟨w,hw,hit⟩,hno,q⟩:=h;cases rx;obtain ⟨u,rfl,ru⟩:=fg rs;obtain ⟨z,its,n,rv,hl,e⟩:=I.lstM h1;obtain ⟨hj,ej⟩:=xr (y:=y) rv fv hw;refine M6 Oh ⟨_,e,rfl⟩ PySem.F.entry_list_index (PySem.F.args_list_index_2 _ _) (SeqAt.list_indexAt a its.toArray n ck #[] u (eqU y) j (by simpa using hj) (by omega) (by simpa [ej] using hit) fun m hm hlt=>?_) ⟨e,fun t ht=>gL ru fy rv fv t (by simpa using ht),⟨.int j,H,I.tok _,⟨_,rfl⟩,q⟩⟩;have hm':m < vs.length:=by rw [rv.length]; simpa using hm
 obtain ⟨hm2,em⟩:=xr (y:=y) rv fv (B_ hm');have:=hno m vs[m] hlt (B_ hm');simpa [em] using this
def fML (g:List Dv→List Dv→Option (Rs Dv)) (fo:FnE) (ga:FnA):FnE:=fun ρ=>bnd (fo ρ) fun x=>match x with
 | .lst i=>bnd (ga ρ) fun xs=>g i xs
 | _=>ck
theorem vy (ho:FE X o fo) (ha:FA X (e :: es) ga)
 (hbase:Mq o "index" X.env (eval o X.env)=eval o X.env:=by kernel_rfl)
 (hfew:((JV cpos (l_ (e :: es) X.env)).all (fun x=>!x.1) && (L8 cpos (KQ [] X.env)).all (fun x=>x.1.isSome)
   && u_ ((e :: es).length + ([]:List L5).length + (if ([]:List L5).isEmpty then 0 else 1) < 30))=e_:=by kernel_rfl)
 (hline:(apos.endLine == cpos.line)=e_:=by kernel_rfl) (hs:l_ (e :: es) X.env=(d_,eval e X.env) :: l_ es X.env:=by kernel_rfl) (hplain:(JV cpos (l_ es X.env)).any (·.1)=d_:=by kernel_rfl) :
 FE X (.Call (.Attribute o "index" apos) (e :: es) [] cpos) (fML FR fo ga) :=
 df (yg Oi Oh PySem.F.type_list_index vx ho.h ha.h hbase hfew hline hs hplain) fun σ H Q ρ E o=>⟨ρ,E,Out.bind o fun d v H1 e1 rd o1=>by
  cases d <;> try exact (show False from o1).elim
  rename_i ds;obtain ⟨a,vs,rfl,h1,h2⟩:=rd.lstE;refine ⟨.inl ⟨rfl,vs,SqL.of h1⟩,ρ,E.mono e1,OutA.bind o1 fun es ws H2 e2 rs o2=>?_⟩;unfold FR at o2;split at o2
  · rename_i x;split at o2
    · rename_i hc;rw [on,on] at hc;split at o2
      · rename_i j hj;obtain ⟨w,rfl,rw'⟩:=dz rs;have h2':=Reps.mono e2 _ _ h2;obtain ⟨c1,c2,c3⟩:=sg rw' hc.1.1 h2' hc.1.2 hj;refine ⟨a,vs,w,j,rfl,rfl,e2 _ _ h1,nH rw' hc.1.1,kZ h2' hc.1.2,by rw [h2.length]; exact of_decide_eq_true hc.2,by simpa using c2,by simpa using c3,o2 _ H2 (.refl H2) rfl⟩
      · exact o2.elim
    · exact o2.elim
  · exact o2.elim⟩
end
structure FG (X:Cx) (tg:F_) (b:Dv→Ev→Option Ev):Prop where
 h:∀ (j':List (k_×Obj)) (s:h_) (σ:L2.St) (H:Hp) (v:V) (u:g_) (d:Dv) (ρ ρ':Ev),Inv X j' σ H s→RelV v u→Rep X.K H d v→Envs X.K H σ ρ→b d ρ=a_ ρ' →
  uk (z_ X.prog X.w) X.A (LI tg X.env u) (fun _ s'=>∃ σ' H',Inv X j' σ' H' s'∧Same H H'∧Envs X.K H' σ' ρ') X.xe s
def gN (i:Nat):Dv→Ev→Option Ev:=fun d ρ=>a_ (ρ.set i (a_ d))
def gP (i j:Nat):Dv→Ev→Option Ev:=fun d ρ=>match d with
 | .tup [a,c]=>a_ ((ρ.set i (a_ a)).set j (a_ c))
 | _=>ck
section
variable {X:Cx} {pos p1 p2:Pos}
theorem yG (i:Nat) {x:Str} (hN:X.N.Nodup) (hi:X.N[i]?=a_ x) (hx:Loc X.env.scope x) (hf:X.fn x=e_∨X.env.scope.names.lookup x=a_ .local):FG X (.Name x pos) (gN i) :=
 ⟨fun j' s σ H v u d ρ ρ' I r rd E e=>by
  cases e;exact thn (hZ hN hi hx hf j' s σ H v u (fun σ' H'=>H'=H∧σ'=σ.set i (a_ v)) I r ⟨rfl,rfl⟩) fun _ s' ⟨σ',H',I',e1,e2⟩=>by
   subst e1 e2;exact ⟨_,_,I',.refl _,E.set rd⟩⟩
theorem sh (i j:Nat) {x y:Str} {k:Nat} (hc:X.calm=e_) (hN:X.N.Nodup) (hi:X.N[i]?=a_ x) (hx:Loc X.env.scope x) (hf:X.fn x=e_∨X.env.scope.names.lookup x=a_ .local)
 (hj:X.N[j]?=a_ y) (hy:Loc X.env.scope y) (hg:X.fn y=e_∨X.env.scope.names.lookup y=a_ .local)
 (hs1:(Jq [.Name x p1,.Name y p2] X.env).map (·.2)=LI (.Name x p1) X.env :: (Jq [.Name y p2] X.env).map (·.2):=by kernel_rfl) (hs2:(Jq [.Name y p2] X.env).map (·.2)=LI (.Name y p2) X.env :: (Jq [] X.env).map (·.2):=by kernel_rfl)
 (hn:(Jq [.Name x p1,.Name y p2] X.env).length=2:=by kernel_rfl) (hst:(Jq [.Name x p1,.Name y p2] X.env).findIdx? (·.1)=ck:=by kernel_rfl):FG X (.Tuple [.Name x p1,.Name y p2] k pos) (gP i j) :=
 ⟨fun j' s σ H v u d ρ ρ' I r rd E e=>by
  unfold gP at e;split at e
  · rename_i a c;cases e;obtain ⟨ad,xs,rfl,h1,h2⟩:=rd.tupE;obtain ⟨va,vc,rfl,ra,rc⟩:=yw h2;refine thn (wT (n:=2) hc (kT (hZ (i:=i) hN hi hx hf) (kT (hZ (i:=j) hN hj hy hg) rj hs2) hs1) hn hst j' s σ H _ u (fun σ' H'=>H'=H∧σ'=(σ.set i (a_ va)).set j (a_ vc)) I r ⟨ad,_,rfl,SqT.of h1,rfl,va,[vc],rfl,vc,[],rfl,rfl,rfl,rfl⟩) fun _ s' ⟨σ',H',I',e1,e2⟩=>?_;subst e1 e2;exact ⟨_,_,I',.refl _,(E.set ra).set rc⟩
  · cases e⟩
end
structure WkG (K:f_) (J:It) (ds:List Dv) (H0:Hp):Prop where
 go:∀ i H,Same H0 H→i < ds.length→J.go i H
 stop:∀ H,Same H0 H→J.stop ds.length H
 yld:∀ i H x H',Same H0 H→i < ds.length→J.yld i H x H'→Same H H'∧∃ d,ds[i]?=a_ d∧Rep K H' d x
theorem Wk.toG {K:f_} {J:It} {ds:List Dv} {H0:Hp} (w:Wk K J ds H0):WkG K J ds H0 :=
 ⟨w.go,w.stop,fun i H x H' e hi y=>by
  obtain ⟨rfl,d,h1,h2⟩:=w.yld i H x H' e hi y;exact ⟨.refl _,d,h1,h2⟩⟩
def OutG (X:Cx) (H:Hp) (o:Option (Rs (List Dv))) (R:It→Hp→Prop):Prop:=match o with
 | none=>False
 | some (.exc c)=>XW X c H
 | some (.ok ds)=>∀ J H',Same H H'→WkG X.K J ds H'→R J H'
theorem OutG.mono {X:Cx} {H H':Hp} {R:It→Hp→Prop} (e:Same H H'):∀ {o:Option (Rs (List Dv))},OutG X H o R→OutG X H' o R
 | none,h=>h
 | some (.exc _),h=>XW.mono h e
 | some (.ok _),h=>fun v H1 e1 r=>h v H1 (e.trans e1) r
structure FIG (X:Cx) (tg iter:F_) (f:FnA):Prop where
 h:PI X tg iter fun σ H R=>∃ ρ,Envs X.K H σ ρ∧OutG X H (f ρ) R
theorem FI.toG {X:Cx} {tg iter:F_} {f:FnA} (h:FI X tg iter f):FIG X tg iter f :=
 ⟨fun j' s σ H R I ⟨ρ,E,o⟩=>h.h j' s σ H R I ⟨ρ,E,by
  match hf:f ρ,o with
  | some (.exc c),o=>exact o
  | some (.ok ds),o=>exact fun J H' e w=>o J H' e w.toG⟩⟩
def gT (m:Nat) (cs:List (Str×Nat)) (ρ:Ev):Ev:=Jj m ck ++ cs.map fun c=>(ρ[c.2]?).join
def jq (b:Dv→Ev→Option Ev) (tst:Option FnB) (elt:FnE) (cap:Ev):List Dv→Option (List Dv)
 | []=>a_ []
 | d :: ds=>match b d cap with
  | none=>ck
  | some ρ=>match (match tst with | none=>(a_ (.ok e_):Option (Rs Bool)) | some t=>t ρ) with
   | some (.ok e_)=>(match elt ρ with
    | some (.ok y)=>(match jq b tst elt cap ds with | some ys=>a_ (y :: ys) | none=>ck)
    | _=>ck)
   | some (.ok d_)=>jq b tst elt cap ds
   | _=>ck
structure FU (osc scope:Kz) (cs:List (Str×Nat)) (N:List Str):Prop where
 kind:scope.kind=.function
 cell:∀ y∈scope.names,y.2≠.cell
 names:∀ y∈scope.names,y.2=.local→scope.names.lookup y.1=a_ .local
 free:∀ y∈scope.names,y.2=.free→osc.names.lookup y.1=a_ .cell∨osc.names.lookup y.1=a_ .free
 caps:∀ c∈cs,N[c.2]?=a_ c.1∧scope.names.lookup c.1=a_ .free
def mf (m:Nat) (cs:List (Str×Nat)) (σ:L2.St):L2.St:=Jj m ck ++ cs.map fun c=>(σ[c.2]?).join
theorem mh {α:Type} {m i:Nat} {v:α} {l:List (Option α)} (h:(Jj m (ck:Option α) ++ l)[i]?=a_ (a_ v)):∃ k,i=m + k∧l[k]?=a_ (a_ v):=by
 by_cases hi:i < m
 · rw [KG (by simpa using hi),LC,if_pos hi] at h;cases h
 · refine ⟨i - m,by omega,?_⟩;rw [KC (by simpa using hi)] at h;simpa using h
theorem si {K:f_} {H:Hp} {σ:L2.St} {ρ:Ev} (m:Nat) (cs:List (Str×Nat)) (E:Envs K H σ ρ):Envs K H (mf m cs σ) (gT m cs ρ):=by
 refine ⟨by simp [mf,gT],fun i d h=>?_⟩;obtain ⟨k,rfl,hk⟩:=mh h;rw [JG] at hk;cases hc:cs[k]? with
 | none=>rw [hc] at hk; simp at hk
 | some c =>
  rw [hc] at hk;simp only [LQ,Li] at hk;have h2:ρ[c.2]?=a_ (a_ d):=by
   cases q:ρ[c.2]? with
   | none=>rw [q] at hk; simp at hk
   | some o=>rw [q] at hk; simp at hk; rw [hk]
  obtain ⟨v,h3,h4⟩:=E.at' c.2 d h2;refine ⟨v,?_,h4⟩;unfold mf;rw [KC (by simp)];simp only [Lb,Om,JG,hc,LQ,h3];rfl
theorem mi {prog:rl} {w:C_} {A:D_} {R:O9→h_→Prop} {s:h_} {elt target iter:F_} {ifs:List F_} {scope:Kz} {pos:Pos} {it acc:g_} {env:Env} (I:Nat→h_→Prop)
 (turn:∀ n s,I n s→uk (z_ prog w) A (N8 it) (fun r s₁=>match r with
   | none=>R (.ok .next) s₁
   | some v=>uk (z_ prog w) A (Nk target it v) (fun _ s₀=>uk (z_ prog w) A (LI target env v) (fun _ s₂ =>
    uk (z_ prog w) A (Rh ifs e_ fun c r=>if r=e_ then do let ok ← isTrue c env (eval c env); pure (OO ok) else pure (OO r)) (fun ok s₃ =>
     if ok=e_ then uk (z_ prog w) A (eval elt env) (fun x s₄ =>
      uk (z_ prog w) A (call (.builtin "list.append") [acc,x]) (fun _ s₅=>∃ m,m < n∧I m s₅) (Ou (z_ prog w) A env fun e s'=>R (.error e) s') s₄) (Ou (z_ prog w) A env fun e s'=>R (.error e) s') s₃
     else ∃ m,m < n∧I m s₃) (Ou (z_ prog w) A env fun e s'=>R (.error e) s') s₂) (Ou (z_ prog w) A env fun e s'=>R (.error e) s') s₀) (Ou (z_ prog w) A env fun e s'=>R (.error e) s') s₁) (Ou (z_ prog w) A env fun e s'=>R (.error e) s') s)
 (n:Nat) (h:I n s) :
 L4 (z_ prog w) A (.compLoop (.ListComp elt [⟨target,iter,ifs,0⟩] scope pos) 0 it acc env) R s:=by
 refine codeAny_loop rfl I (fun n s hI=>?_) n h;show uk _ A ((compTurn (.ListComp elt [⟨target,iter,ifs,0⟩] scope pos) 0 it acc env).onRaise (fun x=>do Qr x env; theTreesLotGoes x)) _ _ s
 refine wpAny_noted ?_;rw [compTurn_list];refine c_ (PD (c_ (JC (turn n s hI) (fun r s₁ h₁=>?_) fun _ _ h'=>h')));cases r with
 | none=>exact j_ h₁
 | some v =>
  refine c_ (JC h₁ (fun _ s₀ h₀=>?_) fun _ _ h'=>h');refine c_ (JC h₀ (fun _ s₂ h₂=>c_ (JC h₂ (fun ok s₃ h₃=>?_) fun _ _ h'=>h')) fun _ _ h'=>h');cases ok with
  | false =>
   rw [if_neg xy] at h₃
   first
    | exact c_ (j_ (j_ ⟨rfl,h₃⟩))
    | exact j_ ⟨rfl,h₃⟩
    | (show uk _ _ (Rm _) _ _ _; exact j_ ⟨rfl,h₃⟩)
  | true =>
   rw [if_pos rfl] at h₃
   first
    | exact c_ (c_ (JC h₃ (fun x s₄ h₄=>c_ (JC h₄ (fun _ s₅ h₅=>j_ (j_ ⟨rfl,h₅⟩)) fun _ _ h'=>h')) fun _ _ h'=>h'))
    | exact c_ (JC h₃ (fun x s₄ h₄=>c_ (JC h₄ (fun _ s₅ h₅=>j_ ⟨rfl,h₅⟩) fun _ _ h'=>h')) fun _ _ h'=>h')
def cj (m:Nat) (cs:List (Str×Nat)) (src:FnA) (b:Dv→Ev→Option Ev) (tst:Option FnB) (elt:FnE):FnE:=fun ρ=>bnd (src ρ) fun ds=>match jq b tst elt (gT m cs ρ) ds with
 | some ys=>if ys.length≤100000∧ds.length≤100000 then a_ (.ok (.lst ys)) else ck
 | none=>ck
theorem FV {m:Nat} {cs:List (Str×Nat)} {src:FnA} {b:Dv→Ev→Option Ev} {tst:Option FnB} {fe:FnE} {ρ:Ev} {o:Rs Dv} (h:cj m cs src b tst fe ρ=a_ o) :
 (∃ c,src ρ=a_ (.exc c)∧o=.exc c)∨∃ ds ys,src ρ=a_ (.ok ds)∧jq b tst fe (gT m cs ρ) ds=a_ ys∧ds.length≤100000∧ys.length≤100000∧o=.ok (.lst ys):=by
 unfold cj at h
 match hf:src ρ with
 | none=>rw [hf] at h; cases h
 | some (.exc c)=>rw [hf] at h; cases h; exact .inl ⟨c,rfl,rfl⟩
 | some (.ok ds) =>
  rw [hf] at h;dsimp only [bnd] at h
  match hm:jq b tst fe (gT m cs ρ) ds with
  | none=>rw [hm] at h; cases h
  | some ys =>
   rw [hm] at h;dsimp only at h;split at h
   · rename_i hl;cases h;exact .inr ⟨ds,ys,rfl,hm,hl.2,hl.1,rfl⟩
   · cases h
theorem B6 (cs:List (Str×Nat)) (ρ:Ev) (d:Dv) (ρ':Ev) (h:gN 0 d (gT 1 cs ρ)=a_ ρ'):fgt [0] ρ'=gT 1 cs ρ:=by
 cases h;rfl
theorem FX (cs:List (Str×Nat)) (ρ:Ev) (d:Dv) (ρ':Ev) (h:gP 0 1 d (gT 2 cs ρ)=a_ ρ'):fgt [0,1] ρ'=gT 2 cs ρ:=by
 unfold gP at h;split at h
 · cases h;rfl
 · cases h
def Ite (K:f_) (a:k_):It :=
 ⟨fun i H=>∃ xs x,SqL K H a xs∧xs[i]?=a_ x,fun i H v H'=>∃ p x,v=.ref p∧H p=ck∧H'=upd H p (.tup [.int i,x])∧∀ xs,SqL K H a xs→xs[i]?=a_ x,fun i H=>∃ xs,SqL K H a xs∧xs.length≤i⟩
theorem sj {P:rl} {w:C_} {K:f_} {es:List F_} {k:Nat} {pos:Pos} (a e it:k_) (hne:e≠it):u8 P w K (.Tuple es k pos) (Ite K a) [e,it] e (fun i h=>(∃ old,IsEnum h e it i old)∧h.IsListIter it a i) where
 mem:=by simp
 obj:=fun i h st b hb=>by
  obtain ⟨⟨old,he⟩,o,e2,c,d⟩:=st;have hb':b=e∨b=it:=by simpa using hb
  rcases hb' with rfl | rfl
  · exact ⟨_,he,fun v z=>by cases z⟩
  · exact ⟨o,e2,fun v z=>by rw [d] at z; cases z⟩
 keep:=fun i h h' st kk=>by
  obtain ⟨⟨old,he⟩,st2⟩:=st;exact ⟨⟨old,kk e (by simp) _ he⟩,st2.at fun o ee=>kk it (by simp) o ee⟩
 item:=by
  intro X hP hw hK hc i j' s σ H E I hf st hg;subst hP hw hK;obtain ⟨xs,x,hq,hx⟩:=hg;obtain ⟨its,rv,p,hz⟩:=I.list hq;obtain ⟨u,hu,ru⟩:=rv.get hx;obtain ⟨⟨old,he⟩,st2⟩:=st;obtain ⟨f0,f1,f2,f3,f4,f5⟩:=hf e (by simp);obtain ⟨g0,g1,g2,g3,g4,g5⟩:=hf it (by simp);refine wpAny_pyNext_enum_item he st2 p.isList (x:=u) (by simpa using hu) hne fun h' eo st' tp sz kk=>?_;refine ⟨_,rfl,wpAny_letOwnedTupleGo_enum eo fun h2 he2 sb2=>?_⟩;have hp:H s.heap.objs.size=ck:=I.hok.fresh (r_ _);have elt:e < s.heap.objs.size:=v_ he;have k2:∀ b o,b ∉ [e,it]→s.heap.get? b=a_ o→h2.get? b=a_ o:=fun b o hb q=>sb2.extBut b o (fun z=>hb (by simp [z])) (kk b o (fun z=>hb (by simp [z])) (fun z=>hb (by simp [z])) q);have tp2:h2.get? s.heap.objs.size=a_ { cls:=.type "tuple",data:=.seq #[.int i s.toks,u] }:=sb2.extBut _ _ (LO elt) tp;have I1:Inv X j' σ (upd H s.heap.objs.size (.tup [.int i,x])) { s with heap:=h2,toks:=s.toks + 1 }:=by
   have nt:∀ b u,H b=a_ u→b ∉ [e,it]:=fun b u q z=>by
    have z':b=e∨b=it:=by simpa using z
    rcases z' with rfl | rfl
    · rw [f0] at q; cases q
    · rw [g0] at q; cases q
   refine I.step (g':=s.gens) (d':=s.drawn) (ch:=[e,it]) (fun b hb=>?_) (fun b o _ _ hcb q _=>k2 b o hcb q) (fun b o _ _ hcb q _=>⟨o.slots,k2 b o hcb q⟩) (fun b o hcb q n=>?_) (fun b o hcb q=>⟨o,k2 b o hcb q⟩)
    (fun b ys q=>by rw [av (aq q hp)]; exact q) (fun b o ys q=>by rw [av (aq q hp)]; exact q) (fun b ps q=>⟨#[],by rw [av (aq q hp),q]; simp⟩) (fun m hm=>?_) (fun b u2 q=>?_) I.bare
   · have z':b=e∨b=it:=by simpa using hb
     rcases z' with rfl | rfl
     · exact ⟨f3,f1,f4,f5⟩
     · exact ⟨g3,g1,g4,g5⟩
   · rw [av (I_ (v_ q))]; exact n
   · obtain ⟨o,es',ep,ho,r⟩:=hm;exact ⟨o,es',ep,k2 _ o (fun z=>by
      have z':X.env.locals=e∨X.env.locals=it:=by simpa using z
      rcases z' with z' | z'
      · exact f1 z'.symm
      · exact g1 z'.symm) ho,r⟩
   · by_cases hb:b=s.heap.objs.size
     · subst hb;rw [ax] at q;cases q;exact ⟨by show 2≤sizeLine; decide,[.int i s.toks,u],.cons ⟨_,rfl⟩ (.cons ru .nil),⟨_,tp2,rfl,_,rfl⟩⟩
     · rw [av hb] at q;refine (I.hok b u2 q).stay (fun c v hcv qq=>k2 c v ?_ qq) (fun c qq=>by rw [av (aq qq hp)]; exact qq) fun c ys qq=>by rw [av (aq qq hp)]; exact qq
       rcases hcv with rfl | hcv
       · exact nt _ _ q
       · exact nt _ _ hcv
  refine ⟨.ref s.heap.objs.size,_,I1,rfl,⟨_,x,rfl,hp,rfl,fun zs hy=>by rw [I.list_inj hy hq]; exact hx⟩,⟨⟨_,by simpa using he2⟩,?_⟩,fun b hb=>?_⟩
  · exact st'.at fun o q=>sb2.extBut _ _ (MU hne) q
  · have z':b=e∨b=it:=by simpa using hb
    rcases z' with rfl | rfl
    · rw [av (I_ elt)]; exact f0
    · obtain ⟨o,q,_⟩:=id st2;rw [av (I_ (v_ q))]; exact g0
 done:=by
  intro X hP hw hK hc i j' s σ H E I hf st hg;subst hP hw hK;obtain ⟨xs,hq,hx⟩:=hg;obtain ⟨its,rv,p,hz⟩:=I.list hq;obtain ⟨⟨old,he⟩,st2⟩:=st;obtain ⟨g0,g1,g2,g3,g4,g5⟩:=hf it (by simp);have hl:=rv.length;exact wpAny_pyNext_enum_end (I.ok.hd hc) he st2 p.isList (by simp; omega) fun h' eb=>⟨rfl,I.turned (t':=s.toks) (fun b o hb e=>eb b o hb e) g0 g1 g3 g4 g5⟩
 self:=fun _ _ _ _ _ st h=>by
  obtain ⟨⟨old,he⟩,_⟩:=st;exact wpAny_pyIter_enum he h
def iS:Nat→List Dv→List Dv
 | _,[]=>[]
 | k,d :: ds=>.tup [.int k,d] :: iS (k + 1) ds
theorem gh:∀ (ds:List Dv) (k:Nat),(iS k ds).length=ds.length
 | [],_=>rfl
 | d :: ds,k=>by show (iS (k + 1) ds).length + 1=ds.length + 1; rw [gh]
theorem mj:∀ (ds:List Dv) (k i:Nat) (d:Dv),ds[i]?=a_ d→(iS k ds)[i]?=a_ (.tup [.int ((k + i:Nat):Int),d])
 | [],_,_,_,h=>by simp at h
 | d :: ds,k,0,d',h=>by simp at h; subst h; rfl
 | d :: ds,k,i + 1,d',h=>by
  have q:=mj ds (k + 1) i d' (by simpa using h);show (Dv.tup [.int k,d] :: iS (k + 1) ds)[i + 1]?=_;rw [MF,q];have e:k + 1 + i=k + (i + 1):=by omega
  rw [e]
theorem yH {K:f_} {H:Hp} {a:k_} {xs:List V} {ds:List Dv} (h:H a=a_ (.lst xs)) (r:Reps K H ds xs):WkG K (Ite K a) (iS 0 ds) H where
 go:=fun i H' e hi=>by
  rw [gh] at hi;have hx:i < xs.length:=by rw [r.length]; exact hi
  exact ⟨xs,xs[i],SqL.of (e _ _ h),by simp [hx]⟩
 stop:=fun H' e=>⟨xs,SqL.of (e _ _ h),by rw [r.length,gh]; exact r_ _⟩
 yld:=fun i H' v H2 e hi y=>by
  obtain ⟨p,x,rfl,hp,rfl,y⟩:=y;obtain ⟨d,h1,h2⟩:=Reps.get (Reps.mono e _ _ r) (y xs (SqL.of (e _ _ h)));have q:=mj ds 0 i d h1;rw [Mf] at q;exact ⟨aG hp _,_,q,⟨p,_,rfl,ax,⟨.int i,[x],rfl,rfl,x,[],rfl,Rep.mono (aG hp _) _ _ h2,rfl⟩⟩⟩
def vz:List Dv→Option (Rs (List Dv))
 | [.lst ds]=>a_ (.ok (iS 0 ds))
 | _=>ck
theorem vA {X:Cx} {es:List F_} {k:Nat} {pt p pos:Pos} {l:F_} {ga:FnA} (hg:Gl X "enumerate") (hm:X.mg "enumerate"=ck) (ha:FA X [l] ga) (hs:l_ [l] X.env=[(d_,eval l X.env)]:=by kernel_rfl):FIG X (.Tuple es k pt) (.Call (.Name "enumerate" p) [l] [] pos) (fun ρ=>bnd (ga ρ) vz):=by
 constructor;intro j' s σ H R I h;obtain ⟨ρ,E,o⟩:=h;have key:OutA X H (ga ρ) fun vs H'=>∃ ds,Reps X.K H' ds vs∧OutG X H' (vz ds) R:=by
  match hf:ga ρ,o with
  | some (.exc c),o=>exact o
  | some (.ok ds),o=>exact fun vs H' e rs=>⟨ds,rs,OutG.mono e o⟩
 refine Call_ (gY I hg hm (show Kp "enumerate"=a_ (.type "enumerate") by decide +kernel) (Kc (thn (ha.h pos j' s σ H _ I ⟨ρ,E,key⟩) fun us s1 ⟨vs,H1,I1,r1,ds,rs,q1⟩=>?_) hs rfl));unfold vz at q1;split at q1
 · rename_i xs;obtain ⟨v,rfl,rv⟩:=dz rs;obtain ⟨a,ws,rfl,h1,h2⟩:=rv.lstE;obtain ⟨u,rfl,ru⟩:=fg r1;cases ru;obtain ⟨its,rv',pl,hz⟩:=I1.list (SqL.of h1);refine call_enumerate_list pl.isList fun h' he hit hsz kk=>?_;refine wpAny_pyIter_enum he ?_;have I2:Inv X j' σ H1 { s1 with heap:=h' }:=I1.kept (t':=s1.toks) kk;refine ⟨s1.heap.objs.size + 1,[s1.heap.objs.size + 1,s1.heap.objs.size],_,Ite X.K a,H1,rfl,I2,sj a _ _ (Nat.succ_ne_self _),⟨⟨_,he⟩,hit⟩,fun b hb=>?_,q1 _ H1 (.refl H1) (yH h1 h2)⟩;have hb':b=s1.heap.objs.size + 1∨b=s1.heap.objs.size:=by simpa using hb
   rcases hb' with rfl | rfl
   · exact I1.fpOk (Pf _) (I1.hok.fresh (Pf _))
   · exact I1.fpOk (r_ _) (I1.hok.fresh (r_ _))
 · exact q1.elim
def FY:List Nat→List V→L2.St→L2.St
 | i :: is,v :: vs,σ=>FY is vs (σ.set i (a_ v))
 | _,_,σ=>σ
def Ex:List Nat→List Dv→Ev→Ev
 | i :: is,d :: ds,ρ=>Ex is ds (ρ.set i (a_ d))
 | _,_,ρ=>ρ
def yI (is:List Nat):TGs:=fun vs σ H Q=>vs.length=is.length∧Q (FY is vs σ) H
section
variable {X:Cx} {pos p1:Pos}
theorem pw {ts:List F_} {t t':TGs} (h:PGs X ts t) (w:∀ vs σ H Q,t' vs σ H Q→t vs σ H Q):PGs X ts t' :=
 fun j' s σ H vs us Q I r q=>h j' s σ H vs us Q I r (w vs σ H Q q)
theorem B7:PGs X [] (yI []):=pw rj fun vs σ H Q ⟨l,q⟩=>by
 cases vs with
 | nil=>exact ⟨rfl,q⟩
 | cons v r=>cases l
theorem yJ (i:Nat) {x:Str} {is:List Nat} {es:List F_} (hN:X.N.Nodup) (hi:X.N[i]?=a_ x) (hx:Loc X.env.scope x) (hf:X.fn x=e_∨X.env.scope.names.lookup x=a_ .local) (h:PGs X es (yI is))
 (hs:(Jq (.Name x p1 :: es) X.env).map (·.2)=LI (.Name x p1) X.env :: (Jq es X.env).map (·.2):=by kernel_rfl):PGs X (.Name x p1 :: es) (yI (i :: is)) :=
 pw (kT (hZ (i:=i) hN hi hx hf) h hs) fun vs σ H Q ⟨l,q⟩=>by
  cases vs with
  | nil=>cases l
  | cons v r=>exact ⟨v,r,rfl,(⟨Nat.succ.inj l,q⟩:yI is r (σ.set i (a_ v)) H Q)⟩
theorem Envs.setAll {K:f_} {H:Hp}:∀ (is:List Nat) {ds:List Dv} {vs:List V} {σ:L2.St} {ρ:Ev},Envs K H σ ρ→Reps K H ds vs→Envs K H (FY is vs σ) (Ex is ds ρ)
 | [],_,_,_,_,E,_=>E
 | _ :: _,[],vs,_,_,E,r=>by cases (show vs=[] from r); exact E
 | i :: is,d :: ds,vs,σ,ρ,E,r=>by
  obtain ⟨v,us,rfl,h,t⟩:∃ v us,vs=v :: us∧Rep K H d v∧Reps K H ds us:=r;exact Envs.setAll is (E.set h) t
def IB (is:List Nat) (ρ:Ev):Dv→Option Fl
 | .tup ds=>if ds.length=is.length then a_ (.nx (Ex is ds ρ)) else ck
 | _=>ck
def B8 (is:List Nat) (f:FnE):FnS:=fun ρ=>bN (f ρ) (IB is ρ)
theorem B9 {es:List F_} {k:Nat} {e:F_} {fa:FnE} {is:List Nat} (hc:X.calm=e_) (h:PGs X es (yI is)) (he:FE X e fa)
 (hn:(Jq es X.env).length=is.length:=by kernel_rfl) (hst:(Jq es X.env).findIdx? (·.1)=ck:=by kernel_rfl)
 (hs:PJ [.Tuple es k p1] e pos.line X.env=pure d_:=by kernel_rfl) (hw:PK [.Tuple es k p1] e X.env=pure ck:=by kernel_rfl)
 (h1:(Jq [.Tuple es k p1] X.env).map (·.2)=[LI (.Tuple es k p1) X.env]:=by kernel_rfl):FS X (.Assign [.Tuple es k p1] e pos) (B8 is fa) :=
 nA (wU he.h (wT (n:=is.length) hc h hn hst) hs hw h1) fun D σ H ρ E o=>⟨ρ,E,Out.bindS o fun d v H1 e r o1=>by
  cases d with
  | tup ds =>
   have o2:OutS X H1 (if ds.length=is.length then a_ (.nx (Ex is ds ρ)) else ck) D:=o1;by_cases hl:ds.length=is.length
   · rw [if_pos hl] at o2;obtain ⟨a,xs,rfl,h1,h2⟩:=r.tupE;exact ⟨a,xs,rfl,SqT.of h1,h2.length.trans hl,h2.length.trans hl,o2 _ H1 (.refl H1) (Envs.setAll is (E.mono e) h2)⟩
   · rw [if_neg hl] at o2;exact o2.elim
  | _=>exact o1.elim⟩
end
theorem am {a b:FnS} {ρ ρ':Ev} (h:a ρ=a_ (.nx ρ')):au a b ρ=b ρ':=by
 unfold au; rw [h]; rfl
theorem jM {a b:FnS} {ρ:Ev} {d:Dv} (h:a ρ=a_ (.rt d)):au a b ρ=a_ (.rt d):=by
 unfold au; rw [h]; rfl
theorem bC {c:FnB} {f:FnS} {ρ:Ev} (h:c ρ=a_ (.ok d_)):aQ c f (fun ρ=>a_ (.nx ρ)) ρ=a_ (.nx ρ):=by
 unfold aQ; rw [h]; rfl
theorem aV {i:Nat} {v:FnE} {ρ ρ':Ev} {d:Dv} (h:v ρ=a_ (.ok d)) (e:ρ.set i (a_ d)=ρ'):ba i v ρ=a_ (.nx ρ'):=by
 unfold ba; rw [h,← e]; rfl
theorem pA {v:FnE} {ρ:Ev} {d:Dv} (h:v ρ=a_ (.ok d)):aS v ρ=a_ (.nx ρ):=by
 unfold aS; rw [h]; rfl
theorem dP {v:FnE} {ρ:Ev} {d:Dv} (h:v ρ=a_ (.ok d)):az v ρ=a_ (.rt d):=by
 unfold az; rw [h]; rfl
theorem yK {a:FnB} {ρ:Ev} {k:Bool} (h:a ρ=a_ (.ok k)):bh a ρ=a_ (.ok (!k)):=by unfold bh; rw [h]; rfl
theorem bM {f:FnE} {ρ:Ev} {k:Bool} (h:f ρ=a_ (.ok (.bl k))):fB f ρ=a_ (.ok k):=by unfold fB; rw [h]; rfl
theorem bD {g:Dv→Dv→Option (Rs Dv)} {f h:FnE} {ρ:Ev} {x y:Dv} (hf:f ρ=a_ (.ok x)) (hh:h ρ=a_ (.ok y)):f2 g f h ρ=g x y:=by unfold f2; rw [hf,hh]; rfl
theorem ai {f:FnE} {g:FnA} {ρ:Ev} {x:Dv} {xs:List Dv} (h:f ρ=a_ (.ok x)) (t:g ρ=a_ (.ok xs)):aa f g ρ=a_ (.ok (x :: xs)):=by unfold aa; rw [h,t]; rfl
theorem aM {ρ:Ev}:ah ρ=a_ (.ok []):=rfl
theorem iB {F:List Dv→Option (Rs Dv)} {n:Nat} {g:FnA} {ρ:Ev} {ds:List Dv} {d:Dv} (h:g ρ=a_ (.ok ds)) (hl:ds.length=n) (hF:F ds=a_ (.ok d)):ag F n g ρ=a_ (.ok d):=by
 unfold ag; rw [h];show (if _ then _ else _)=_;rw [if_pos hl,hF]
theorem jr (F:List Dv→Option (Rs Dv)) {f:FnE} {ρ:Ev} {a d:Dv} (h:f ρ=a_ (.ok a)) (hF:F [a]=a_ (.ok d)):ag F 1 (aa f ah) ρ=a_ (.ok d):=iB (ai h aM) rfl hF
theorem fm (F:List Dv→Option (Rs Dv)) {f g:FnE} {ρ:Ev} {a b d:Dv} (h:f ρ=a_ (.ok a)) (h':g ρ=a_ (.ok b)) (hF:F [a,b]=a_ (.ok d)):ag F 2 (aa f (aa g ah)) ρ=a_ (.ok d):=iB (ai h (ai h' aM)) rfl hF
theorem k9 {g:FnA} {ρ:Ev} {ds:List Dv} (h:g ρ=a_ (.ok ds)) (hl:ds.length≤100000):bS g ρ=a_ (.ok (.tup ds)):=by
 unfold bS; rw [h];show (if _ then _ else _)=_;rw [if_pos hl]
theorem Ca {f g:FnE} {ρ:Ev} (h:f ρ=a_ (.ok (.bl e_))):cK f g ρ=g ρ:=by unfold cK; rw [h]; rfl
theorem dt {g:List Dv→Option (Rs Dv)} {a:FnA} {ρ:Ev} {ds:List Dv} (h:a ρ=a_ (.ok ds)):fB1 g a ρ=g ds:=by unfold fB1; rw [h]; rfl
theorem F0 {g:Dv→Option (Rs Dv)} {f:FnE} {ρ:Ev} {x:Dv} (h:f ρ=a_ (.ok x)):f1 g f ρ=g x:=by unfold f1; rw [h]; rfl
theorem F4 {c:FnB} {f g:FnE} {ρ:Ev} (h:c ρ=a_ (.ok e_)):fIf c f g ρ=f ρ:=by unfold fIf; rw [h]; rfl
theorem F5 {c:FnB} {f g:FnE} {ρ:Ev} (h:c ρ=a_ (.ok d_)):fIf c f g ρ=g ρ:=by unfold fIf; rw [h]; rfl
theorem nK {g:FnA} {ρ:Ev} {ds:List Dv} (h:g ρ=a_ (.ok ds)) (hl:ds.length≤100000):bK g ρ=a_ (.ok (.lst ds)):=by
 unfold bK; rw [h];show (if _ then _ else _)=_;rw [if_pos hl]
theorem fY {n:Nat} {B:FnS} {ds:List Dv} {d:Dv} (h:B (ds.map a_ ++ Jj (n - ds.length) ck)=a_ (.rt d)):bp n B ds=a_ (.ok d):=by
 unfold bp; rw [h]
section
variable {prog:rl} {w:C_} {A:D_} {E:g_→h_→Prop}
end
section
variable {X:Cx} {pos p1:Pos}
end
structure Aft (X:Cx) (e:k_) (Ts:List k_) (h h':H_):Prop where
 keep:∀ b o,h.get? b=a_ o→b≠e→b ∉ Ts→b ∉ frs X.stack→h'.get? b=a_ o
 slot:∀ b o,h.get? b=a_ o→b∈frs X.stack→∃ sl,h'.get? b=a_ { o with slots:=sl }
section
variable {X:Cx} {j':List (k_×Obj)} {σ:L2.St} {H:Hp} {s:h_} {e:k_} {Ts:List k_} {h':H_}
theorem Aft.any {h:H_} (A:Aft X e Ts h h') {b:k_} {o:Obj} (q:h.get? b=a_ o) (n1:b≠e) (n2:b ∉ Ts):∃ sl,h'.get? b=a_ { o with slots:=sl }:=by
 by_cases hb:b∈frs X.stack
 · exact A.slot b o q hb
 · exact ⟨o.slots,A.keep b o q n1 n2 hb⟩
theorem Inv.aft (I:Inv X j' σ H s) (A:Aft X e Ts s.heap h') (hex:X.ex=[]) (hf:∀ b,b=e∨b∈Ts→H b=ck∧X.s₀.heap.get? b=ck∧(∀ p∈X.pn ++ j',p.1≠b)∧∃ o vs,s.heap.get? b=a_ o∧o.data=.fields vs) :
 Inv X j' σ H { s with heap:=h' }:=by
 have nE:∀ b,H b≠ck→b≠e∧b ∉ Ts:=fun b hb=>⟨fun z=>hb (hf b (.inl z)).1,fun z=>hb (hf b (.inr z)).1⟩;have n0:∀ b o,X.s₀.heap.get? b=a_ o→b≠e∧b ∉ Ts:=fun b o hb=>⟨fun z=>(by simp:(a_ o:Option Obj)≠ck) (hb.symm.trans (hf b (.inl z)).2.1),fun z=>(by simp:(a_ o:Option Obj)≠ck) (hb.symm.trans (hf b (.inr z)).2.1)⟩;have nx:∀ b,b ∉ X.ex:=fun b=>by rw [hex]; simp
 have nD:∀ b o,s.heap.get? b=a_ o→(∀ vs,o.data≠.fields vs)→b≠e∧b ∉ Ts:=fun b o hb hd =>
  have go:(b=e∨b∈Ts)→False:=fun z=>by
   obtain ⟨o',vs,q,d⟩:=(hf b z).2.2.2;rw [hb] at q;cases q;exact hd vs d
  ⟨fun z=>go (.inl z),fun z=>go (.inr z)⟩
 have nS:∀ b∈frs X.stack,H b=ck:=I.stkFree;have cellK:∀ c v,s.heap.IsCell c v→h'.IsCell c v:=fun c v ⟨o,ho,hd⟩=>by
  obtain ⟨n1,n2⟩:=nD c o ho fun vs q=>by rw [hd] at q; cases q
  obtain ⟨sl,q⟩:=A.any ho n1 n2;exact ⟨_,q,hd⟩
 refine ⟨I.ok,I.os,I.bare,⟨fun b o q n hb hx=>?_,fun b o q n hb hx=>?_,I.base.free,fun b o q hx=>?_,I.base.tups,I.base.frzs,I.base.tbls⟩,?_,fun x c q=>?_,I.free,I.freeC,fun p hp=>?_,fun a o q=>?_,I.len⟩
 · have h1:=I.base.keep b o q n hb hx;obtain ⟨n1,n2⟩:=n0 b o q;refine A.keep b o h1 n1 n2 fun z=>?_;rcases w_.mp (I.stkSub b z) with z | z
   · exact absurd z (I_ (G_ (v_ q) I.ok.above))
   · exact hb z
 · obtain ⟨sl,h1⟩:=I.base.slot b o q n hb hx;obtain ⟨n1,n2⟩:=n0 b o q;obtain ⟨sl',h2⟩:=A.any h1 n1 n2;exact ⟨sl',h2⟩
 · obtain ⟨o',h1⟩:=I.base.there b o q hx;obtain ⟨n1,n2⟩:=n0 b o q;obtain ⟨sl,h2⟩:=A.any h1 n1 n2;exact ⟨_,h2⟩
 · obtain ⟨m,⟨o,es,ep,ho,hd,r⟩,hl⟩:=I.loc;obtain ⟨n1,n2⟩:=nD _ o ho fun vs q=>by rw [hd] at q; cases q
   obtain ⟨sl,q⟩:=A.any ho n1 n2;refine ⟨m,⟨_,es,ep,q,hd,r⟩,fun i x v e1 e2 e3=>?_⟩;obtain ⟨u,ru,l⟩:=hl i x v e1 e2 e3;refine ⟨u,ru,?_⟩;rcases l with l | ⟨k,c,ec,z⟩
   · exact .inl l
   · exact .inr ⟨k,c,ec,cellK c _ z⟩
 · obtain ⟨v,z⟩:=I.cell x c q;exact ⟨v,cellK c v z⟩
 · obtain ⟨q,n,ne,nf,d⟩:=I.pin p hp;have n1:p.1≠e:=(hf e (.inl rfl)).2.2.1 p hp;have n2:p.1 ∉ Ts:=fun z=>(hf p.1 (.inr z)).2.2.1 p hp rfl;refine ⟨A.keep p.1 p.2 q n1 n2 fun z=>?_,n,ne,nf,d⟩;rcases w_.mp (I.stkSub _ z) with z | z
   · exact ne z
   · exact nf z
 · refine (I.hok a o q).stay (fun b u hb hu=>?_) (fun _ z=>z) fun _ _ z=>z;have hn:H b≠ck:=by
    rcases hb with rfl | hb
    · rw [q]; simp
    · rw [hb]; simp
   exact A.keep b u hu (nE b hn).1 (nE b hn).2 fun z=>hn (nS b z)
abbrev hid (X:Cx) (e:k_) (Ts:List k_) (h:H_):H_:=QT h (e :: (Ts ++ frs X.stack))
theorem pB (I:Inv X j' σ H s) (k:(hid X e Ts s.heap).StaysIn h') (u:∀ b o,s.heap.get? b=a_ o→(∀ vs,o.data≠.fields vs)→∃ sl,h'.get? b=a_ { o with slots:=sl }):Aft X e Ts s.heap h' :=
 ⟨fun b o q n1 n2 n3=>k b o (Nt _ q (by simp only [w_,Jn]; rintro (z | z | z); exact n1 z; exact n2 z; exact n3 z)),fun b o q hb=>by
  obtain ⟨_,o',q',d⟩:=I.stack.mem hb;rw [q] at q';cases q';exact u b o q d⟩
theorem la (I:Inv X j' σ H s):s.heap.FunFrames (hid X e Ts s.heap) X.stack :=
 PySem.W.funFrames_hide I.stack fun env he a hfa=>o_ _ (m_ _ (NU.mpr ⟨env,he,hfa⟩))
end
section
variable {X:Cx} {j':List (k_×Obj)} {σ:L2.St} {H:Hp} {s:h_} {e:k_} {cls:g_}
theorem Fly.imp {N N':k_→Prop} {h:H_} (F:Fly N H e cls h) (k:∀ a,N a→N' a):Fly N' H e cls h:=by
 obtain ⟨h1,h2,oe,vs,a0,q1,q2,q3,q4,q5⟩:=F;refine ⟨h1,k _ h2,oe,vs,a0,q1,q2,q3,q4,?_⟩;rcases q5 with q5 | ⟨T,oT,ts,r1,r2,r3,r4,r5⟩
 · exact .inl q5
 · exact .inr ⟨T,oT,ts,r1,r2,r3,k _ r4,r5⟩
theorem xt {h':H_} {Ts:List k_} (I:Inv X j' σ H s) (hex:X.ex=[]) (he:H e=ck∧X.s₀.heap.get? e=ck) (hT:∀ T∈Ts,H T=ck∧X.s₀.heap.get? T=ck) (ff:h'.FunFrames (hid X e Ts s.heap) X.stack)
 {T:k_} {oT:Obj} {ts:Array g_} (hn:(hid X e Ts s.heap).get? T=ck) (ne:T≠e) (hg:h'.get? T=a_ oT) (hd:oT.data=.fields ts):H T=ck∧X.s₀.heap.get? T=ck:=by
 have nf:T ∉ frs X.stack:=fun z=>by
  obtain ⟨_,o,q,d⟩:=ff.mem z;rw [hg] at q;cases q;exact d ts hd
 have out:T∈Ts∨s.heap.get? T=ck:=by
  cases q:s.heap.get? T with
  | none=>exact .inr rfl
  | some o =>
   by_cases hm:T∈Ts
   · exact .inl hm
   · have:=Nt (e :: (Ts ++ frs X.stack)) q (by simp only [w_,Jn]; rintro (z | z | z); exact ne z; exact hm z; exact nf z);rw [hn] at this;cases this
 rcases out with hm | hm
 · exact hT T hm
 · constructor
   · cases q:H T with
     | none=>rfl
     | some u =>
      have hk:=I.hok T u q;exfalso;have:∃ o,s.heap.get? T=a_ o:=by
       clear q
       induction u with
       | lst xs=>obtain ⟨_,_,_,_,z⟩:=hk; exact ⟨_,z⟩
       | tup xs=>obtain ⟨_,_,_,o,z,_⟩:=hk; exact ⟨_,z⟩
       | dK kvs=>obtain ⟨_,_,_,_,o,_,_,z,_⟩:=hk; exact ⟨_,z⟩
       | dT kvs=>obtain ⟨_,_,_,_,o,_,_,z,_⟩:=hk; exact ⟨_,z⟩
       | set S n=>obtain ⟨o,_,_,_,z,_⟩:=hk; exact ⟨_,z⟩
       | ins C dx fs=>obtain ⟨_,_,_,z,_⟩:=hk; exact ⟨_,z⟩
       | own y=>obtain ⟨_,z⟩:=hk; exact ⟨_,z⟩
       | xd fs=>obtain ⟨_,⟨_,_,_,z,_⟩,_⟩:=hk; exact ⟨_,z⟩
       | rng lo hi=>obtain ⟨_,_,_,z⟩:=hk; exact ⟨_,z⟩
       | frz ob u ih=>obtain ⟨z,_⟩:=hk; exact ⟨_,z⟩
       | tbl ps=>obtain ⟨_,z,_⟩:=hk; exact ⟨_,z⟩
       | met f y=>exact ⟨_,(show s.heap.get? T=a_ _ from hk)⟩
       | ext φ=>obtain ⟨_,⟨_,z⟩,_⟩:=hk; exact ⟨_,z⟩
      obtain ⟨o,z⟩:=this;rw [hm] at z;cases z
   · cases q:X.s₀.heap.get? T with
     | none=>rfl
     | some o =>
      obtain ⟨o',z⟩:=I.base.there T o q (by rw [hex]; simp);rw [hm] at z;cases z
theorem sk (I:Inv X j' σ H s) (hex:X.ex=[]) (hst:X.stack=X.env :: X.outer) (hfm:X.env.frame=a_ X.env.locals) (F:Fly (fun a=>X.s₀.heap.get? a=ck) H e cls s.heap)
 {Q:Unit→h_→Prop} {E:g_→h_→Prop} (k:∀ h' Ts,Fly (fun a=>X.s₀.heap.get? a=ck) H e cls h'→Aft X e Ts s.heap h'→(∀ b,b=e∨b∈Ts→H b=ck∧X.s₀.heap.get? b=ck∧∃ o vs,s.heap.get? b=a_ o∧o.data=.fields vs)→Q () { s with heap:=h' }) :
 uk (z_ X.prog X.w) X.A (leaving X.env (.ref e)) Q E s:=by
 obtain ⟨f1,f2,oe,vs,a0,q1,q2,q3,q4,q5⟩:=F;have hfr:X.A.frames=a_ (X.env :: X.outer):=hst ▸ I.ok.frames;subst q2;rcases q5 with q5 | ⟨T,oT,ts,r1,r2,r3,r4,r5,r6,r7⟩
 · have b3:s.heap.FunFrames (hid X e [] s.heap) (X.env :: X.outer):=hst ▸ la I;refine wpAny_leaving_firstW (base:=hid X e [] s.heap) hfr b3 hfm q1 (fun b o z=>LJ _ z) (Ks _ (n_ ..)) q3 q5 q4 fun h' hL=>?_;obtain ⟨k1,k2,⟨oe',vs',T,oT,ts,t1,⟨t2,t3⟩,t4,t5,t6,t7,t8,t9,t10⟩,k4⟩:=hL;have k2':h'.FunFrames (hid X e [] s.heap) X.stack:=hst ▸ k2;have nT:=xt I hex ⟨f1,f2⟩ (fun _ z=>absurd z (by simp)) k2' t6 t7 t8 t9;refine k h' [] ⟨f1,f2,oe',vs',a0,t1,t2,t4,t3,.inr ⟨T,oT,ts,t5,t7,nT.1,nT.2,t8,t9,t10⟩⟩ (pB I k1 k4) fun b hb=>?_;rcases hb with rfl | hb
   · exact ⟨f1,f2,oe,vs,q1,q3⟩
   · cases hb
 · have b3:s.heap.FunFrames (hid X e [T] s.heap) (X.env :: X.outer):=hst ▸ la I;have ht:s.heap.TracedW (hid X e [T] s.heap) e oe.cls a0:=⟨oe,vs,T,oT,ts,q1,⟨rfl,q4⟩,q3,r1,Ks _ (by simp),r2,r5,r6,r7⟩;refine wpAny_leaving_nextW (base:=hid X e [T] s.heap) hfr b3 hfm ht (fun b o z=>LJ _ z) (Ks _ (n_ ..)) fun h' hL=>?_;obtain ⟨k1,k2,⟨oe',vs',T',oT',ts',t1,⟨t2,t3⟩,t4,t5,t6,t7,t8,t9,t10⟩,k4⟩:=hL;have k2':h'.FunFrames (hid X e [T] s.heap) X.stack:=hst ▸ k2;have nT:=xt I hex ⟨f1,f2⟩ (fun T0 z=>by simp at z; subst z; exact ⟨r3,r4⟩) k2' t6 t7 t8 t9;refine k h' [T] ⟨f1,f2,oe',vs',a0,t1,t2,t4,t3,.inr ⟨T',oT',ts',t5,t7,nT.1,nT.2,t8,t9,t10⟩⟩ (pB I k1 k4) fun b hb=>?_;rcases hb with rfl | hb
   · exact ⟨f1,f2,oe,vs,q1,q3⟩
   · simp at hb;subst hb;exact ⟨r3,r4,oT,ts,r5,r6⟩
end
def CXE (P:rl) (w:C_):CXT:=fun outer H s E ev s'=>∃ e cls H',ev=.ref e∧s'.os=s.os∧NA s'.gens∧Un (frs outer) [] H H' s.heap s'.heap∧HOk P w H' s'.heap∧Fly (fun a=>s.heap.get? a=ck) H' e cls s'.heap∧E cls ck H'
def spE (K:f_) (F:List Dv→Option (Rs Dv)) (n:Nat):Sp:=fun vs H Q E=>∃ ds,Reps K H ds vs∧ds.length=n∧match F ds with
 | some (.ok d)=>∀ v H',Same H H'→Rep K H' d v→Q v H'
 | some (.exc c)=>∀ C H',KN K y_ (xnm c)=a_ (a_ (.ref C))→Same H H'→E (.ref C) ck H'
 | none=>False
def EX (X:Cx):XK:=fun cv _ H1=>∃ c C,cv=.ref C∧KN X.K y_ (xnm c)=a_ (a_ (.ref C))∧XW X c H1
theorem Cb {X:Cx} (hex:X.ex=[]):o9 (CXE X.prog X.w) X (EX X):=by
 intro j' σ H s ev s' I ⟨e,cls,H',he,os,bare,un,hok,F,c,C,hcv,hC,hx⟩;have I':Inv X j' σ H' s':=I.call' (ch:=[]) os un hok bare fun b z=>absurd z (by simp);refine hx j' σ H' s' ev (fun _ _ z=>z) I' ⟨e,C,he,hC,hcv ▸ F.imp fun a ha=>⟨?_,fun p hp z=>?_⟩⟩
 · cases q:X.s₀.heap.get? a with
   | none=>rfl
   | some o =>
    obtain ⟨o',z⟩:=I.base.there a o q (by rw [hex]; simp);rw [ha] at z;cases z
 · have:=(I.pin p (A_ _ hp)).1;rw [z,ha] at this;cases this
def al (F:List Dv→Option (Rs Dv)) (n:Nat) (g:FnA):FnE:=fun ρ=>bnd (g ρ) fun ds=>if ds.length=n then F ds else ck
def Ey (P:rl) (w:C_) (K:f_) (mg:Str→Option g_) (base:H_) (x:Str) (k:Nat) (ps:List Str) (F:List Dv→Option (Rs Dv)):Prop :=
 ∃ f fd,FnOk P w K mg base (CXE P w) k f fd ps (spE K F ps.length)∧mg x=a_ (.ref f)∧Ka K (.ref f)=e_∧Binds K fd ps []
section
variable {X:Cx} {k n:Nat} {ps:List Str} {x:Str} {p pos:Pos} {e:F_} {es:List F_} {F:List Dv→Option (Rs Dv)} {g:FnA}
theorem vB {k':Nat} (k:Nat) (ps:List Str) (F:List Dv→Option (Rs Dv)) (h:Ey X.prog X.w X.K X.mg X.base x k ps F) (hr:Room k' X.A) (hk:k≤k') (hex:X.ex=[]) (hg:Gl X x) (ha:FA X (e :: es) g) (hn:n=ps.length:=by kernel_rfl) (hdb:(x == ("__debug__":Str))=d_:=by kernel_rfl)
 (he:l_ (e :: es) X.env=(d_,eval e X.env) :: l_ es X.env:=by kernel_rfl) (hpl:(JV pos (l_ es X.env)).any (·.1)=d_:=by kernel_rfl) :
 FE X (.Call (.Name x p) (e :: es) [] pos) (al F n g):=by
 subst hn;obtain ⟨f,fd,G,hm,hkp,hb⟩:=h;refine df (nv (G.mono hk) hr hg hm hkp hb .nil (Cb hex) ha.h hdb he hpl) fun σ H Q ρ E o=>⟨ρ,E,OutA.bind o fun ds vs H' e rs o1=>?_⟩;show spE X.K F ps.length (vs ++ []) H' Q (EX X);rw [My];by_cases hl:ds.length=ps.length
 · rw [if_pos hl] at o1;refine ⟨ds,rs,hl,?_⟩
   match hF:F ds with
   | none=>rw [hF] at o1; exact o1.elim
   | some (.ok d)=>rw [hF] at o1; exact o1
   | some (.exc c)=>rw [hF] at o1; exact fun C H1 hC e1=>⟨c,C,rfl,hC,XW.mono o1 e1⟩
 · rw [if_neg hl] at o1;exact o1.elim
end
def eE (m:Nat) (fb:FnS):List Dv→Option (Rs Dv):=fun ds=>match fb (ds.map a_ ++ Jj (m - ds.length) ck) with
 | some (.nx _)=>a_ (.ok .non)
 | some (.rt d)=>a_ (.ok d)
 | some (.exc c)=>a_ (.exc c)
 | none=>ck
theorem Cc {P:rl} {w:C_} {K:f_} {mg:Str→Option g_} {base:H_} {N:List Str} {qual:Str} {scope:Kz} {f:k_} {cd:g_} {A:D_} {outer:List Env} {s:h_} {H:Hp} {E:XK} {c:Nat}
 (q:∀ C H',KN K y_ (xnm c)=a_ (a_ (.ref C))→Same H H'→E (.ref C) ck H'):XW (kU (CXE P w) P w K mg base N qual scope f cd A outer s H E) c H:=by
 intro j' σ H' s1 ev e1 I ⟨e,C,he,hC,F⟩;subst he;have F':Fly (fun a=>s.heap.get? a=ck) H' e (.ref C) s1.heap:=F.imp fun a ha=>ha.1;refine sk I rfl rfl rfl F' fun h' Ts F2 A2 hf=>?_;have I2:=Inv.aft (j':=[]) (I.pins_of (pins':=[]) fun p hp=>nomatch hp) A2 rfl fun b hb=>⟨(hf b hb).1,(hf b hb).2.1,fun p hp=>absurd (show p∈([]:List (k_×Obj)) from hp) (by simp),(hf b hb).2.2⟩;exact ⟨e,.ref C,H',rfl,I.os,I.bare,I2.base,I2.hok,F2,q C H' hC e1⟩
theorem Cd {k:Nat} {f:k_} {fd:JZ} {x:Str} {P:rl} {w:C_} {K:f_} {mg:Str→Option g_} {base:H_} {qual:Str} {st:Ky} {F:List Dv→Option (Rs Dv)} {n:Nat} (N ps:List Str) (fb:FnS) (hF:F=eE N.length fb) (hn:n=ps.length)
 (Fn:Fun K x qual st f fd) (S:dO N ps (aF st))
 (hb:∀ (cdv:g_) (A:D_) (outer:List Env) (s:h_) (H:Hp) (E:XK),Room k (A.deeper (LN qual (aF st) s.heap.objs.size f cdv))→FSs (kU (CXE P w) P w K mg base N qual (aF st) f cdv A outer s H E) (cM st) fb) :
 FnOk P w K mg base (CXE P w) (k + 1) f fd ps (spE K F n):=by
 subst hF hn;obtain ⟨oc,od,kV,doc,pm,an,cdv,ct,osl,rfl,lk,hcd⟩:=Fn.ex;refine vd lk hcd S (fun vs H Q E h=>?_) fun A outer s H vs Q E hr h=>?_
 · obtain ⟨ds,r,hl,_⟩:=h;rw [r.length,hl]
 · obtain ⟨ds,r,hl,q⟩:=h;refine ⟨_,(hb cdv A outer s H E hr).h,ds.map a_ ++ Jj (N.length - ds.length) ck,fj r,?_⟩;unfold eE at q
   match hf:fb (ds.map a_ ++ Jj (N.length - ds.length) ck) with
   | none=>rw [hf] at q; exact q.elim
   | some (.exc c)=>rw [hf] at q; exact Cc q
   | some (.rt d)=>rw [hf] at q; exact fun v H' e r'=>q v H' e r'
   | some (.nx ρ)=>rw [hf] at q; exact fun σ' H' e _=>q .non H' e rfl
theorem lb {P:rl} {w:C_} {H:Hp} {h:H_} (ok:HOk P w H h) {a:k_} {u:HO} (q:H a=a_ u):∃ o,h.get? a=a_ o:=by
 have hk:=ok a u q;clear q
 induction u with
 | lst xs=>obtain ⟨_,_,_,_,z⟩:=hk; exact ⟨_,z⟩
 | tup xs=>obtain ⟨_,_,_,o,z,_⟩:=hk; exact ⟨_,z⟩
 | dK kvs=>obtain ⟨_,_,_,_,o,_,_,z,_⟩:=hk; exact ⟨_,z⟩
 | dT kvs=>obtain ⟨_,_,_,_,o,_,_,z,_⟩:=hk; exact ⟨_,z⟩
 | set S n=>obtain ⟨o,_,_,_,z,_⟩:=hk; exact ⟨_,z⟩
 | ins C dx fs=>obtain ⟨_,_,_,z,_⟩:=hk; exact ⟨_,z⟩
 | own y=>obtain ⟨_,z⟩:=hk; exact ⟨_,z⟩
 | xd fs=>obtain ⟨_,⟨_,_,_,z,_⟩,_⟩:=hk; exact ⟨_,z⟩
 | rng lo hi=>obtain ⟨_,_,_,z⟩:=hk; exact ⟨_,z⟩
 | frz ob u ih=>obtain ⟨z,_⟩:=hk; exact ⟨_,z⟩
 | tbl ps=>obtain ⟨_,z,_⟩:=hk; exact ⟨_,z⟩
 | met f y=>exact ⟨_,(show h.get? a=a_ _ from hk)⟩
 | ext φ=>obtain ⟨_,⟨_,z⟩,_⟩:=hk; exact ⟨_,z⟩
theorem sr {P:rl} {w:C_} {H:Hp} {h:H_} (ok:HOk P w H h) {a:k_} (n:h.get? a=ck):H a=ck:=by
 cases q:H a with
 | none=>rfl
 | some u =>
  obtain ⟨o,z⟩:=lb ok q;rw [n] at z;cases z
theorem ss {K:f_} {h:H_} {mg:Str→Option g_} {x:Str} {C:k_} {bmB:List g_} {newId:String} (X:K.In h) (hb:mg x=a_ (.ref C)) (q:PN K C bmB newId=e_):OwnCls x C bmB newId mg h:=by
 constructor
 · exact hb
 unfold PN at q;split at q
 · rename_i dd cd sl look;split at q
   · rename_i C2 rest s0 s1 s2 s3 nid s5 em es;simp only [on,beq_iff_eq,Lm] at q;have e1:=q.1.1.1.1.1;have e2:=q.1.1.1.1.2;have e3:=q.1.1.1.2;have e4:=q.1.1.2;have e5:=q.1.2;have e6:=q.2;clear q;subst e1 e2;obtain ⟨f1,f2,f3,f4,f5,f6,f7,f8,f9,f10,f11⟩:=cd;dsimp only at em e3 e5 e6;subst em e3;obtain ⟨l⟩:=sl;have e7:l=[s0,s1,s2,s3,a_ (.builtin nid),s5]:=es;subst e7;refine ⟨rest,f4,f1,f5,f2,f6,f7,f8,f9,f10,dd,s0,s1,s2,s3,s5,_,X _ _ look,.of_isNs (PySem.W.isNs_of_in X e5),?_,PySem.W.tail_of_in X e4⟩;exact PySem.W.nsMap_none_of_in X e5 e6
   · cases q
 · cases q
abbrev bmV:List g_:=[.type "ValueError",.type "Exception",.type "BaseException",.type "object"]
structure XC (K:f_) (c:Nat) (C:k_):Prop where
 nm:KN K y_ (xnm c)=a_ (a_ (.ref C))
 ex:PN K C bmV "ValueError.__new__"=e_
def aC (c:Nat) (f:FnE):FnS:=fun ρ=>bN (f ρ) fun _=>a_ (.exc c)
section
variable {X:Cx} {a:F_} {fa:FnE} {np cpos pos:Pos} {x:Str} {C:k_}
theorem vC (c:Nat) (K:XC X.K c C) (hx:xnm c=x) (hm:X.mg x=a_ (.ref C)) (hex:X.ex=[]) (hc:X.calm=e_) (hg:Gl X x) (ha:FE X a fa)
 (he:l_ [a] X.env=(d_,eval a X.env) :: l_ [] X.env:=by kernel_rfl) (hdb:(x == ("__debug__":Str))=d_:=by kernel_rfl) :
 FS X (.Raise (a_ (.Call (.Name x np) [a] [] cpos)) ck pos) (aC c fa):=by
 subst hx;constructor;intro j' s σ H D I ⟨ρ,E,o⟩;obtain ⟨tl,N,nm,q,bs,hdct,sn,sub,ab,col,dd,k0,k1,k2,k3,k5,mN,hC,hN,hni,T⟩:=(ss I.ok.mod.kin hm K.ex).obj;refine wpAny_Raise_call_subT (C:=C) (nm:=nm) (q:=q) (N:=N) (bs:=bs) (bm:=tl) (hdct:=hdct) (sn:=sn) (sub:=sub) (ab:=ab) (col:=col) (dd:=dd) (k0:=k0) (k1:=k1) (k2:=k2) (k3:=k3) (k5:=k5) Ma (mN:=mN)
  (T.hasType Ma.hasBase) (I.ok.hd hc) (by rw [he]; rfl) hni (kP I hg hm ⟨rfl,?_⟩ hdb)
 have hp:=(nF ha rV he).h cpos j' s σ H (fun vs H1=>vs.length=1∧XW X c H1) I ⟨ρ,E,?_⟩
 · rw [he] at hp ⊢;refine Pd (thn hp fun us s2 ⟨vs,H1,I1,rv,hl,hw⟩=>⟨rfl,?_,I1.bk _ _ hC,hN.keeps I1.bk,T.keeps I1.bk,fun h' e me=>?_⟩)
   · rw [← rv.length,hl]; decide
   · have I2:Inv X j' σ H1 { s2 with heap:=h' }:=I1.kept (t':=s2.toks) me.keeps;obtain ⟨t,t1,t2,t3⟩:=me.there;refine hw j' σ H1 _ (.ref e) (fun _ _ z=>z) I2 ⟨e,C,rfl,K.nm,sr I1.hok me.new,⟨?_,fun p hp z=>?_⟩,_,_,.ref t,t1,rfl,rfl,rfl,.inl rfl⟩
     · cases z:X.s₀.heap.get? e with
       | none=>rfl
       | some o2 =>
        obtain ⟨o3,z3⟩:=I1.base.there e o2 z (by rw [hex]; simp);rw [me.new] at z3;cases z3
     · have z2:=(I1.pin p (A_ _ hp)).1;rw [z,me.new] at z2;cases z2
 · show OutA X H (aa fa ah ρ) _;unfold aa;unfold aC at o
   match hf:fa ρ with
   | none=>rw [hf] at o; exact o.elim
   | some (.exc c2)=>rw [hf] at o; exact o
   | some (.ok d)=>rw [hf] at o; exact fun vs H1 e1 r=>⟨r.length,XW.mono o e1⟩
end
end FD
namespace FD
open PySem PySem.Spec PyProof.Rows L2 PySem.W Builtin.Getset_descriptor
section
variable {prog:rl} {w:C_} {A:D_} {E:g_→h_→Prop} {s:h_} {K:f_} {x C:k_} {ox:Obj}
structure XI (K:f_) (C:k_):Prop where
 ga:findIn K (.ref C) "__getattribute__"=a_ (a_ (.builtin "BaseException.__getattribute__"))
 gt:findIn K (.ref C) "__getattr__"=a_ ck
 cl:findIn K (.ref C) "__class__"=a_ (a_ (.builtin "object.__class__"))
 sp:specialIn K (.builtin "object.__class__") "__get__"=a_ (a_ (.builtin "getset_descriptor.__get__"))
 tk:takesIn K (.builtin "object.__class__")=a_ e_
 ob:mroIn K C (.type "object")=a_ e_
 be:mroIn K C (.type "BaseException")=a_ e_
end
section
variable {X:Cx} {p pos pT:Pos} {a:F_} {fa:FnE} {T:Str}
end
end FD
namespace FD
open PySem PySem.Spec PyProof.Rows L2 PySem.W
section
variable {X:Cx} {j':List (k_×Obj)} {σ:L2.St} {H:Hp} {s:h_}
end
structure RoomM (k:Nat) (A:D_):Prop where
 dp:A.depth + 3 * k + 5 < recursionLimit
 un:A.units + 16 * k + 200 < cLine
theorem RoomM.of {k:Nat} {A:D_} (r:Room k A):RoomM k A:=⟨r.dp,r.un⟩
theorem RoomM.mono {j k:Nat} {A:D_} (r:RoomM k A) (h:j≤k):RoomM j A:=⟨by have:=r.dp; omega,by have:=r.un; omega⟩
theorem RoomM.deeper {k:Nat} {A:D_} (r:RoomM (k + 1) A) (env:Env):RoomM k (A.deeper env) :=
 ⟨by have:=r.dp; show A.depth + 1 + 3 * k + 5 < _; omega,by have:=r.un; show A.units + 3 + 16 * k + 200 < _; omega⟩
theorem RoomM.units {k:Nat} {A:D_} (r:RoomM k A):A.units + 64 < cLine:=by have:=r.un; omega
structure FnM (P:rl) (w:C_) (K:f_) (mg:Str→Option g_) (base:H_) (k:Nat) (f:k_) (fd:JZ) (ps:List Str) (F:List Dv→Option (Rs Dv)):Prop where
 run:∀ (A:D_) (outer:List Env) (s:h_) (H:Hp) (args:Args) (us:List g_) (vs:List V) (ds:List Dv) (d:Dv) (Q:VK),RoomM k A→Env0 P w K mg base A outer s H→Oz s fd args (ps.zip us)→Vals vs us →
  Reps K H ds vs→ds.length=ps.length→F ds=a_ (.ok d)→(∀ v H',Same H H'→Rep K H' d v→Q v H')→L4 (z_ P w) A (.call (.ref f) args) (CR CX0 outer P w H s Q E0) s
def IC (P:rl) (w:C_) (K:f_) (mg:Str→Option g_) (base:H_) (x:Str) (k:Nat) (ps:List Str) (F:List Dv→Option (Rs Dv)):Prop :=
 ∃ f fd,FnM P w K mg base k f fd ps F∧mg x=a_ (.ref f)∧Ka K (.ref f)=e_∧Binds K fd ps []
section
variable {X:Cx} {x:Str} {p pos:Pos} {e:F_} {es:List F_} {g:FnA} {n:Nat}
end
abbrev Ap (X:Cx) (pl:List (k_×Obj)) (E:g_→h_→Prop):Cx:={ X with pn:=X.pn ++ pl,xe:=E }
abbrev qj (X:Cx) (pl:List (k_×Obj)) (e:k_):Cx:={ X with A:=X.A.mark (a_ (.ref e)),calm:=d_,pn:=X.pn ++ pl,xe:=fun _ _=>False }
section
variable {X:Cx} {pl ps:List (k_×Obj)} {σ:L2.St} {H:Hp} {s:h_} {E:g_→h_→Prop} {e:k_}
theorem yL (I:Inv X pl σ H s):Inv (Ap X pl E) [] σ H s :=
 ⟨⟨I.ok.mod,I.ok.kind,I.ok.glob,I.ok.blt,I.ok.above,I.ok.inj,I.ok.has,I.ok.cab,I.ok.hd,I.ok.frames,I.ok.stk,I.ok.exf,I.ok.bs,I.ok.bsz,I.ok.noex,I.ok.exfs,I.ok.funs,I.ok.frf⟩,
  I.os,I.bare,I.base,I.loc,I.cell,I.free,I.freeC,fun p hp=>I.pin p (by simpa using hp),I.hok,I.len⟩
theorem jN (I:Inv (Ap X pl E) ps σ H s):Inv X pl σ H s :=
 ⟨⟨I.ok.mod,I.ok.kind,I.ok.glob,I.ok.blt,I.ok.above,I.ok.inj,I.ok.has,I.ok.cab,I.ok.hd,I.ok.frames,I.ok.stk,I.ok.exf,I.ok.bs,I.ok.bsz,I.ok.noex,I.ok.exfs,I.ok.funs,I.ok.frf⟩,
  I.os,I.bare,I.base,I.loc,I.cell,I.free,I.freeC,fun p hp=>I.pin p (A_ _ hp),I.hok,I.len⟩
theorem pC (I:Inv X pl σ H s):Inv (qj X pl e) [] σ H s :=
 ⟨⟨I.ok.mod,I.ok.kind,I.ok.glob,I.ok.blt,I.ok.above,I.ok.inj,I.ok.has,I.ok.cab,fun z=>absurd z xy,I.ok.frames,I.ok.stk,I.ok.exf,I.ok.bs,I.ok.bsz,I.ok.noex,I.ok.exfs,I.ok.funs,I.ok.frf⟩,
  I.os,I.bare,I.base,I.loc,I.cell,I.free,I.freeC,fun p hp=>I.pin p (by simpa using hp),I.hok,I.len⟩
theorem qk (ok:X.Ok) (I:Inv (qj X pl e) ps σ H s):Inv X pl σ H s :=
 ⟨ok,I.os,I.bare,I.base,I.loc,I.cell,I.free,I.freeC,fun p hp=>I.pin p (A_ _ hp),I.hok,I.len⟩
theorem vD {Y:Cx} (I:Inv Y ps σ H s) (hex:Y.ex=[]) (hst:Y.stack=Y.env :: Y.outer) (hfm:Y.env.frame=a_ Y.env.locals) {cls:g_} (F:Fly (Fm Y) H e cls s.heap)
 {Q:Unit→h_→Prop} {E1 E2:g_→h_→Prop} (k:∀ h' Ts a0,(hid Y e Ts s.heap).StaysIn h'→h'.FunFrames (hid Y e Ts s.heap) Y.stack→h'.TracedW (hid Y e Ts s.heap) e cls a0 →
  (∀ b o,s.heap.get? b=a_ o→(∀ vs,o.data≠.fields vs)→∃ sl,h'.get? b=a_ { o with slots:=sl }) →
  (∀ b,b=e∨b∈Ts→H b=ck∧Fm Y b∧∃ o vs,s.heap.get? b=a_ o∧o.data=.fields vs)→Q () { s with heap:=h' }) :
 uk (z_ Y.prog Y.w) Y.A (Qr (.ref e) Y.env) (fun _ s2=>uk (z_ Y.prog Y.w) Y.A (setFlight (.ref e) ck) Q E1 s2) E2 s:=by
 obtain ⟨f1,f2,oe,vs,a0,q1,q2,q3,q4,q5⟩:=F;have hfr:Y.A.frames=a_ (Y.env :: Y.outer):=hst ▸ I.ok.frames;subst q2;rcases q5 with q5 | ⟨T,oT,ts,r1,r2,r3,r4,r5,r6,r7⟩
 · have b3:s.heap.FunFrames (hid Y e [] s.heap) (Y.env :: Y.outer):=hst ▸ la I;have go:∀ h',Heap.NotedW (hid Y e [] s.heap) (Y.env :: Y.outer) e oe.cls a0 (Ot Y.env.locals) s.heap h'→uk (z_ Y.prog Y.w) Y.A (setFlight (.ref e) ck) Q E1 { s with heap:=h' }:=fun h' ⟨k1,k2,k3,k4⟩ =>
    M1 (s:={ s with heap:=h' }) k1 k2 k3 fun h2 m1 m2 m3 m4=>k h2 [] a0 m1 (hst ▸ m2) m3 (fun b o q d=>by
     obtain ⟨sl,q'⟩:=k4 b o q d;exact ⟨sl,m4 b _ q' d⟩) fun b hb=>by
      rcases hb with rfl | hb
      · exact ⟨f1,f2,oe,vs,q1,q3⟩
      · cases hb
   unfold Qr;simp only [hfm];refine c_ (Ke q1 q3 q5 ?_);rw [if_neg (by decide)];exact wpAny_entryW hfr b3 hfm q1 (fun b o z=>LJ _ z) (Ks _ (n_ ..)) q3 (JR.mp q5).1 q4 go
 · have b3:s.heap.FunFrames (hid Y e [T] s.heap) (Y.env :: Y.outer):=hst ▸ la I;have ht:s.heap.TracedW (hid Y e [T] s.heap) e oe.cls a0:=⟨oe,vs,T,oT,ts,q1,⟨rfl,q4⟩,q3,r1,Ks _ (by simp),r2,r5,r6,r7⟩;refine wpAny_noteFrame_onW hfr b3 hfm ht (fun b o z=>LJ _ z) (Ks _ (n_ ..)) fun h' ⟨k1,k2,k3,k4⟩=>?_;refine M1 (s:={ s with heap:=h' }) k1 k2 k3 fun h2 m1 m2 m3 m4=>k h2 [T] a0 m1 (hst ▸ m2) m3 (fun b o q d=>by
    obtain ⟨sl,q'⟩:=k4 b o q d;exact ⟨sl,m4 b _ q' d⟩) fun b hb=>by
     rcases hb with rfl | hb
     · exact ⟨f1,f2,oe,vs,q1,q3⟩
     · simp at hb;subst hb;exact ⟨r3,r4,oT,ts,r5,r6⟩
theorem su {prog:rl} {w:C_} {A:D_} {E1:g_→h_→Prop} {K:f_} {mg mg2:Str→Option g_} {C J:k_} {oe:Obj} {y z:Str} {Q:Bool→h_→Prop} (X:K.In s.heap) (hC:OwnCls y C bmV "ValueError.__new__" mg s.heap) (hJ:OwnCls z J bmV "ValueError.__new__" mg2 s.heap)
 (he:s.heap.get? e=a_ oe) (hc:oe.cls=.ref C) (hm:mroIn K C (.ref J)=a_ e_) (h:Q e_ s):uk (z_ prog w) A (excMatches (.ref e) (.ref J)) Q E1 s:=by
 obtain ⟨tl,N,nm,q,bs,hdct,sn,sub,ab,col,dd,k0,k1,k2,k3,k5,mN,hC,hN,hni,T⟩:=hC.obj;obtain ⟨tl',N',nm',q',bs',hdct',sn',sub',ab',col',dd',l0,l1,l2,l3,l5,mN',hJ,hN',hni',T'⟩:=hJ.obj;obtain ⟨hh,g,d,t,os⟩:=s;have hcB:(q_ J :: tl').contains (.type "BaseException")=e_:=by rw [List.contains_cons,T'.hasType Ma.hasBase,Bool.or_true]
 have hcC:(q_ C :: tl).contains (.ref J)=e_:=by
  unfold mroIn at hm;obtain ⟨cd,a,b⟩:=Lz.mp hm;split at b
  · cases b
  · have b':=Jp b;unfold clsIn at a;split at a
    · rename_i look;cases a;have z:=(X _ _ look).symm.trans hC;cases z;exact b'
    · cases a
 have f:=tc_notTuple;unfold excMatches
 repeat (first | (with_reducible refine wpAny_loadPart_at he ?_; rw [hc]) | with_reducible refine wpAny_loadPart_at hJ ?_ | (with_reducible refine wpAny_isSubtype_exc hJ ?_; rw [hcB]) | (with_reducible refine wpAny_isSubtype_exc hC ?_; rw [hcC]) | wp_step)
 exact h
end
section
variable {X:Cx} {ex hx:F_} {f g:FnE} {J n:Str} {CJ:k_} {np rp rp2 hpos pos:Pos}
end
end FD
namespace FD
open PySem PySem.Spec PyProof.Rows L2
section
variable {X:Cx} {apos cpos:Pos} {e o:F_} {es:List F_} {ga:FnA} {fo:FnE}
end
section
variable {X:Cx} {a b c:F_} {fa fb fc:FnE} {pos:Pos}
end
section
variable {X:Cx}
end
end FD
namespace FD
open PySem PySem.Spec PyProof.Rows L2 PySem.W
def xiB (K:f_) (C:k_):Bool:=findIn K (.ref C) "__getattribute__" == a_ (a_ (.builtin "BaseException.__getattribute__")) && findIn K (.ref C) "__getattr__" == a_ ck && findIn K (.ref C) "__class__" == a_ (a_ (.builtin "object.__class__")) &&
 specialIn K (.builtin "object.__class__") "__get__" == a_ (a_ (.builtin "getset_descriptor.__get__")) && takesIn K (.builtin "object.__class__") == a_ e_ && mroIn K C (.type "object") == a_ e_ && mroIn K C (.type "BaseException") == a_ e_
theorem F6 {K:f_} {C:k_} (h:xiB K C=e_):XI K C:=by
 unfold xiB at h;simp only [on,beq_iff_eq] at h;exact ⟨h.1.1.1.1.1.1,h.1.1.1.1.1.2,h.1.1.1.1.2,h.1.1.1.2,h.1.1.2,h.1.2,h.2⟩
structure XAll (K:f_) (m:Nat) (cls:Nat→k_) (CJ:k_):Prop where
 at_:∀ c,c < m→nsIn K y_ (xnm c)=a_ (a_ (.ref (cls c)))∧excIn K (cls c) bmV "ValueError.__new__"=e_∧XI K (cls c)∧mroIn K (cls c) (.ref CJ)=a_ e_∧kitOne K (.ref (cls c)) (.type "ValueError")=a_ e_∧∀ d,d < m→kitOne K (.ref (cls c)) (.ref (cls d))=a_ (c == d)
 exJ:excIn K CJ bmV "ValueError.__new__"=e_
section
variable {K:f_} {m:Nat} {cls:Nat→k_} {CJ:k_} (x:XAll K m cls CJ)
include x
theorem XAll.xc (c:Nat) (h:c < m):XC K c (cls c):=⟨(x.at_ c h).1,(x.at_ c h).2.1⟩
theorem XAll.same {c:Nat} {C:k_} (h:c < m) (q:nsIn K y_ (xnm c)=a_ (a_ (.ref C))):C=cls c:=by
 have z:=(x.at_ c h).1;rw [q] at z;cases z;rfl
theorem XAll.xk:∀ c C,c < m→nsIn K y_ (xnm c)=a_ (a_ (.ref C))→excIn K C bmV "ValueError.__new__"=e_∧mroIn K C (.ref CJ)=a_ e_:=fun c C h q=>by
 rw [x.same h q];exact ⟨(x.at_ c h).2.1,(x.at_ c h).2.2.2.1⟩
end
end FD
namespace FD
open PySem
end FD
namespace FD
open PySem PySem.Spec PyProof.Rows L2
def jO:Str→List Dv→Option (Rs Dv)
 | x,[.str y]=>if x.length≤100000 then a_ (.ok (.str (KR x y))) else ck
 | _,_=>ck
def xu:V→List V→Hp→VK→Prop:=fun x xs H Q=>∃ i j,x=.str i∧xs=[.str j]∧i.length≤sizeLine∧Q (.str (KR i j)) H
section
variable {X:Cx}
theorem vE:MtR X "str.strip" xu:=by
 intro j' s σ H x xs v us Q I rx rs h;obtain ⟨i,j,rfl,rfl,hl,q⟩:=h;obtain ⟨t,rfl⟩:=rx;obtain ⟨u,rfl,ru⟩:=fg rs;obtain ⟨t',rfl⟩:=ru;exact SC.stripChars (fun t2 k=>⟨.str _,H,I.tok k,⟨_,rfl⟩,q⟩) hl
theorem yM (i:Str) (ds:List Dv) (vs:List V) (H:Hp) (Q:VK) (rs:Reps X.K H ds vs) (o:Out X H (jO i ds) Q):xu (.str i) vs H Q:=by
 unfold jO at o;split at o
 · rename_i j;split at o
   · rename_i hl;obtain ⟨w,rfl,rw'⟩:=dz rs;cases (show w=.str j from rw');exact ⟨i,j,rfl,rfl,cr hl,o _ H (.refl H) rfl⟩
   · exact o.elim
 · exact o.elim
end
section
variable {X:Cx}
def bP (x y:Dv):Option (Rs Dv):=match x,y with
 | .tup a,.tup b=>if a.length + b.length≤100000 then a_ (.ok (.tup (a ++ b))) else ck
 | x,y=>cO x y
theorem vF {prog:rl} {w:C_} {A:D_} {E:g_→h_→Prop} {s:h_} {t b:k_} {ws:List g_} {Q:g_→h_→Prop} (ht:Rf s.heap t #[]) (hb:Rf s.heap b ws.toArray) (h0:Q (.ref b) s) :
 uk (z_ prog w) A (Lg .Add (.ref t) (.ref b)) Q E s:=by
 obtain ⟨⟨cls,dd,data,sl⟩,ho,hc,n,hd⟩:=id ht;obtain ⟨⟨cls2,dd2,data2,sl2⟩,ho2,hc2,n2,hd2⟩:=id hb;simp only at hc hd hc2 hd2;subst hc hd hc2 hd2;exact Qa ⟨_,ho,rfl⟩ ⟨_,ho2,rfl⟩ Oc PM MS ME (Mr _ _)
  (tuple_addW0 t b #[] ws.toArray n n2 dd dd2 sl sl2 (by simp)) ⟨ho,ho2,h0⟩
def xx (K:f_):R2:=fun x y H Q=>∃ a b ys,x=.ref a∧y=.ref b∧SqT K H a []∧SqT K H b ys∧Q (.ref b) H
theorem vG:OpR X (Lg .Add) (xx X.K):=by
 intro j' s σ H x y v u Q I rx ry h;obtain ⟨a,b,ys,rfl,rfl,ha,hb,q⟩:=h;cases rx;cases ry;obtain ⟨its,r1,p1,_⟩:=I.tuple ha;obtain ⟨its2,r2,p2,_⟩:=I.tuple hb;cases r1;exact vF p1 p2 ⟨.ref b,H,I,rfl,q⟩
def Ce (X:Cx):R2:=fun x y H Q=>yr x y H Q∨(Bd X.K x y H Q∨xx X.K x y H Q)
theorem Cf:OpR X (Lg .Add) (Ce X):=o_add.or (op_catT.or vG)
theorem sw {x y:Dv} (h:∀ a b,¬ (x=.tup a∧y=.tup b)):bP x y=cO x y:=by
 unfold bP;split
 · rename_i a b;exact absurd ⟨rfl,rfl⟩ (h a b)
 · rfl
theorem Cg:GOp X (Ce X) bP:=by
 intro dx dy x y H Q rx ry o;by_cases hc:∃ a b,dx=.tup a∧dy=.tup b
 · obtain ⟨a,b,rfl,rfl⟩:=hc;have o':Out X H (if a.length + b.length≤100000 then a_ (.ok (.tup (a ++ b))) else ck) Q:=o;split at o'
   · rename_i hl;obtain ⟨p,xs,rfl,h1,q1⟩:=rx.tupE;obtain ⟨p2,ys,rfl,h2,q2⟩:=ry.tupE;cases xs with
     | nil =>
      have ha:a=[]:=by
       have:=q1.length;exact LA.mp this.symm
      subst ha;exact .inr (.inr ⟨p,p2,ys,rfl,rfl,SqT.of h1,SqT.of h2,o' _ H (.refl H) ⟨p2,ys,rfl,h2,by simpa using q2⟩⟩)
     | cons x0 xs =>
      refine .inr (.inl ⟨p,p2,x0 :: xs,ys,rfl,rfl,SqT.of h1,SqT.of h2,by simp,by rw [q1.length,q2.length]; exact cr hl,fun hy=>?_,fun hy l hl=>o' _ _ (aG hl _) ⟨l,_,rfl,ax,Reps.mono (aG hl _) _ _ (q1.append q2)⟩⟩);subst hy;have hb:b=[]:=LA.mp q2.length.symm;subst hb;exact o' _ H (.refl H) ⟨p,_,rfl,h1,by simpa using q1⟩
   · exact o'.elim
 · rw [sw (fun a b h=>hc ⟨a,b,h⟩)] at o;exact .inl (BH dx dy x y H Q rx ry o)
theorem ia {prog:rl} {w:C_} {A:D_} {E:g_→h_→Prop} {s:h_} {t sl:k_} {items:Array g_} {vl vu:g_} {lo hi:Option Int} {Q:g_→h_→Prop} (ht:Rf s.heap t items) (hs:s.heap.IsSliceOf sl vl vu .none) (pl:Oy vl lo) (pu:Oy vu hi)
 (hw:HT.sIx items.size 0 lo=0∧HT.sIx items.size items.size hi=items.size) (h:Q (.ref t) s):uk (z_ prog w) A (Ov (.ref t) (.ref sl)) Q E s:=by
 obtain ⟨os,hos,hcs,hds⟩:=id hs;have hTs:s.TypeIs (.ref sl) "slice":=⟨os,hos,hcs⟩;unfold Ov
 try with_reducible refine JY ?_
 first | refine c_ (j_ ?_) | skip
 refine c_ (wpAny_sequenceKey ht.typeIs (by decide) ?_);refine c_ (Kr (name:=b_ "__getitem__") ht.typeIs JW
  (Lv JW ht.typeIs entry_tuple_getitem ?_ (args_tuple_getitem _ _)))
 show uk _ _ (NQ (.ref t) >>= _) _ _ s;refine c_ (tupleItemsOf_ ht ?_);refine c_ (MI hTs ?_);rw [if_pos (by decide)];refine c_ (HT.sliceApplied_gen hs pl pu ?_);have hyes:(((HT.sIx items.size 0 lo:Nat):Int) == 0 && (1:Int) == 1 && (HT.sIx items.size items.size hi - HT.sIx items.size 0 lo) == items.size)=e_:=by
  rw [hw.1,hw.2];simp
 show uk _ _ (if (((HT.sIx items.size 0 lo:Nat):Int) == 0 && (1:Int) == 1 && (HT.sIx items.size items.size hi - HT.sIx items.size 0 lo) == items.size)=e_ then _ else _) _ _ s;rw [if_pos hyes];refine c_ (c_ (MI ht.typeIs (j_ ?_)));rw [if_pos (by decide)];exact c_ (M4 (j_ ⟨_,rfl,j_ h⟩))
def ID (K:f_):V→Option Int→Option Int→Hp→VK→Prop:=fun x lo hi H Q=>∃ a xs,x=.ref a∧SqT K H a xs ∧
 (HT.sIx xs.length 0 lo=0∧HT.sIx xs.length xs.length hi=xs.length)∧Q (.ref a) H
theorem vH:SlR X (ID X.K):=by
 intro j' s σ H x v vl vu lo hi sl Q I rx hs pl pu h;obtain ⟨a,xs,rfl,hx,hw,q⟩:=h;cases rx;obtain ⟨its,r,ht,hz⟩:=I.tuple hx;have hlen:its.toArray.size=xs.length:=by rw [E_]; exact r.length.symm
 refine ⟨"tuple",_,JW.lookup,ht.typeIs,?_⟩;exact ia ht hs pl pu (by rw [hlen]; exact hw) ⟨.ref a,H,I,rfl,q⟩
def HK (x:Dv) (lo hi:Option Int):Option (Rs Dv):=match x with
 | .tup xs=>a_ (.ok (.tup (xo xs lo hi)))
 | x=>Es x lo hi
def eD (fa:FnE) (fl fh:FnO):FnE:=fun ρ=>bnd (fa ρ) fun x=>bnd (fl ρ) fun lo=>bnd (fh ρ) fun hi=>HK x lo hi
theorem qm {α:Type} {xs:List α} {lo hi:Option Int} (h:HT.sIx xs.length 0 lo=0∧HT.sIx xs.length xs.length hi=xs.length):xo xs lo hi=xs:=by
 unfold xo;rw [h.1,h.2];simp
theorem yN {a:F_} {lo hi:Option F_} {fa:FnE} {fl fh:FnO} {p2 pos:Pos} (ha:FE X a fa) (hl:FO X lo fl) (hh:FO X hi fh):FE X (.Subscript a (.Slice lo hi ck p2) pos) (eD fa fl fh) :=
 df (pc ((sl_str.or rO).or (sl_tup.or vH)) ha.h hl.h hh.h) fun σ H Q ρ E o=>⟨ρ,E,Out.bind o fun d v H1 e1 r1 o1=>⟨ρ,E.mono e1,iz o1 fun l H2 e2 o2=>⟨ρ,(E.mono e1).mono e2,iz o2 fun u H3 e3 o3=>by
  have r3:=Rep.mono e3 d v (Rep.mono e2 d v r1);cases d <;> try exact (show False from o3).elim
  · rename_i z;unfold HK Es at o3;dsimp only at o3;split at o3
    · rename_i hz;exact .inl (.inl ⟨z,r3,cr hz,o3 _ H3 (.refl H3) rfl⟩)
    · exact o3.elim
  · rename_i ds;obtain ⟨a',xs,rfl,h1,h2⟩:=r3.tupE;have hlen:=h2.length;by_cases hw:HT.sIx xs.length 0 l=0∧HT.sIx xs.length xs.length u=xs.length
    · refine .inr (.inr ⟨a',xs,rfl,SqT.of h1,hw,o3 _ H3 (.refl H3) ⟨a',xs,rfl,h1,?_⟩⟩);rw [qm (by rw [← hlen]; exact hw)];exact h2
    · refine .inr (.inl ⟨a',xs,rfl,SqT.of h1,hw,fun p hp=>o3 _ _ (aG hp _) ⟨p,_,rfl,ax,Reps.mono (aG hp _) _ _ ?_⟩⟩);unfold vf xo;rw [h2.length];exact (h2.drop _).take _
  · rename_i ds;obtain ⟨a',xs,rfl,h1,h2⟩:=r3.lstE;refine .inl (.inr ⟨a',xs,rfl,SqL.of h1,fun p hp=>o3 _ _ (aG hp _) ⟨p,_,rfl,ax,Reps.mono (aG hp _) _ _ ?_⟩⟩);unfold vf xo;rw [h2.length];exact (h2.drop _).take _⟩⟩⟩
theorem Reps.reverse {K:f_} {H:Hp}:∀ {ds:List Dv} {vs:List V},Reps K H ds vs→Reps K H ds.reverse vs.reverse
 | [],vs,r=>by cases (show vs=[] from r); exact r
 | d :: ds,vs,r=>by
  obtain ⟨v,us,rfl,r1,r2⟩:∃ v us,vs=v :: us∧Rep K H d v∧Reps K H ds us:=r;rw [Lk,Lk];exact (Reps.reverse r2).append ⟨v,[],rfl,r1,rfl⟩
theorem Vals.reverse:∀ {xs:List V} {us:List g_},Vals xs us→Vals xs.reverse us.reverse
 | _,_,.nil=>.nil
 | x :: xs,u :: us,.cons r t=>by
  rw [Lk,Lk];exact (Vals.reverse t).append (.cons r .nil)
def inP (x:Dv) (ys:List Dv):Option Bool:=if okP x && u_ ((cX x).depth≤63) && KB (toPys ys) then a_ ((toPys ys).any fun y=>JH y (cX x)) else ck
def Ez (x y:Dv):Option Bool:=match Ao x y with
 | some b=>a_ b
 | none=>match y with
  | .lst ys=>inP x ys
  | .tup ys=>inP x ys
  | _=>ck
def inX (x y:Dv):Option (Rs Dv):=match Ez x y with
 | some b=>a_ (.ok (.bl b))
 | none=>ck
def eH (x y:Dv):Option (Rs Dv):=match Ez x y with
 | some b=>a_ (.ok (.bl (!b)))
 | none=>ck
def HL (X:Cx) (neg:Bool):R2:=fun x y H Q=>∃ dx ys b,Rep X.K H dx x∧(Rep X.K H (.lst ys) y∨Rep X.K H (.tup ys) y)∧inP dx ys=a_ b∧Q (.bl (if neg then !b else b)) H
theorem sx (hu:X.A.units + 64 < cLine):OpR X (JL .NotIn) (HL X e_):=by
 intro j' s σ H x y v u Q I rx ry h;obtain ⟨dx,ys,b,qx,qy,hb,q⟩:=h;unfold inP at hb;split at hb
 · rename_i hc;cases hb;obtain ⟨⟨c1,c2⟩,c3⟩:(okP dx=e_∧(cX dx).depth≤63)∧KB (toPys ys)=e_:=by simpa using hc
   obtain ⟨as,ra⟩:=Rep.reads I dx x v qx rx (Ku.mp c1).1;have hd:X.A.units + 1 + min (Mt (toPys ys)) (cX dx).depth < cLine:=by
    have:=QG (Mt (toPys ys)) (cX dx).depth;omega
   rcases qy with qy | qy
   · obtain ⟨bs,rb⟩:=Rep.reads I (.lst ys) y u qy ry (by simpa [cX,JP] using c3);exact SeqAt.notIn_list_reads rb ra c3 (Ku.mp c1).1 hd ⟨.bl _,H,I,rfl,q⟩
   · obtain ⟨bs,rb⟩:=Rep.reads I (.tup ys) y u qy ry (by simpa [cX,JP] using c3);exact SeqAt.notIn_tuple_reads rb ra c3 (Ku.mp c1).1 hd ⟨.bl _,H,I,rfl,q⟩
 · cases hb
def sy (X:Cx):R2:=fun x y H Q=>nI X.K x y H Q∨HL X e_ x y H Q
theorem vI (hu:X.A.units + 64 < cLine):OpR X (JL .NotIn) (sy X):=o_notIn.or (sx hu)
theorem vJ:GOp X (sy X) eH:=by
 intro dx dy x y H Q rx ry o;unfold eH Ez at o
 match h0:Ao dx dy with
 | some b =>
  rw [h0] at o;exact .inl (sf dx dy x y H Q rx ry (by unfold lZ; rw [h0]; exact o))
 | none =>
  rw [h0] at o;cases dy <;> try exact (show False from o).elim
  · rename_i ys
    match hp:inP dx ys with
    | none=>simp only [hp] at o; exact (show False from o).elim
    | some b=>simp only [hp] at o; exact .inr ⟨dx,ys,b,rx,.inr ry,hp,o _ H (.refl H) rfl⟩
  · rename_i ys
    match hp:inP dx ys with
    | none=>simp only [hp] at o; exact (show False from o).elim
    | some b=>simp only [hp] at o; exact .inr ⟨dx,ys,b,rx,.inl ry,hp,o _ H (.refl H) rfl⟩
def Ch:Str→List Dv→Option (Rs Dv)
 | x,[.str y]=>match Jx x y 0 x.length 1 with
  | i :: _=>a_ (.ok (.int i))
  | []=>ck
 | _,_=>ck
def HM:V→List V→Hp→VK→Prop:=fun x xs H Q=>∃ i j k l,x=.str i∧xs=[.str j]∧Jx i j 0 i.length 1=k :: l∧Q (.int (k:Nat)) H
theorem Ci:MtR X "str.index" HM:=by
 intro j' s σ H x xs v us Q I rx rs h;obtain ⟨i,j,k,l,rfl,rfl,ho,q⟩:=h;obtain ⟨t,rfl⟩:=rx;obtain ⟨u,rfl,ru⟩:=fg rs;obtain ⟨t',rfl⟩:=ru;exact SC.index ho ⟨.int _,H,I.tok _,⟨_,rfl⟩,q⟩
theorem F7 (i:Str) (ds:List Dv) (vs:List V) (H:Hp) (Q:VK) (rs:Reps X.K H ds vs) (o:Out X H (Ch i ds) Q):HM (.str i) vs H Q:=by
 unfold Ch at o;split at o
 · rename_i j;obtain ⟨w,rfl,rw'⟩:=dz rs;cases (show w=.str j from rw')
   match hk:Jx i j 0 i.length 1 with
   | []=>rw [hk] at o; exact o.elim
   | k :: l=>rw [hk] at o; exact ⟨i,j,k,l,rfl,rfl,hk,o _ H (.refl H) rfl⟩
 · exact o.elim
end
abbrev yO (its:List g_) (n:Nat):Obj:={ cls:=.type "list",data:=.seq its.toArray n }
section
variable {X:Cx} {j':List (k_×Obj)} {σ:L2.St} {H:Hp} {s:h_} {a:k_} {xs:List V}
theorem Inv.untrack (I:Inv X j' σ (upd H a (.lst xs)) s) (ha:H a=ck) (hex:X.ex=[]):∃ its n,Vals xs its∧xs.length≤sizeLine∧(∀ o,X.s₀.heap.get? a=a_ o→X.H₀ a≠ck)∧(∀ p∈X.pn ++ j',p.1≠a)∧Inv X (j' ++ [(a,yO its n)]) σ H s:=by
 obtain ⟨z,its,n,rv,hl,e⟩:=I.lstM (l:=a) (xs:=xs) ax;have hb:∀ b u,H b=a_ u→b≠a:=fun b u q=>aq q ha;have low:∀ b,upd H a (.lst xs) b=ck→H b=ck:=fun b q=>by
  by_cases hba:b=a
  · rw [hba]; exact ha
  · rw [av hba] at q; exact q
 have dn:∀ b u,upd H a (.lst xs) b=a_ u→(∀ ys,u≠.lst ys)→H b=a_ u:=fun b u q hu=>by
  by_cases hba:b=a
  · rw [hba,ax] at q;exact absurd (Jp q).symm (hu xs)
  · rw [av hba] at q; exact q
 have nfs:a ∉ X.fs:=fun hm=>by
  obtain ⟨_,o,ho,_⟩:=I.ok.funs.mem hm;have:=I.base.free a o ho (I.ok.frf a hm) (by rw [hex]; simp);rw [ax] at this;cases this
 have npin:∀ p∈X.pn ++ j',p.1≠a:=fun p hp w=>by
  have:=(I.pin p hp).2.1;rw [w,ax] at this;cases this
 refine ⟨its,n,rv,z,fun o ho h0=>?_,npin,⟨I.ok,I.os,I.bare,⟨I.base.keep,I.base.slot,fun b o q n hx=>low b (I.base.free b o q n hx),I.base.there,fun b ys q=>dn b _ (I.base.tups b ys q) (fun _ w=>by cases w),fun b o u q=>dn b _ (I.base.frzs b o u q) (fun _ w=>by cases w),fun b ps q=>?_⟩,I.loc,I.cell,low _ I.free,fun x c q=>low _ (I.freeC x c q),fun p hp=>?_,fun b u q=>?_,I.len⟩⟩
 · have:=I.base.free a o ho h0 (by rw [hex]; simp);rw [ax] at this;cases this
 · obtain ⟨more,q'⟩:=I.base.tbls b ps q;exact ⟨more,dn b _ q' (fun _ w=>by cases w)⟩
 · rcases Jn.mp hp with h1 | h1
   · obtain ⟨q1,q2,q3⟩:=I.pin p (A_ _ h1);exact ⟨q1,low _ q2,q3⟩
   · rcases Jn.mp h1 with h1 | h1
     · obtain ⟨q1,q2,q3⟩:=I.pin p (m_ _ h1);exact ⟨q1,low _ q2,q3⟩
     · simp only [Jk] at h1;subst h1;refine ⟨e,ha,fun w=>?_,nfs,fun v w=>by cases w⟩;obtain ⟨m,⟨o,es,ep,ho,hd,_⟩,_⟩:=I.loc;have w':a=X.env.locals:=w;rw [← w',e] at ho;cases ho;cases hd
 · have hq:upd H a (.lst xs) b=a_ u:=by rw [av (hb b u q)]; exact q
   refine (I.hok b u hq).stay (fun _ _ _ w=>w) (fun c w=>dn c _ w (fun _ w=>by cases w)) (fun c ys w=>dn c _ w (fun _ w=>by cases w)) fun c _ _ w=>dn c _ w (fun _ w=>by cases w)
theorem Inv.retrack {its:List g_} {n:Nat} (I:Inv X (j' ++ [(a,yO its n)]) σ H s) (rv:Vals xs its) (hz:xs.length≤sizeLine) (h0:∀ o,X.s₀.heap.get? a=a_ o→X.H₀ a≠ck) (hp0:∀ p∈X.pn ++ j',p.1≠a):H a=ck∧Inv X j' σ (upd H a (.lst xs)) s:=by
 obtain ⟨e,ha,nL,nf,nc⟩:=I.pin (a,yO its n) (m_ _ (m_ _ (by simp)));have up:∀ b u,H b=a_ u→upd H a (.lst xs) b=a_ u:=fun b u q=>by rw [av (aq q ha)]; exact q
 have lo:∀ b,H b=ck→b≠a→upd H a (.lst xs) b=ck:=fun b q h=>by rw [av h]; exact q
 refine ⟨ha,⟨I.ok,I.os,I.bare,⟨I.base.keep,I.base.slot,fun b o q n hx=>lo b (I.base.free b o q n hx) (fun w=>h0 o (w ▸ q) (w ▸ n)),I.base.there,fun b ys q=>up b _ (I.base.tups b ys q),fun b o u q=>up b _ (I.base.frzs b o u q),fun b ps q=>?_⟩,I.loc,I.cell,lo _ I.free (MU nL),fun x c q=>lo _ (I.freeC x c q) (fun w=>?_),fun p hp=>?_,fun b u q=>?_,I.len⟩⟩
 · obtain ⟨more,q'⟩:=I.base.tbls b ps q;exact ⟨more,up b _ q'⟩
 · obtain ⟨v,o,ho,hd⟩:=I.cell x c q;rw [w] at ho;have e':s.heap.get? a=a_ (yO its n):=e;rw [e'] at ho;cases ho;cases hd
 · obtain ⟨q1,q2,q3⟩:=I.pin p (by
    rcases Jn.mp hp with h1 | h1
    · exact A_ _ h1
    · exact m_ _ (A_ _ h1))
   exact ⟨q1,lo _ q2 (hp0 p hp),q3⟩
 · by_cases hb:b=a
   · subst hb;rw [ax] at q;cases q;exact ⟨hz,its,n,rv,e⟩
   · rw [av hb] at q;exact (I.hok b u q).stay (fun _ _ _ w=>w) (fun c w=>up c _ w) (fun c ys w=>up c _ w) fun c _ _ w=>up c _ w
end
def F8 (t:TE):TE:=fun σ Hf Q=>∃ H a xs,Hf=upd H a (.lst xs)∧H a=ck∧t σ H fun v H'=>H' a=ck→Q v (upd H' a (.lst xs))
def F9 (t:TT):TT:=fun σ Hf Q=>∃ H a xs,Hf=upd H a (.lst xs)∧H a=ck∧t σ H fun v H'=>H' a=ck→Q v (upd H' a (.lst xs))
def Ga (t:TA):TA:=fun σ Hf Q=>∃ H a xs,Hf=upd H a (.lst xs)∧H a=ck∧t σ H fun v H'=>H' a=ck→Q v (upd H' a (.lst xs))
def Gb (t:TI):TI:=fun σ Hf Q=>∃ H a xs,Hf=upd H a (.lst xs)∧H a=ck∧t σ H fun v H'=>H' a=ck→Q v (upd H' a (.lst xs))
section
variable {X:Cx} {e:F_} {es:List F_}
theorem nN (hex:X.ex=[]) {t:TE} (h:PE X e t):PE X e (F8 t):=by
 intro j' s σ Hf Q I ⟨H,a,xs,e1,ha,q⟩;subst e1;obtain ⟨its,n,rv,hz,h0,hp,I'⟩:=Inv.untrack I ha hex;refine thn (h _ s σ H _ I' q) fun u s' ⟨v,H',I2,r,q2⟩=>?_;obtain ⟨ha',I3⟩:=Inv.retrack I2 rv hz h0 hp;exact ⟨v,_,I3,r,q2 ha'⟩
theorem yP (hex:X.ex=[]) {t:TT} (h:PT X e t):PT X e (F9 t):=by
 intro j' s σ Hf Q I ⟨H,a,xs,e1,ha,q⟩;subst e1;obtain ⟨its,n,rv,hz,h0,hp,I'⟩:=Inv.untrack I ha hex;refine thn (h _ s σ H _ I' q) fun u s' ⟨H',I2,q2⟩=>?_;obtain ⟨ha',I3⟩:=Inv.retrack I2 rv hz h0 hp;exact ⟨_,I3,q2 ha'⟩
theorem yQ (hex:X.ex=[]) {t:TA} (h:PA X es t):PA X es (Ga t):=by
 intro pos j' s σ Hf Q I ⟨H,a,xs,e1,ha,q⟩;subst e1;obtain ⟨its,n,rv,hz,h0,hp,I'⟩:=Inv.untrack I ha hex;refine thn (h pos _ s σ H _ I' q) fun u s' ⟨v,H',I2,r,q2⟩=>?_;obtain ⟨ha',I3⟩:=Inv.retrack I2 rv hz h0 hp;exact ⟨v,_,I3,r,q2 ha'⟩
theorem yR (hex:X.ex=[]) {tg:F_} {t:TI} (h:PI X tg e t):PI X tg e (Gb t):=by
 intro j' s σ Hf R I ⟨H,a,xs,e1,ha,q⟩;subst e1;obtain ⟨its,n,rv,hz,h0,hp,I'⟩:=Inv.untrack I ha hex;refine thn (h _ s σ H _ I' q) fun u s1 hs1=>thn hs1 fun itv s2 ⟨it,fp,tn,J,H',e2,I2,T,t0,fpo,q2⟩=>?_;obtain ⟨ha',I3⟩:=Inv.retrack I2 rv hz h0 hp;refine ⟨it,fp,tn,J,_,e2,I3,T,t0,fun b hb=>?_,q2 ha'⟩;obtain ⟨g0,g1,g2,g3,g4,g5⟩:=fpo b hb;have hba:b≠a:=fun w=>g5 (a,yO its n) (m_ _ (m_ _ (by simp))) w.symm;refine ⟨by rw [av hba]; exact g0,g1,g2,g3,g4,fun p hp'=>g5 p ?_⟩;rcases Jn.mp hp' with w | w
 · exact A_ _ w
 · exact m_ _ (A_ _ w)
end
mutual
def imm:Dv→Bool
 | .non=>e_
 | .bl _=>e_
 | .int _=>e_
 | .str _=>e_
 | .tup ds=>imms ds
 | .lst _=>d_
 | .scr _=>d_
 | .exn _=>d_
def imms:List Dv→Bool
 | []=>e_
 | d :: ds=>imm d && imms ds
end
section
variable {K:f_} {H H':Hp}
mutual
theorem Rep.tups (k:∀ b ys,H b=a_ (.tup ys)→H' b=a_ (.tup ys)):∀ (d:Dv) (v:V),imm d=e_→Rep K H d v→Rep K H' d v
 | .non,_,_,h=>h
 | .bl _,_,_,h=>h
 | .int _,_,_,h=>h
 | .str _,_,_,h=>h
 | .tup ds,v,i,h=>by
  obtain ⟨a,xs,r,h,q⟩:=h.tupE;exact ⟨a,xs,r,k _ _ h,Reps.tups k ds xs (by simpa [imm] using i) q⟩
 | .lst _,_,i,_=>by simp [imm] at i
 | .scr _,_,i,_=>by simp [imm] at i
 | .exn _,_,i,_=>by simp [imm] at i
theorem Reps.tups (k:∀ b ys,H b=a_ (.tup ys)→H' b=a_ (.tup ys)):∀ (ds:List Dv) (vs:List V),imms ds=e_→Reps K H ds vs→Reps K H' ds vs
 | [],_,_,h=>h
 | d :: ds,vs,i,h=>by
  obtain ⟨v,us,r,h,q⟩:∃ v us,vs=v :: us∧Rep K H d v∧Reps K H ds us:=h;have i':imm d=e_∧imms ds=e_:=by simpa [imms] using i
  exact ⟨v,us,r,Rep.tups k d v i'.1 h,Reps.tups k ds us i'.2 q⟩
end
end
inductive Fo where
 | nx (ρ:Ev) (ds:List Dv)
 | rt (d:Dv)
abbrev ji:=Ev→List Dv→Option Fo
def OutW (X:Cx) (i:Nat) (a:k_) (H:Hp) (o:Option Fo) (D:qR):Prop:=match o with
 | none=>False
 | some (.rt d)=>∀ v H',Same H H'→Rep X.K H' d v→D.rt v H'
 | some (.nx ρ ds)=>∀ σ H' xs,Same H H'→H' a=ck→σ[i]?=a_ (a_ (.ref a))→Envs X.K H' σ ρ→Reps X.K H' ds xs→D.nx σ (upd H' a (.lst xs))
theorem OutW.mono {X:Cx} {i:Nat} {a:k_} {H H':Hp} {D:qR} (e:Same H H'):∀ {o:Option Fo},OutW X i a H o D→OutW X i a H' o D
 | none,h=>h
 | some (.rt _),h=>fun v H1 e1 r=>h v H1 (e.trans e1) r
 | some (.nx _ _),h=>fun σ H1 xs e1=>h σ H1 xs (e.trans e1)
def tO (X:Cx) (i:Nat) (f:ji):TS:=fun D σ Hf=>∃ H a xs ρ ds,Hf=upd H a (.lst xs)∧H a=ck∧σ[i]?=a_ (a_ (.ref a))∧Envs X.K H σ ρ∧Reps X.K H ds xs∧OutW X i a H (f ρ ds) D
structure FO1 (X:Cx) (i:Nat) (st:Ky) (f:ji):Prop where
 h:PS X st (tO X i f)
structure FOs (X:Cx) (i:Nat) (st:List Ky) (f:ji):Prop where
 h:PSs X st (tO X i f)
def qo {α:Type} (o:Option (Rs α)) (k:α→Option Fo):Option Fo:=match o with
 | some (.ok a)=>k a
 | _=>ck
def Aq:ji:=fun ρ ds=>a_ (.nx ρ ds)
def dI (f g:ji):ji:=fun ρ ds=>match f ρ ds with
 | some (.nx ρ' ds')=>g ρ' ds'
 | o=>o
def eK (j:Nat) (f:FnE):ji:=fun ρ ds=>qo (f ρ) fun d=>a_ (.nx (ρ.set j (a_ d)) ds)
def oIf (c:FnB) (f g:ji):ji:=fun ρ ds=>qo (c ρ) fun k=>if k then f ρ ds else g ρ ds
def yS (i:Nat) (c:FnB) (f g:ji):ji:=fun ρ ds=>qo (c (ρ.set i (a_ (.lst ds)))) fun k=>if k then f ρ ds else g ρ ds
def sE (i:Nat) (f:FnE):ji:=fun ρ ds=>qo (f (ρ.set i (a_ (.lst ds)))) fun d=>a_ (.rt d)
def vK (f:FnE):ji:=fun ρ ds=>if ds.length < 100000 then qo (f ρ) fun d=>a_ (.nx ρ (ds ++ [d])) else ck
section
variable {X:Cx} {i:Nat} {st:Ky} {sts:List Ky} {f g:ji} {fe:FnE} {gb:FnB} {e c:F_} {pos:Pos}
theorem sI {H Hf:Hp} {a:k_} {xs:List V} (ha:H a=ck) (e:Same (upd H a (.lst xs)) Hf):∃ H',Hf=upd H' a (.lst xs)∧H' a=ck∧Same H H':=by
 refine ⟨fun b=>if b=a then ck else Hf b,?_,by simp,fun b u q=>?_⟩
 · funext b;by_cases hb:b=a
   · subst hb;rw [ax];exact e b _ ax
   · rw [av hb];simp [hb]
 · have hb:b≠a:=aq q ha;simp only [hb,if_false];exact e b u (by rw [av hb]; exact q)
theorem gk {H:Hp} {a:k_} {xs:List V} (ha:H a=ck):Same H (upd H a (.lst xs)):=aG ha _
theorem jP {H:Hp} {a:k_} {xs:List V} {σ:L2.St} {ρ:Ev} {ds:List Dv} (ha:H a=ck) (hi:σ[i]?=a_ (a_ (.ref a))) (E:Envs X.K H σ ρ) (r:Reps X.K H ds xs):Envs X.K (upd H a (.lst xs)) σ (ρ.set i (a_ (.lst ds))):=by
 have E':=E.mono (gk (xs:=xs) ha);refine ⟨by rw [Kq]; exact E'.len,fun j d hj=>?_⟩;by_cases hij:i=j
 · subst hij;by_cases hl:i < ρ.length
   · rw [J_ hl] at hj;cases hj;exact ⟨.ref a,hi,a,xs,rfl,ax,Reps.mono (gk ha) _ _ r⟩
   · rw [L0 (by rw [Kq]; omega)] at hj;cases hj
 · rw [J0 hij] at hj;exact E'.at' j d hj
theorem yT:FOs X i [] Aq:=⟨fun j' s σ Hf D I ⟨H,a,xs,ρ,ds,e1,ha,hi,E,r,o⟩=>by
 subst e1;exact rf j' s σ _ D I (o σ H xs (.refl H) ha hi E r)⟩
theorem vL (h1:FO1 X i st f) (h2:FOs X i sts g):FOs X i (st :: sts) (dI f g):=⟨fun j' s σ Hf D I ⟨H,a,xs,ρ,ds,e1,ha,hi,E,r,o⟩=>by
 refine kQ h1.h h2.h j' s σ Hf D I ⟨H,a,xs,ρ,ds,e1,ha,hi,E,r,?_⟩;unfold dI at o
 match hf:f ρ ds with
 | none=>rw [hf] at o; exact o.elim
 | some (.rt d)=>rw [hf] at o; exact o
 | some (.nx ρ' ds')=>rw [hf] at o; exact fun σ' H' xs' e' ha' hi' E' r'=>⟨H',a,xs',ρ',ds',rfl,ha',hi',E',r',OutW.mono e' o⟩⟩
theorem yU (h1:FO1 X i st f):FOs X i [st] f:=⟨rg h1.h⟩
theorem Cj (hex:X.ex=[]) (j:Nat) (hij:i≠j) {x:Str} {pos':Pos} (hN:X.N.Nodup) (hi:X.N[j]?=a_ x) (hx:Loc X.env.scope x) (he:FE X e fe) (hs:KW e (a_ (.Name x pos')) pos.line X.env=pure d_:=by kernel_rfl) (hf:X.fn x=e_∨X.env.scope.names.lookup x=a_ .local:=by first | exact .inl rfl | exact .inr rfl | assumption) :
 FO1 X i (.Assign [.Name x pos'] e pos) (eK j fe):=⟨fun j' s σ Hf D I ⟨H,a,xs,ρ,ds,e1,ha,hia,E,r,o⟩=>by
 refine rm hN hi hx (nN hex he.h) hs hf j' s σ Hf D I ⟨H,a,xs,e1,ha,ρ,E,?_⟩;unfold eK at o
 match hfe:fe ρ with
 | none=>rw [hfe] at o; exact o.elim
 | some (.exc _)=>rw [hfe] at o; exact o.elim
 | some (.ok d) =>
  rw [hfe] at o;exact fun v H' e' rd ha'=>o _ H' xs e' ha' (by rw [J0 (MU hij)]; exact hia) ((E.mono e').set rd) (Reps.mono e' _ _ r)⟩
theorem Gc (hex:X.ex=[]) {as bs:List Ky} (hc:FT X c gb) (ha:FOs X i as f) (hb:FOs X i bs g):FO1 X i (.If c as bs pos) (oIf gb f g):=⟨fun j' s σ Hf D I ⟨H,a,xs,ρ,ds,e1,ha',hia,E,r,o⟩=>by
 refine xY (yP hex hc.h) ha.h hb.h j' s σ Hf D I ⟨H,a,xs,e1,ha',ρ,E,?_⟩;unfold oIf at o
 match hg:gb ρ with
 | none=>rw [hg] at o; exact o.elim
 | some (.exc _)=>rw [hg] at o; exact o.elim
 | some (.ok e_)=>rw [hg] at o; exact fun H' e' h'=>wZ ⟨H',a,xs,ρ,ds,rfl,h',hia,E.mono e',Reps.mono e' _ _ r,OutW.mono e' o⟩
 | some (.ok d_)=>rw [hg] at o; exact fun H' e' h'=>wY ⟨H',a,xs,ρ,ds,rfl,h',hia,E.mono e',Reps.mono e' _ _ r,OutW.mono e' o⟩⟩
theorem Ck {as bs:List Ky} (hc:FT X c gb) (ha:FOs X i as f) (hb:FOs X i bs g):FO1 X i (.If c as bs pos) (yS i gb f g):=⟨fun j' s σ Hf D I ⟨H,a,xs,ρ,ds,e1,ha',hia,E,r,o⟩=>by
 subst e1;refine xY hc.h ha.h hb.h j' s σ _ D I ⟨_,jP ha' hia E r,?_⟩;unfold yS at o
 match hg:gb (ρ.set i (a_ (.lst ds))) with
 | none=>rw [hg] at o; exact o.elim
 | some (.exc _)=>rw [hg] at o; exact o.elim
 | some (.ok e_) =>
  rw [hg] at o;intro H2 e2;obtain ⟨H',q1,q2,q3⟩:=sI ha' e2;exact wZ ⟨H',a,xs,ρ,ds,q1,q2,hia,E.mono q3,Reps.mono q3 _ _ r,OutW.mono q3 o⟩
 | some (.ok d_) =>
  rw [hg] at o;intro H2 e2;obtain ⟨H',q1,q2,q3⟩:=sI ha' e2;exact wY ⟨H',a,xs,ρ,ds,q1,q2,hia,E.mono q3,Reps.mono q3 _ _ r,OutW.mono q3 o⟩⟩
theorem Co (he:FE X e fe):FO1 X i (.Return (a_ e) pos) (sE i fe):=⟨fun j' s σ Hf D I ⟨H,a,xs,ρ,ds,e1,ha',hia,E,r,o⟩=>by
 subst e1;refine wS he.h j' s σ _ D I ⟨_,jP ha' hia E r,?_⟩;unfold sE at o
 match hg:fe (ρ.set i (a_ (.lst ds))) with
 | none=>rw [hg] at o; exact o.elim
 | some (.exc _)=>rw [hg] at o; exact o.elim
 | some (.ok d)=>rw [hg] at o; exact fun v H2 e2 rd=>o v H2 ((gk ha').trans e2) rd⟩
theorem Cp (hex:X.ex=[]) {x:Str} {apos cpos:Pos} (hx:PE X (.Name x apos) (Am i)) (he:FE X e fe)
 (hbase:Mq (.Name x apos) "append" X.env (eval (.Name x apos) X.env)=eval (.Name x apos) X.env:=by kernel_rfl)
 (hfew:((JV cpos (l_ [e] X.env)).all (fun x=>!x.1) && (L8 cpos (KQ [] X.env)).all (fun x=>x.1.isSome)
   && u_ ([e].length + ([]:List L5).length + (if ([]:List L5).isEmpty then 0 else 1) < 30))=e_:=by kernel_rfl)
 {ap:Pos} (hline:(ap.endLine == cpos.line)=e_:=by kernel_rfl) (hs:l_ [e] X.env=(d_,eval e X.env) :: l_ [] X.env:=by kernel_rfl) (hplain:(JV cpos (l_ [] X.env)).any (·.1)=d_:=by kernel_rfl)
 (hsw:KW (.Call (.Attribute (.Name x apos) "append" ap) [e] [] cpos) ck pos.line X.env=pure d_:=by kernel_rfl) :
 FO1 X i (.Expr (.Call (.Attribute (.Name x apos) "append" ap) [e] [] cpos) pos) (vK fe):=⟨fun j' s σ Hf D I ⟨H,a,xs,ρ,ds,e1,ha',hia,E,r,o⟩=>by
 refine rh (yg Oi Ng PySem.F.type_list_append rR hx (yQ hex (nF he rV hs).h) hbase hfew hline hs hplain) hsw j' s σ Hf D I ?_;unfold vK at o;split at o
 · rename_i hl
   match hfe:fe ρ with
   | none=>rw [hfe] at o; exact o.elim
   | some (.exc _)=>rw [hfe] at o; exact o.elim
   | some (.ok d) =>
    rw [hfe] at o;refine ⟨.ref a,hia,.inl ⟨rfl,xs,SqL.of (by rw [e1]; exact ax)⟩,H,a,xs,e1,ha',ρ,E,?_⟩;show OutA X H (aa fe ah ρ) _;rw [ai hfe aM];intro vs H' e' rs ha2;obtain ⟨v,rfl,rv⟩:=dz rs;have hz:xs.length < sizeLine:=by
     have:=r.length;have h2:=cr (n:=xs.length + 1) (by omega);omega
    refine ⟨a,xs,v,rfl,rfl,ax,hz,?_⟩;rw [qX];exact o σ H' (xs ++ [v]) e' ha2 hia (E.mono e') ((Reps.mono e' _ _ r).append ⟨v,[],rfl,rv,rfl⟩)
 · exact o.elim⟩
end
def sJ (i:Nat) (g:FnA) (f:ji):FnS:=fun ρ=>bN (g ρ) fun ds=>if ds.length≤100000 then (match f (ρ.set i ck) ds with
 | some (.nx ρ' ds')=>a_ (.nx (ρ'.set i (a_ (.lst ds'))))
 | some (.rt d)=>a_ (.rt d)
 | none=>ck) else ck
section
variable {X:Cx} {i:Nat} {sts:List Ky} {f:ji} {g:FnA} {es:List F_} {pos lp:Pos}
theorem yV {x:Str} {pos':Pos} (hN:X.N.Nodup) (hi:X.N[i]?=a_ x) (hx:Loc X.env.scope x) (hg:FA X es g) (hr:FOs X i sts f) (hs:KW (.List es lp) (a_ (.Name x pos')) pos.line X.env=pure d_:=by kernel_rfl)
 (hf:X.fn x=e_∨X.env.scope.names.lookup x=a_ .local:=by first | exact .inl rfl | exact .inr rfl | assumption):FSs X (.Assign [.Name x pos'] (.List es lp) pos :: sts) (sJ i g f):=⟨fun j' s σ H D I ⟨ρ,E,o⟩=>by
 refine kQ (rm (i:=i) hN hi hx (wX hg.h) hs hf) hr.h j' s σ H D I ⟨ρ,E,?_⟩;unfold sJ at o
 match hgr:g ρ with
 | none=>rw [hgr] at o; exact o.elim
 | some (.exc _)=>rw [hgr] at o; exact o
 | some (.ok ds) =>
  rw [hgr] at o;intro vs H1 e1 rs;have o2:OutS X H (if ds.length≤100000 then (match f (ρ.set i ck) ds with
   | some (.nx ρ' ds')=>a_ (.nx (ρ'.set i (a_ (.lst ds'))))
   | some (.rt d)=>a_ (.rt d)
   | none=>ck) else ck) D:=o
  by_cases hl:ds.length≤100000
  · rw [if_pos hl] at o2;refine ⟨by rw [rs.length]; exact cr hl,fun p hp=>?_⟩;have hil:i < σ.length:=by rw [I.len]; exact (Jm.mp hi).1
    refine ⟨H1,p,vs,ρ.set i ck,ds,rfl,hp,J_ hil,?_,rs,?_⟩
    · have E1:=(E.mono e1).fgt1 i;refine ⟨by rw [Kq]; exact E1.len,fun j d hj=>?_⟩;by_cases hij:i=j
      · subst hij;by_cases hl2:i < ρ.length
        · rw [J_ hl2] at hj; cases hj
        · rw [L0 (by rw [Kq]; omega)] at hj; cases hj
      · obtain ⟨v,q1,q2⟩:=E1.at' j d hj;exact ⟨v,by rw [J0 hij]; exact q1,q2⟩
    · match hfr:f (ρ.set i ck) ds with
      | none=>rw [hfr] at o2; exact o2.elim
      | some (.rt d)=>rw [hfr] at o2; exact fun v H' e' r'=>o2 v H' (e1.trans e') r'
      | some (.nx ρ' ds') =>
       rw [hfr] at o2;exact fun σ' H' xs' e' ha' hi' E' r'=>o2 σ' _ ((e1.trans e').trans (gk ha')) (jP ha' hi' E' r')
  · rw [if_neg hl] at o2;exact o2.elim⟩
end
def kf (j:Nat) (js:List Nat) (body:ji):List Dv→Ev→List Dv→Option Fo
 | [],ρ,xs=>a_ (.nx (fgt js ρ) xs)
 | d :: ds,ρ,xs=>match body ((fgt js ρ).set j (a_ d)) xs with
  | some (.nx ρ' xs')=>kf j js body ds ρ' xs'
  | o=>o
def sK (j:Nat) (js:List Nat) (src:FnA) (body:ji):ji:=fun ρ xs=>qo (src ρ) fun ds=>if imms ds=e_ then kf j js body ds ρ xs else ck
theorem lc:∀ {ds:List Dv} {n:Nat} {d:Dv},imms ds=e_→ds[n]?=a_ d→imm d=e_
 | [],_,_,_,h=>by simp at h
 | e :: ds,0,d,i,h=>by
  have i':imm e=e_∧imms ds=e_:=by simpa [imms] using i
  cases (show a_ e=a_ d from h);exact i'.1
 | e :: ds,n + 1,d,i,h=>by
  have i':imm e=e_∧imms ds=e_:=by simpa [imms] using i
  exact lc i'.2 (show ds[n]?=a_ d from h)
theorem vM {K:f_} {H:Hp} {a:k_} {xs:List V} {d:Dv} {v:V} (i:imm d=e_) (r:Rep K (upd H a (.lst xs)) d v):Rep K H d v :=
 Rep.tups (fun b ys q=>by
  by_cases hb:b=a
  · rw [hb,ax] at q; cases q
  · rw [av hb] at q; exact q) d v i r
theorem Cq {X:Cx} {i:Nat} {tg iter:F_} {body:List Ky} {pos:Pos} {src:FnA} {fb:ji} (hex:X.ex=[]) (j:Nat) (js:List Nat) (hij:i≠j) (hp:ND (z_ X.prog X.w) X.A X.env X.xe) (hc:X.calm=e_) (hi:FI X tg iter src) (hg:PG X tg (u5 j)) (hb:FOs X i body fb)
 (hs:∀ x,JF iter X.env x=pure x:=by intro _; kernel_rfl):FO1 X i (.For tg iter body [] pos) (sK j js src fb):=⟨fun j' s σ Hf D I ⟨H,a,xs,ρ,ds,e1,ha,hia,E,r,o⟩=>by
 refine rB hp hc (yR hex hi.h) hg hb.h hs j' s σ Hf D I ⟨H,a,xs,e1,ha,ρ,E,?_⟩;unfold sK at o
 match hf:src ρ with
 | none=>rw [hf] at o; exact o.elim
 | some (.exc _)=>rw [hf] at o; exact o.elim
 | some (.ok us) =>
  rw [hf] at o;have o0:OutW X i a H (if imms us=e_ then kf j js fb us ρ ds else ck) D:=o;by_cases him:imms us=e_
  · rw [if_pos him] at o0;intro J H1 e1 wk ha1;have o1:=OutW.mono e1 o0;refine ⟨fun n m σ' Hf'=>m=us.length - n∧n≤us.length∧∃ H' xs' ρ' ds',Hf'=upd H' a (.lst xs')∧H' a=ck∧Same H1 H'∧σ'[i]?=a_ (a_ (.ref a))∧Envs X.K H' σ' ρ'∧Reps X.K H' ds' xs'∧OutW X i a H' (kf j js fb (us.drop n) ρ' ds') D,
     ⟨us.length,by simp,JA _,H1,xs,ρ,ds,rfl,ha1,.refl H1,hia,E.mono e1,Reps.mono e1 _ _ r,by simpa using o1⟩,?_⟩
    rintro n m σ' Hf' ⟨rfl,hn,H',xs',ρ',ds',rfl,ha',e2,hia',E',r',o'⟩;have e2f:Same H1 (upd H' a (.lst xs')):=e2.trans (gk ha');by_cases hlt:n < us.length
    · refine .inr ⟨wk.go n _ e2f hlt,fun σ2 Hf2=>∃ H2 xs2 ρ2 ds2,Hf2=upd H2 a (.lst xs2)∧H2 a=ck∧Same H1 H2∧σ2[i]?=a_ (a_ (.ref a))∧Envs X.K H2 σ2 ρ2∧Reps X.K H2 ds2 xs2∧OutW X i a H2 (kf j js fb (us.drop (n + 1)) ρ2 ds2) D,
       fun σ2 Hf2 q=>⟨us.length - (n + 1),by omega,rfl,hlt,q⟩,fun x H2 y=>?_⟩
      obtain ⟨rfl,d,hd,rd⟩:=wk.yld n _ x H2 e2f hlt y;have rd':=vM (lc him hd) rd;rw [iw hd] at o';show tO X i fb _ _ _;refine ⟨H',a,xs',(fgt js ρ').set j (a_ d),ds',rfl,ha',by rw [J0 (MU hij)]; exact hia',(Envs.fgt js E').set rd',r',?_⟩;unfold kf at o'
      match hb':fb ((fgt js ρ').set j (a_ d)) ds' with
      | none=>rw [hb'] at o'; exact o'
      | some (.rt r)=>rw [hb'] at o'; exact o'
      | some (.nx ρ2 ds2)=>rw [hb'] at o'; exact fun σ2 H3 xs3 e3 h3 hi3 E3 r3=>⟨H3,xs3,ρ2,ds2,rfl,h3,e2.trans e3,hi3,E3,r3,OutW.mono e3 o'⟩
    · have hn':n=us.length:=by omega
      subst hn';rw [Na] at o';exact .inl ⟨wk.stop _ e2f,o' σ' H' xs' (.refl H') ha' hia' (Envs.fgt js E') r'⟩
  · rw [if_neg him] at o0;exact o0.elim⟩
end FD
namespace FD
open PySem PySem.Spec PyProof.Rows L2 PySem.W
def bE:Dv→Bool
 | .bl _=>e_
 | .int _=>e_
 | _=>d_
theorem yW (K:f_) (d:Dv):Lw K (.type (tyD d)) (.type "int")=a_ (bE d):=by cases d <;> kernel_rfl
theorem Cr:Kp (b_ "int")=a_ (.type "int"):=by kernel_rfl
def EA:List Dv→Option (Rs Dv)
 | [.int i,.int j]=>a_ (.ok (.int (if j < i then j else i)))
 | _=>ck
def Ge:List Dv→Option (Rs Dv)
 | [.int i]=>if i.natAbs.log2 < 1920 then a_ (.ok (.str (toString i))) else ck
 | _=>ck
section
variable {X:Cx} {p pos:Pos} {e:F_} {es:List F_} {ga:FnA}
theorem Ct (hc:X.calm=e_) (hg:Gl X "min") (hm:X.mg "min"=ck) (ha:FA X (e :: es) ga) (he:l_ (e :: es) X.env=(d_,eval e X.env) :: l_ es X.env:=by kernel_rfl) (hpl:(JV pos (l_ es X.env)).any (·.1)=d_:=by kernel_rfl):FE X (.Call (.Name "min" p) (e :: es) [] pos) (fB1 EA ga) :=
 df (gK (rH hc) hg hm PyProof.Rows.boot_min ha.h (by decide) (by decide) he hpl) fun σ H Q ρ E o=>⟨ρ,E,OutA.bind o fun ds vs H1 e1 rs o1=>by
  unfold EA at o1;split at o1
  · rename_i i j;obtain ⟨v,v2,rfl,r,r2⟩:=yw rs;cases (show v=.int i from r);cases (show v2=.int j from r2);exact ⟨i,j,rfl,o1 _ H1 (.refl H1) rfl⟩
  · exact o1.elim⟩
end
def leX:Dv→Dv→Option (Rs Dv)
 | .int i,.int j=>a_ (.ok (.bl (u_ (i≤j))))
 | .str x,.str y=>a_ (.ok (.bl (!u_ (y.cps.toList < x.cps.toList))))
 | _,_=>ck
def HN:R2:=fun x y H Q=>rI0 (fun i j=>.bl (u_ (i≤j))) x y H Q∨∃ i j,x=.str i∧y=.str j∧Q (.bl (!u_ (j.cps.toList < i.cps.toList))) H
section
variable {X:Cx}
theorem sL:OpR X (JL .LtE) (fun x y H Q=>∃ i j,x=.str i∧y=.str j∧Q (.bl (!u_ (j.cps.toList < i.cps.toList))) H):=by
 intro j' s σ H x y v u Q I rx ry h;obtain ⟨i,j,rfl,rfl,q⟩:=h;obtain ⟨t,rfl⟩:=rx;obtain ⟨t',rfl⟩:=ry;exact PySem.P.le_str ⟨.bl _,H,I,rfl,q⟩
theorem Gf:OpR X (JL .LtE) HN:=op_le.or sL
theorem Gg:GOp X HN leX:=by
 intro dx dy x y H Q rx ry o;cases dx <;> cases dy <;> try exact (show False from o).elim
 · rename_i i j;exact .inl ⟨i,j,rx,ry,o _ H (.refl H) rfl⟩
 · rename_i i j;exact .inr ⟨i,j,rx,ry,o _ H (.refl H) rfl⟩
end
def Gh (K:f_) (S:List Nat) (Cs:List k_) (CJ:k_):Bool:=excIn K CJ bmV "ValueError.__new__" && S.all fun c=>excIn K (Cs.getD c 0) bmV "ValueError.__new__" && xiB K (Cs.getD c 0) && mroIn K (Cs.getD c 0) (.ref CJ) == a_ e_ && mroIn K (Cs.getD c 0) (.ref (Cs.getD c 0)) == a_ e_ &&
 kitOne K (.ref (Cs.getD c 0)) (.type "ValueError") == a_ e_ && S.all fun d=>kitOne K (.ref (Cs.getD c 0)) (.ref (Cs.getD d 0)) == a_ (c == d)
structure XAllS (K:f_) (S:List Nat) (cls:Nat→k_) (CJ:k_):Prop where
 at_:∀ c∈S,nsIn K y_ (xnm c)=a_ (a_ (.ref (cls c)))∧excIn K (cls c) bmV "ValueError.__new__"=e_∧XI K (cls c)∧mroIn K (cls c) (.ref CJ)=a_ e_∧mroIn K (cls c) (.ref (cls c))=a_ e_∧kitOne K (.ref (cls c)) (.type "ValueError")=a_ e_∧∀ d∈S,kitOne K (.ref (cls c)) (.ref (cls d))=a_ (c == d)
 exJ:excIn K CJ bmV "ValueError.__new__"=e_
theorem vN {K:f_} {S:List Nat} {Cs:List k_} {CJ:k_} (hn:∀ c∈S,nsIn K y_ (xnm c)=a_ (a_ (.ref (Cs.getD c 0)))) (h:Gh K S Cs CJ=e_):XAllS K S (fun c=>Cs.getD c 0) CJ:=by
 unfold Gh at h;rw [on] at h;refine ⟨fun c hc=>?_,h.1⟩;have h1:=Kj.mp h.2 c hc;simp only [on,beq_iff_eq] at h1;exact ⟨hn c hc,h1.1.1.1.1.1,F6 h1.1.1.1.1.2,h1.1.1.1.2,h1.1.1.2,h1.1.2,fun d hd=>by
  have h2:=Kj.mp h1.2 d hd;simpa using h2⟩
section
variable {K:f_} {S:List Nat} {cls:Nat→k_} {CJ:k_} (x:XAllS K S cls CJ)
include x
theorem XAllS.xc (c:Nat) (h:c∈S):XC K c (cls c):=⟨(x.at_ c h).1,(x.at_ c h).2.1⟩
theorem XAllS.same {c:Nat} {C:k_} (h:c∈S) (q:nsIn K y_ (xnm c)=a_ (a_ (.ref C))):C=cls c:=by
 have z:=(x.at_ c h).1;rw [q] at z;cases z;rfl
end
section
variable {X:Cx} {ex hx:F_} {f g:FnE} {J:Str} {CJ:k_} {np rp rp2 hpos pos:Pos}
end
end FD
namespace ST
open PySem PySem.SetTable
def stp (m i:Nat):Nat:=(i * 5 + 1) % (m + 1)
def it (m:Nat):Nat→Nat→Nat
 | 0,i=>i
 | k + 1,i=>it m k (stp m i)
def vO (m:Nat):Bool:=(pi (m + 1)).all fun i=>(pi (m + 1)).all fun j=>(pi (m + 1)).any fun k=>it m k i == j
theorem HP:vO 7=e_:=by decide +kernel
theorem Cu:vO 31=e_:=by decide +kernel
theorem Cv {m:Nat} (h:vO m=e_) {i j:Nat} (hi:i≤m) (hj:j≤m):∃ k,k≤m∧it m k i=j:=by
 unfold vO at h;have h1:=Kj.mp h i (JQ.mpr (by omega));have h2:=Kj.mp h1 j (JQ.mpr (by omega));obtain ⟨k,hk,e⟩:=K3.mp h2;exact ⟨k,by have:=JQ.mp hk; omega,by simpa using e⟩
def lp (m:Nat):Nat→Nat×Nat→Nat×Nat
 | 0,x=>x
 | r + 1,x=>lp m r (leap m x.1 x.2)
theorem sM (m:Nat):∀ (a b:Nat) (x:Nat×Nat),lp m (a + b) x=lp m b (lp m a x)
 | 0,b,x=>by rw [Mf]; rfl
 | a + 1,b,x=>by
  rw [Nat.succ_add];show lp m (a + b) (leap m x.1 x.2)=lp m b (lp m a (leap m x.1 x.2));exact sM m a b _
theorem yX (m:Nat):∀ (r:Nat) (x:Nat×Nat),x.1≤m→(lp m r x).1≤m
 | 0,x,h=>h
 | r + 1,x,h=>yX m r _ (by
  show (x.1 * 5 + 1 + x.2 / 32) % (m + 1)≤m;exact Lj (NT _ (MV m)))
theorem Cw (m:Nat):∀ (r:Nat) (x:Nat×Nat),(lp m r x).2=x.2 / 32 ^ r
 | 0,x=>by simp [lp]
 | r + 1,x=>by
  show (lp m r (leap m x.1 x.2)).2=_;rw [Cw m r];show x.2 / 32 / 32 ^ r=_;rw [Nat.div_div_eq_div_mul,Nat.pow_succ,Nat.mul_comm]
theorem sN (m:Nat):∀ (r:Nat) (i:Nat),(lp m r (i,0)).1=it m r i
 | 0,i=>rfl
 | r + 1,i=>by
  show (lp m r (leap m i 0)).1=it m r (stp m i);have e:leap m i 0=(stp m i,0):=by unfold leap stp; simp
  rw [e];exact sN m r _
theorem sO {m:Nat} (c:vO m=e_) {i pt j:Nat} (hi:i≤m) (hp:pt < 2 ^ 64) (hj:j≤m):∃ r,r≤13 + m∧(lp m r (i,pt)).1=j:=by
 have h0:(lp m 13 (i,pt)).2=0:=by
  rw [Cw];exact Nat.div_eq_of_lt (by
   show pt < 32 ^ 13; have:(32:Nat) ^ 13=2 ^ 65:=by decide
   omega)
 obtain ⟨k,hk,e⟩:=Cv c (yX m 13 (i,pt) hi) hj;refine ⟨13 + k,by omega,?_⟩;rw [sM];have e2:lp m 13 (i,pt)=((lp m 13 (i,pt)).1,0):=by rw [← h0]
 rw [e2,sN];exact e
def advN (t:SetTable):Nat→Probe→Probe
 | 0,p=>p
 | n + 1,p=>advN t n (t.advance p)
theorem fG (t:SetTable):∀ (a b:Nat) (p:Probe),advN t (a + b) p=advN t b (advN t a p)
 | 0,b,p=>by rw [Mf]; rfl
 | a + 1,b,p=>by
  rw [Nat.succ_add];exact fG t a b _
structure Vp (t:SetTable) (p:Probe):Prop where
 i:p.i≤t.mask
 pt:p.perturb < 2 ^ 64
 more:p.more≤9
 dm:p.dummy=ck
theorem mn (m i:Nat):Ra m i - i≤9:=by unfold Ra; split <;> omega
def mo (t:SetTable) (p:Probe):Probe:={ p with j:=(leap t.mask p.i p.perturb).1,more:=Ra t.mask (leap t.mask p.i p.perturb).1 - (leap t.mask p.i p.perturb).1,i:=(leap t.mask p.i p.perturb).1,perturb:=(leap t.mask p.i p.perturb).2 }
theorem pD (t:SetTable) (p:Probe) (h:p.more=0):t.advance p=mo t p:=by
 unfold Qy mo;rw [if_neg (by omega)]
theorem sP (t:SetTable) (p:Probe) (h:0 < p.more):t.advance p={ p with j:=p.j + 1,more:=p.more - 1 }:=by
 unfold Qy;rw [if_pos h]
theorem nO (t:SetTable):∀ (k:Nat) (p:Probe),p.more=k→advN t (k + 1) p=mo t p
 | 0,p,h=>pD t p h
 | k + 1,p,h=>by
  show advN t (k + 1) (t.advance p)=_;rw [sP t p (by omega),nO t k _ (by show p.more - 1=k; omega)];rfl
theorem sQ (m i pt:Nat) (h:pt < 2 ^ 64):(leap m i pt).2 < 2 ^ 64:=Nat.lt_of_le_of_lt (Nat.div_le_self _ _) h
theorem Vp.leap {t:SetTable} {p:Probe} (v:Vp t p):Vp t (mo t p):=⟨by
 show (p.i * 5 + 1 + p.perturb / 32) % (t.mask + 1)≤t.mask;exact Lj (NT _ (MV t.mask)),(show (PP t.mask p.i p.perturb).2 < 2 ^ 64 from sQ _ _ _ v.pt),(show Ra t.mask (PP t.mask p.i p.perturb).1 - (PP t.mask p.i p.perturb).1≤9 from mn _ _),v.dm⟩
theorem Vp.adv {t:SetTable} {p:Probe} (v:Vp t p):Vp t (t.advance p):=by
 by_cases h:0 < p.more
 · rw [sP t p h]; exact ⟨v.i,v.pt,by show p.more - 1≤9; have:=v.more; omega,v.dm⟩
 · rw [pD t p (by omega)]; exact v.leap
theorem Vp.advN {t:SetTable}:∀ (n:Nat) {p:Probe},Vp t p→Vp t (advN t n p)
 | 0,p,v=>v
 | n + 1,p,v=>Vp.advN n v.adv
theorem pE (t:SetTable):∀ (r:Nat) (p:Probe),Vp t p→∃ n,n≤10 * r∧(advN t n p).i=(lp t.mask r (p.i,p.perturb)).1∧(r≠0→(advN t n p).j=(advN t n p).i)
 | 0,p,v=>⟨0,by omega,rfl,fun h=>absurd rfl h⟩
 | r + 1,p,v=>by
  obtain ⟨n,h1,h2,h3⟩:=pE t r (mo t p) v.leap;refine ⟨p.more + 1 + n,by have:=v.more; omega,?_,fun _=>?_⟩
  · rw [fG,nO t p.more p rfl,h2]; rfl
  · rw [fG,nO t p.more p rfl];by_cases hr:r=0
    · subst hr;have hn:n=0:=by omega
      subst hn;rfl
    · exact h3 hr
structure Tb (t:SetTable) (n:Nat):Prop where
 size:t.place.size=n
 dm:t.dummies=#[]
 cyc:vO t.mask=e_
 room:n≤t.mask
theorem sS (j:Nat):has #[] j=d_:=by unfold has; simp
theorem kw {t:SetTable} {n:Nat} (T:Tb t n) (j:Nat):t.slot j=.empty∨∃ i,t.slot j=.live i∧t.place[i]?=a_ j:=by
 unfold SetTable.slot;dsimp only;split
 · rename_i h;exact .inr ⟨_,rfl,by simpa using h⟩
 · rw [T.dm,sS];exact .inl rfl
theorem sU:∀ (m:Nat) (l:List Nat),l.length≤m→∃ j,j≤m∧j ∉ l
 | 0,l,h=>⟨0,r_ _,by
  have:l=[]:=LA.mp (by omega);simp [this]⟩
 | m + 1,l,h=>by
  by_cases hm:(m + 1)∈l
  · obtain ⟨j,hj,hn⟩:=sU m (l.erase (m + 1)) (by rw [List.length_erase_of_mem hm]; omega);refine ⟨j,by omega,fun hl=>hn ?_⟩;exact (List.mem_erase_of_ne (by omega)).mpr hl
  · exact ⟨m + 1,r_ _,hm⟩
theorem vP {t:SetTable} {n:Nat} (T:Tb t n):∃ j,j≤t.mask∧t.slot j=.empty:=by
 obtain ⟨j,hj,hn⟩:=sU t.mask t.place.toList (by simp [T.size,T.room]);refine ⟨j,hj,?_⟩;rcases kw T j with h | ⟨i,h,e⟩
 · exact h
 · exact absurd (Kg.mpr (Array.mem_of_getElem? e)) hn
theorem Gi {t:SetTable} {n:Nat} (T:Tb t n) {p:Probe} (v:Vp t p):∃ N,N < 10 * OJ t.mask∧t.slot (advN t N p).j=.empty:=by
 obtain ⟨j,hj,he⟩:=vP T;obtain ⟨r,hr,e⟩:=sO T.cyc (yX t.mask 1 (p.i,p.perturb) v.i) (by
  show (leap t.mask p.i p.perturb).2 < 2 ^ 64;exact sQ _ _ _ v.pt) hj (pt:=(lp t.mask 1 (p.i,p.perturb)).2)
 obtain ⟨N,h1,h2,h3⟩:=pE t (1 + r) p v;refine ⟨N,by unfold OJ; omega,?_⟩;rw [h3 (by omega),h2,sM];rw [show lp t.mask 1 (p.i,p.perturb)=((lp t.mask 1 (p.i,p.perturb)).1,(lp t.mask 1 (p.i,p.perturb)).2) from rfl,e];exact he
theorem first {P:Nat→Prop} [DecidablePred P]:∀ (b:Nat),(∃ n,n < b∧P n)→∃ n,n < b∧P n∧∀ k,k < n→¬ P k
 | 0,⟨n,h,_⟩=>absurd h (LR _)
 | b + 1,⟨n,h,hp⟩=>by
  by_cases q:∃ n,n < b∧P n
  · obtain ⟨n,h1,h2,h3⟩:=first b q
    exact ⟨n,by omega,h2,h3⟩
  · have hn:n=b:=by
     have:¬ n < b:=fun z=>q ⟨n,z,hp⟩;omega
    subst hn;exact ⟨n,by omega,hp,fun k hk z=>q ⟨k,hk,z⟩⟩
theorem xz {t:SetTable} {n:Nat} (T:Tb t n) {p:Probe} (v:Vp t p):∃ N,N < 10 * OJ t.mask∧t.slot (advN t N p).j=.empty∧∀ k,k < N→t.slot (advN t k p).j≠.empty :=
 first (P:=fun n=>t.slot (advN t n p).j=.empty) _ (Gi T v)
theorem sV {t:SetTable} {n:Nat} (T:Tb t n) (hashAt:Nat→Int) (h:Int):∀ (N fuel:Nat) (p:Probe),Vp t p→N < fuel→t.slot (advN t N p).j=.empty→(∀ k,k < N→t.slot (advN t k p).j≠.empty) →
 Of t hashAt h fuel p=a_ (.empty (advN t N p).j ck)∨∃ m i,m < N∧t.slot (advN t m p).j=.live i∧t.place[i]?=a_ (advN t m p).j∧hashAt i=h∧Of t hashAt h fuel p=a_ (.candidate (advN t m p).j i (advN t (m + 1) p))
 | N,0,p,v,hf,_,_=>absurd hf (LR _)
 | 0,fuel + 1,p,v,hf,he,_=>by
  refine .inl ?_;unfold Of;rw [show t.slot p.j=.empty from he];show a_ (Met.empty p.j p.dummy)=_;rw [v.dm];rfl
 | N + 1,fuel + 1,p,v,hf,he,hn=>by
  rcases kw T p.j with h0 | ⟨i,h1,h2⟩
  · exact absurd h0 (hn 0 (by omega))
  · by_cases hh:hashAt i=h
    · refine .inr ⟨0,i,by omega,h1,h2,hh,?_⟩;unfold Of;rw [h1];dsimp only;rw [if_pos (by simpa using hh)];rfl
    · have hg:Of t hashAt h (fuel + 1) p=Of t hashAt h fuel (t.advance p):=by
       conv=>lhs; unfold Of
       rw [h1];dsimp only;rw [if_neg (by simpa using hh)]
      rcases sV T hashAt h N fuel (t.advance p) v.adv (by omega) he (fun k hk=>hn (k + 1) (by omega)) with q | ⟨m,i',q1,q2,q3,q4,q5⟩
      · exact .inl (by rw [hg,q]; rfl)
      · exact .inr ⟨m + 1,i',by omega,q2,q3,q4,by rw [hg,q5]; rfl⟩
theorem lf {t:SetTable} (h:Int):Vp t (t.probeStart h):=⟨by
 show bits h % (t.mask + 1)≤t.mask;exact Lj (NT _ (MV t.mask)),by
 show bits h < 2 ^ 64;unfold bits;have h1:=Lf h (show (2 ^ 64:Int)≠0 by decide);have h2:=KM h (show (0:Int) < 2 ^ 64 by decide);omega,mn _ _,rfl⟩
theorem mq {m:Nat} {owner:Array (Option Nat)}:∀ (fuel i pt:Nat),i≤m→(∃ r,r < fuel∧(owner.getD (lp m r (i,pt)).1 (a_ 0)).isNone=e_)→∃ j,Nb m owner fuel i pt=a_ j∧(owner.getD j (a_ 0)).isNone=e_
 | 0,i,pt,_,⟨r,h,_⟩=>absurd h (LR _)
 | fuel + 1,i,pt,hi,⟨r,h,e⟩=>by
  unfold Nb;split
  · rename_i k hk;exact ⟨i + k,rfl,by simpa using List.find?_some hk⟩
  · rename_i hk;cases r with
    | zero =>
     have hm:0∈pi (Ra m i + 1 - i):=JQ.mpr (by unfold Ra; split <;> omega);have:=List.find?_eq_none.mp hk 0 hm;exact absurd (show (owner.getD (i + 0) (a_ 0)).isNone=e_ from e) this
    | succ r =>
     exact mq fuel _ _ (by
      show (i * 5 + 1 + pt / 32) % (m + 1)≤m;exact Lj (NT _ (MV m))) ⟨r,by omega,e⟩
theorem xA:∀ (l:List (Option Nat)) (j k:Nat),l[j]?=a_ ck→((l.set j (a_ k)).filterMap id).Perm (k :: l.filterMap id)
 | [],j,k,h=>by simp at h
 | x :: l,0,k,h=>by
  have:x=ck:=by simpa using h
  subst this;simp
 | x :: l,j + 1,k,h=>by
  have ih:=xA l j k (by simpa using h);cases x with
  | none=>simpa using ih
  | some y =>
   show List.Perm (y :: (l.set j (a_ k)).filterMap id) (k :: y :: l.filterMap id);exact (ih.cons y).trans (Rg ..)
theorem sW:∀ (l:List (Option Nat)),(l.filterMap id).length < l.length→∃ j,j < l.length∧l[j]?=a_ ck
 | [],h=>by simp at h
 | none :: l,h=>⟨0,by simp,rfl⟩
 | some y :: l,h=>by
  obtain ⟨j,h1,h2⟩:=sW l (by simpa using h);exact ⟨j + 1,by simpa using h1,by simpa using h2⟩
def yY (m:Nat) (acc:Option (Array (Option Nat)×Nat)) (h:Int):Option (Array (Option Nat)×Nat):=do
 let (owner,k) ← acc
 let j ← Nb m owner (OJ m) (bits h % (m + 1)) (bits h)
 pure (owner.setIfInBounds j (a_ k),k + 1)
theorem yZ (h:Int):bits h < 2 ^ 64:=by
 unfold bits;have h1:=Lf h (show (2 ^ 64:Int)≠0 by decide);have h2:=KM h (show (0:Int) < 2 ^ 64 by decide);omega
theorem getD_none {owner:Array (Option Nat)} {j:Nat} (h:(owner.getD j (a_ 0)).isNone=e_):j < owner.size∧owner.toList[j]?=a_ ck:=by
 rw [L7] at h;cases q:owner[j]? with
 | none=>rw [q] at h; simp at h
 | some x =>
  rw [q] at h;have hx:x=ck:=by simpa using h
  subst hx;refine ⟨(JR.mp q).1,by rw [M3]; exact q⟩
theorem sX {m:Nat} (c:vO m=e_):∀ (hs:List Int) (owner:Array (Option Nat)) (k:Nat),owner.size=m + 1→(owner.toList.filterMap id).Perm (pi k)→k + hs.length≤m →
 ∃ o2,hs.foldl (yY m) (a_ (owner,k))=a_ (o2,k + hs.length)∧o2.size=m + 1∧(o2.toList.filterMap id).Perm (pi (k + hs.length))
 | [],owner,k,h1,h2,h3=>⟨owner,rfl,h1,h2⟩
 | h :: hs,owner,k,h1,h2,h3=>by
  have hk:k + (hs.length + 1)≤m:=by simpa using h3
  obtain ⟨j0,a1,a2⟩:=sW owner.toList (by rw [h2.length_eq,MZ]; simp only [JB,h1]; omega);have hj0:j0≤m:=by simp only [JB,h1] at a1; omega
  obtain ⟨r,b1,b2⟩:=sO c (i:=bits h % (m + 1)) (pt:=bits h) (Lj (NT _ (MV m))) (yZ h) hj0;obtain ⟨j,f1,f2⟩:=mq (m:=m) (owner:=owner) (OJ m) (bits h % (m + 1)) (bits h) (Lj (NT _ (MV m))) ⟨r,by unfold OJ; omega,by
   rw [b2,L7];rw [M3] at a2;rw [a2]; rfl⟩
  obtain ⟨g1,g2⟩:=getD_none f2;have e:yY m (a_ (owner,k)) h=a_ (owner.setIfInBounds j (a_ k),k + 1):=by
   show (Nb m owner (OJ m) (bits h % (m + 1)) (bits h)).bind (fun j=>a_ (owner.setIfInBounds j (a_ k),k + 1))=_;rw [f1]; rfl
  rw [List.foldl_cons,e];obtain ⟨o2,c1,c2,c3⟩:=sX c hs (owner.setIfInBounds j (a_ k)) (k + 1) (by rw [Array.size_setIfInBounds]; exact h1) (by
   rw [Array.toList_setIfInBounds];refine (xA _ _ _ g2).trans ((h2.cons k).trans ?_);rw [OM];exact (Mb k (pi k)).symm) (by omega)
  refine ⟨o2,?_,c2,?_⟩
  · rw [c1]; simp only [LB]; congr 2; omega
  · simp only [LB]; rw [show k + (hs.length + 1)=k + 1 + hs.length by omega]; exact c3
theorem nQ {m:Nat} (c:vO m=e_) (hs:Array Int) (hl:hs.size≤m):∃ o2,Rc m hs=a_ o2∧o2.size=m + 1∧(o2.toList.filterMap id).Perm (pi hs.size):=by
 obtain ⟨o2,c1,c2,c3⟩:=sX c hs.toList (OP (m + 1) ck) 0 (by simp) (by simp [List.filterMap_replicate]) (by simpa using hl);refine ⟨o2,?_,c2,by simpa using c3⟩;unfold Rc;rw [← Array.foldl_toList];have e:(List.foldl (fun acc h=>do
  let (owner,k) ← acc
  let j ← Nb m owner (OJ m) (bits h % (m + 1)) (bits h)
  pure (owner.setIfInBounds j (a_ k),k + 1)) (a_ (OP (m + 1) ck,0)) hs.toList:Option (Array (Option Nat)×Nat))=hs.toList.foldl (yY m) (a_ (OP (m + 1) ck,0)):=rfl
 rw [e,c1];rfl
theorem pF:∀ (l:List (Option Nat)) (base:Nat),((pi l.length).filterMap fun j=>(l.getD j ck).map (fun x=>(base + j,x))).map (·.2)=l.filterMap id
 | [],base=>rfl
 | x :: l,base=>by
  rw [LB,OE,Mp,Mz];have ih:=pF l (base + 1);have e:(pi l.length).filterMap ((fun j=>((x :: l).getD j ck).map (fun x=>(base + j,x))) ∘ Nat.succ)=(pi l.length).filterMap fun j=>(l.getD j ck).map (fun x=>(base + 1 + j,x)):=by
   congr 1;funext j;show ((x :: l).getD (j + 1) ck).map _=_;simp only [List.getD_cons_succ];rw [show base + (j + 1)=base + 1 + j by omega]
  rw [e];cases x with
  | none=>simpa using ih
  | some y =>
   simp only [List.getD_cons_zero,LQ,Ju];rw [ih];rfl
theorem sY {m finger moves:Nat} {led plain:Bool} (c:vO m=e_) (hs:Array Int) (hl:hs.size≤m):∃ t order,laid m finger moves led plain hs=a_ (t,order)∧t.mask=m∧t.moves=moves∧t.led=led∧t.plain=plain∧Tb t hs.size∧order.toList.Perm (pi hs.size):=by
 obtain ⟨o2,c1,c2,c3⟩:=nQ c hs hl;have e:=pF o2.toList 0;have hlen:((pi (m + 1)).filterMap fun j=>(o2.getD j ck).map (j,·))=((pi o2.toList.length).filterMap fun j=>(o2.toList.getD j ck).map (fun x=>(0 + j,x))):=by
  rw [JB,c2];congr 1;funext j;rw [Mf,L7,Mc,M3]
 refine ⟨_,_,by unfold laid; rw [c1]; rfl,rfl,rfl,rfl,rfl,⟨?_,rfl,c,hl⟩,?_⟩
 · simp only [E_,Jo];rw [hlen];have:=congrArg Nh e;rw [Jo] at this;rw [this,c3.length_eq,MZ]
 · rw [PC,hlen,e];exact c3
theorem fH {α:Type} (xs:Array α) (p:Nat) (x:α) (h:p≤xs.size):(insertAt xs p x).size=xs.size + 1:=by
 unfold insertAt;simp only [N5,Array.size_push,Array.size_extract];omega
theorem pG (xs:Array Nat) (j:Nat):below xs j≤xs.size:=by
 unfold below;have:∀ (fuel lo hi:Nat),lo≤hi→hi≤xs.size→Rt xs j fuel lo hi≤xs.size:=by
  intro fuel
  induction fuel with
  | zero=>intro lo hi h1 h2; unfold Rt; omega
  | succ fuel ih =>
   intro lo hi h1 h2;unfold Rt;split
   · rename_i hlt;dsimp only;split
     · exact ih _ _ (by omega) h2
     · exact ih _ _ (by omega) (by omega)
   · omega
 exact this _ _ _ (JA _) (r_ _)
theorem xB {t:SetTable} {n:Nat} (T:Tb t n) (h:n + 1≤t.mask) (j:Nat):Tb (t.put j).1 (n + 1)∧(t.put j).2≤n∧(t.put j).1.mask=t.mask∧(t.put j).1.led=t.led∧(t.put j).1.moves=t.moves:=by
 unfold SetTable.put;refine ⟨⟨?_,?_,T.cyc,h⟩,?_,rfl,rfl,rfl⟩
 · show (insertAt t.place (below t.place j) j).size=n + 1;rw [fH _ _ _ (pG _ _),T.size]
 · show (if has t.dummies j then eraseAt t.dummies (below t.dummies j) else t.dummies)=#[];rw [T.dm,sS];rfl
 · show below t.place j≤n;rw [← T.size];exact pG _ _
section
variable {prog:rl} {w:C_} {A:D_} {E:g_→h_→Prop} {s:h_}
abbrev TK (prog:rl) (w:C_) (h:H_) (k:List Str) (a:k_):Prop:=IsTupleKey (strKind prog w) h k a
abbrev hsh (prog:rl) (w:C_) (k:List Str):Int:=tupleKeyHash (strKind prog w) k
theorem gl {k:List Str} {vs:List g_} (h:ItemsAre (strKind prog w) k vs):∀ v∈vs,∃ x t,v=.str x t:=by
 induction h with
 | nil=>intro v hv; simp at hv
 | @cons k' v' ks vs h1 _ ih =>
  intro v hv;rcases w_.mp hv with rfl | hv
  · obtain ⟨t,rfl⟩:=Po h1;exact ⟨_,_,rfl⟩
  · exact ih v hv
theorem jQ {k:List Str} {a:k_} {Q:Bool→h_→Prop} (hk:TK prog w s.heap k a) (h:Q d_ s):uk (z_ prog w) A (ML 8 (.ref a)) Q E s:=by
 have hT:=hk.typeIs;obtain ⟨o,items,n,ho,_,hd,hi⟩:=hk;unfold ML;refine c_ (MI hT ?_);show uk _ _ ((if ("tuple" == "tuple")=e_ then pure e_ else isSubtype (.type "tuple") (.type "tuple")) >>= _) _ _ s;rw [if_pos (by decide)];refine c_ (j_ ?_);simp only [Kn,p_,if_false];refine c_ (Kl ho hd ?_);refine c_ ?_;show uk _ _ (Rh items _ _) _ _ s;rw [← La];refine Lu _ (fun rest r s'=>r.1=ck∧s'=s∧∀ v∈rest,∃ x t,v=Md x t) _ ?_ ?_ _ _ ⟨rfl,rfl,gl hi⟩
 · rintro v rest r s' ⟨hr,rfl,hall⟩;obtain ⟨x,t,rfl⟩:=hall v n_;refine c_ (j_ ?_);simp only [p_,if_false];exact j_ ⟨rfl,rfl,fun u hu'=>hall u (o_ _ hu')⟩
 · rintro ⟨r1,r2⟩ s' ⟨hr,rfl,_⟩;simp only at hr;subst hr;exact j_ h
theorem sZ {k:List Str} {b:k_} (hk:TK prog w s.heap k b) {l:List g_} (hl:∀ v∈l,∃ k' a,v=.ref a∧TK prog w s.heap k' a) {Q:Bool→h_→Prop} (h:Q d_ s):uk (z_ prog w) A (MK (.ref b) l) Q E s:=by
 unfold MK;refine c_ ?_;refine Lu _ (fun rest r s'=>r.1=ck∧s'=s∧∀ v∈rest,∃ k' a,v=q_ a∧TK prog w s.heap k' a) _ ?_ ?_ _ _ ⟨rfl,rfl,hl⟩
 · rintro v rest r s' ⟨hr,rfl,hall⟩;obtain ⟨k',a,rfl,ha⟩:=hall v n_;have hrest:∀ v∈rest,∃ k' a,v=q_ a∧TK prog w s'.heap k' a:=fun u hu'=>hall u (o_ _ hu');dsimp only;split
   · exact j_ ⟨rfl,rfl,hrest⟩
   · refine c_ (LX hk ?_);simp only [Kn,p_,if_false];refine c_ (LX ha ?_);simp only [Kn,p_,if_false];refine c_ (jQ hk ?_);simp only [p_,if_false];refine c_ (jQ ha ?_);simp only [p_,if_false];exact j_ ⟨rfl,rfl,hrest⟩
 · rintro ⟨r1,r2⟩ s' ⟨hr,rfl,_⟩;simp only at hr;subst hr;exact j_ h
def Ent (prog:rl) (w:C_) (h:H_) (ks:List (List Str)) (es:List (Int×g_)):Prop:=∀ e∈es,∃ k a,k∈ks∧e.2=.ref a∧TK prog w h k a
theorem fI {t:SetTable} {n:Nat} (T:Tb t n):t.fits n=e_:=by
 unfold Rk Oa;rw [T.size,T.dm];simp [T.room]
theorem jR {S b:k_} {o:Obj} {es:Array (Int×g_)} {ep:Nat} {t:SetTable} {ks:List (List Str)} {k:List Str} {h:Int} {adding:Bool} {Q:SetFound→h_→Prop} (hu:A.units < cLine)
 (ho:s.heap.get? S=a_ o) (hd:o.data=.set es ep t) (T:Tb t es.size) (hm:t.mask % 2=1) (hE:Ent prog w s.heap ks es.toList) (hx:TK prog w s.heap k b) (hk:k ∉ ks) :
 ∀ (N fuel:Nat) (st:Option Probe),(∀ p,st=a_ p→Vp t p)→N < fuel→t.slot (advN t N (st.getD (t.probeStart h))).j=.empty→(∀ m,m < N→t.slot (advN t m (st.getD (t.probeStart h))).j≠.empty)→N < 10 * OJ t.mask →
  (∀ j,Q (.free j d_) s)→uk (z_ prog w) A (Ln S (.ref b) h adding fuel st) Q E s:=by
 intro N
 induction N using Nat.strongRecOn with
 | _ N ih =>
  intro fuel st hv hf he hn hN hQ;cases fuel with
  | zero=>exact absurd hf (LR _)
  | succ fuel =>
   have hfit:=fI T;have v:Vp t (st.getD (t.probeStart h)):=by
    cases st with
    | none=>exact lf h
    | some p=>exact hv p rfl
   unfold Ln;refine c_ (Kb ho hd hfit ?_);dsimp only;have hgw:t.gaveWay=d_:=by unfold Qx; rw [hm]; rfl
   rw [hgw];simp only [p_,if_false];unfold Rb;rcases sV T _ h N _ (st.getD (t.probeStart h)) v hN he hn with q | ⟨m,i,hmN,q1,q2,q3,q5⟩
   · rw [q];dsimp only;exact j_ (hQ _)
   · rw [q5];dsimp only;have hi:i < es.size:=by
      have:=(JR.mp q2).1;rw [T.size] at this;exact this
     obtain ⟨k',a,hk',ea,ta⟩:=hE es[i] (Kg.mpr (Qo hi));have hg:es[i]?=a_ (es[i].1,.ref a):=by rw [N0 hi,← ea]
     have rest:uk (z_ prog w) A (do
      let a_ (_,y):=es[i]? | MB "internal:set-entry"
      let equal ← MM [y] (eqBool y (.ref b))
      let (es',_,t') ← setState S
      if (adding && equal)=e_ then return Re ck
      let a_ same:=t'.sameMemory t.moves t.mask | MB "set.changed-during-lookup:is-the-new-block-at-the-old-address"
      let still ← match (if same then t'.slot (advN t m (st.getD (t.probeStart h))).j else .empty) with
       | .live i'=>match es'[i']? with
        | some (_,y')=>do pure (if ← Q2 y' y then a_ i' else ck)
        | none=>pure ck
       | _=>pure ck
      match still with
      | none=>rule "set.search.anew"; Ln S (.ref b) h adding fuel ck
      | some i'=>if equal then return .there (a_ i') else Ln S (.ref b) h adding fuel (a_ (advN t (m + 1) (st.getD (t.probeStart h))))) Q E s:=by
      rw [hg];dsimp only;refine c_ (JY (wpAny_eqBool_tuple hu ta hx ?_));have hne:u_ (k'=k)=d_:=decide_eq_false fun z=>hk (z ▸ hk');rw [hne];refine c_ (Kb ho hd hfit ?_);dsimp only;rw [NX];simp only [p_,if_false];have hsm:t.sameMemory t.moves t.mask=a_ e_:=by unfold Pp; simp
      rw [hsm];dsimp only;rw [if_pos rfl,q1];dsimp only;rw [hg];dsimp only;have hsame:Q2 (q_ a) (q_ a)=pure e_:=by
       unfold Q2;dsimp only;rw [if_pos (by simp)]
      rw [hsame];refine c_ (c_ (j_ (j_ ?_)));rw [if_pos rfl];refine ih (N - (m + 1)) (by omega) fuel (a_ (advN t (m + 1) (st.getD (t.probeStart h)))) (fun p hp=>by cases hp; exact Vp.advN (m + 1) v) (by omega) ?_ ?_ (by omega) hQ
      · show t.slot (advN t (N - (m + 1)) (advN t (m + 1) (st.getD (t.probeStart h)))).j=.empty;rw [← fG,show m + 1 + (N - (m + 1))=N by omega];exact he
      · intro x hx';show t.slot (advN t x (advN t (m + 1) (st.getD (t.probeStart h)))).j≠.empty;rw [← fG];exact hn _ (by omega)
     by_cases hled:t.led=e_
     · rw [hled];simp only [Kn,p_,if_false];exact rest
     · have hled':t.led=d_:=by simpa using hled
       rw [hled'];simp only [KD,if_true];refine c_ (sZ hx (fun v hv=>?_) ?_)
       · obtain ⟨e,he',rfl⟩:=Jz.mp hv;have hem:e∈es.toList:=by
          have:=Kg.mp he';rw [QK] at this;exact Kg.mpr this.1
         obtain ⟨k2,a2,_,e2,t2⟩:=hE e hem;exact ⟨k2,a2,e2,t2⟩
       · simp only [p_,if_false];exact rest
end
section
variable {prog:rl} {w:C_} {A:D_} {E:g_→h_→Prop} {s:h_}
abbrev byT (w:C_):Bool:=w.params.followText "set-order"
def SetT (prog:rl) (w:C_) (h:H_) (S:k_) (ks:List (List Str)) (vs:List g_) (n:Nat):Prop :=
 ∃ o es ep t,h.get? S=a_ o∧o.ExactSet∧o.data=.set es ep t∧es.size=n∧Tb t n∧((t.mask=7∧n≤4)∨(t.mask=31∧n≤18))∧Ent prog w h ks es.toList∧(es.toList.map (·.2)).Perm vs∧t.led=(!byT w)∧((∀ k∈ks,k≠[])→n≠0→t.plain=d_)
theorem ib {k:List Str} {a:k_} {Q:Bool→h_→Prop} (hk:TK prog w s.heap k a) (h:∀ b,(k≠[]→b=d_)→Q b s):uk (z_ prog w) A (OZ 8 (.ref a)) Q E s:=by
 have hT:=hk.typeIs;obtain ⟨o,items,n,ho,_,hd,hi⟩:=hk;have h0:items.toList=[]→k=[]:=fun e=>by
  rw [e] at hi;cases hi;rfl
 unfold OZ;refine c_ (wpAny_specialOf hT F.slot_tuple_hash.lookup ?_);dsimp only;refine c_ (Kl ho hd ?_);refine c_ ?_;show uk _ _ (Rh items _ _) _ _ s;rw [← La];refine Lu _ (fun rest r s'=>r.1=ck∧s'=s∧(∀ v∈rest,∃ x t,v=Md x t)∧(rest=[]→k=[])) _ ?_ ?_ _ _ ⟨rfl,rfl,gl hi,h0⟩
 · rintro v rest r s' ⟨hr,rfl,hall,_⟩;obtain ⟨x,t,rfl⟩:=hall v n_;refine c_ (j_ ?_);simp only [KD,if_true];refine j_ ?_;exact j_ (h _ fun _=>rfl)
 · rintro ⟨r1,r2⟩ s' ⟨hr,rfl,_,h1⟩;simp only at hr;subst hr;exact j_ (h _ fun z=>absurd (h1 rfl) z)
theorem TK.keeps {h h':H_} {k:List Str} {a S:k_} {o:Obj} {es ep t} (x:TK prog w h k a) (ho:h.get? S=a_ o) (hd:o.data=.set es ep t) (hs:Lh S h h'):TK prog w h' k a:=by
 obtain ⟨o',items,n,ho',hc,hd',hi⟩:=x;have hne:a≠S:=by
  rintro rfl;obtain rfl:o'=o:=Jp (ho'.symm.trans ho);rw [hd] at hd'; exact nomatch hd'
 exact ⟨o',items,n,(hs.2 a hne).trans ho',hc,hd',hi⟩
theorem Ent.keeps {h h':H_} {ks:List (List Str)} {l:List (Int×g_)} {S:k_} {o:Obj} {es ep t} (x:Ent prog w h ks l) (ho:h.get? S=a_ o) (hd:o.data=.set es ep t) (hs:Lh S h h'):Ent prog w h' ks l:=fun e he=>by
 obtain ⟨k,a,h1,h2,h3⟩:=x e he;exact ⟨k,a,h1,h2,h3.keeps ho hd hs⟩
theorem gm {h:H_} {S:k_} {o:Obj} {es es':Array (Int×g_)} {ep:Nat} {t t':SetTable} (ho:h.get? S=a_ o) (hd:o.data=.set es ep t):(h.update S (K5 es' t')).get? S=a_ { o with data:=.set es' (ep + 1) t' }:=by
 have:=LY (K5 es' t') ho (by rw [Qq es' t' hd]; rfl);rw [Qq es' t' hd] at this; exact this
theorem Ent.insert {h:H_} {ks:List (List Str)} {es:Array (Int×g_)} {k:List Str} {b:k_} {p:Nat} {x:Int} (hE:Ent prog w h ks es.toList) (hb:TK prog w h k b):Ent prog w h (k :: ks) (t_ es p (x,.ref b)).toList:=fun e he=>by
 have he':=(LL es p (x,q_ b)).mem_iff.mp he;rw [M0] at he';rcases Jn.mp he' with q | q
 · obtain ⟨k',a,h1,h2,h3⟩:=hE e q;exact ⟨k',a,o_ _ h1,h2,h3⟩
 · rw [Jk] at q;subst q;exact ⟨k,b,n_,rfl,hb⟩
theorem jS {t:SetTable} {n:Nat} (T:Tb t n):t.fill=n:=by unfold Oa; rw [T.size,T.dm]; simp
theorem fq {n:Nat} (h:n≤18):n≤sizeLine:=by rw [MD]; omega
theorem lg {α:Type} (es:Array α):(pi es.size).filterMap (fun i=>es[i]?)=es.toList:=by
 apply Qk;intro i;have:(pi es.size).filterMap (fun i=>es[i]?)=(pi es.size).pmap (fun i h=>es[i]) (fun i h=>JQ.mp h):=by
  rw [On,← OT]
  conv=>lhs; rw [← NC (pi es.size)]
  rw [Mz];congr 1;funext ⟨i,hi⟩;simp [JQ.mp hi]
 rw [this];simp [P7,Mn];by_cases hi:i < es.size
 · simp [hi]
 · simp [hi]
theorem nR {m finger moves:Nat} {led plain:Bool} {hs:Array Int} {t:SetTable} {order:Array Nat} (e:laid m finger moves led plain hs=a_ (t,order)):t.led=led∧t.plain=plain:=by
 unfold laid at e;cases hc:Rc m hs with
 | none=>rw [hc] at e; cases e
 | some o=>rw [hc] at e; cases e; exact ⟨rfl,rfl⟩
theorem td {S b:k_} {ks:List (List Str)} {vs:List g_} {n:Nat} {k:List Str} {Q:Bool→h_→Prop} (hu:A.units < cLine) (hS:SetT prog w s.heap S ks vs n) (hx:TK prog w s.heap k b) (hk:k ∉ ks) (hn:n + 1≤18)
 (h:∀ h',Lh S s.heap h'→SetT prog w h' S (k :: ks) (.ref b :: vs) (n + 1)→Q e_ { s with heap:=h' }):uk (z_ prog w) A (Os S (.ref b) (hsh prog w k)) Q E s:=by
 obtain ⟨o,es,ep,t,ho,hex,hd,hsz,T,hm,hE,hpm,hled,hpl0⟩:=hS;have hfit:=fI T;have hfit':t.fits es.size=e_:=by rw [hsz]; exact hfit
 have hodd:t.mask % 2=1:=by rcases hm with ⟨e,_⟩ | ⟨e,_⟩ <;> rw [e]
 have hroom:n + 1≤t.mask:=by rcases hm with ⟨e,q⟩ | ⟨e,q⟩ <;> omega
 unfold Os setAddHashedIn;refine JY (c_ (Kb ho hd hfit' ?_));dsimp only;have hbs:byScan (q_ b) es=d_:=by unfold byScan; rfl
 rw [hbs];simp only [p_,if_false];unfold setSearch;obtain ⟨N,h1,h2,h3⟩:=xz T (lf (t:=t) (hsh prog w k));have hmk:t.mask≤31:=by rcases hm with ⟨e,_⟩ | ⟨e,_⟩ <;> omega
 refine c_ (jR (ks:=ks) hu ho hd (by rw [hsz]; exact T) hodd hE hx hk N 100000 ck (fun p hp=>by cases hp) (by unfold OJ at h1; omega) h2 h3 h1 fun j=>?_);dsimp only;refine c_ (Kb ho hd hfit' ?_);dsimp only;obtain ⟨P1,P2,P3,P4,P5⟩:=xB T hroom j;have hpm1:((t_ es (t.put j).2 (hsh prog w k,q_ b)).toList.map (·.2)).Perm (.ref b :: vs):=by
  refine ((LL es (t.put j).2 (hsh prog w k,q_ b)).map (·.2)).trans ?_;rw [M0,KY];exact (hpm.append_right _).trans (Mb _ _)
 have go:∀ bv:Bool,((∀ x∈k :: ks,x≠[])→(if bv then (t.put j).1 else { (t.put j).1 with plain:=d_ }).plain=d_)→uk (z_ prog w) A (do
  Q0 S (t_ es (t.put j).2 (hsh prog w k,.ref b)) (if bv then (t.put j).1 else { (t.put j).1 with plain:=d_ })
  if (!d_ && (if bv then (t.put j).1 else { (t.put j).1 with plain:=d_ }).tooFull)=e_ then Q1 S (L_ (es.size + 1))
  return e_) Q E s:=by
  intro bv hbv;have T2:∃ t2,(if bv then (t.put j).1 else { (t.put j).1 with plain:=d_ })=t2∧Tb t2 (n + 1)∧t2.mask=t.mask∧t2.led=t.led:=by
   cases bv with
   | true=>exact ⟨_,rfl,P1,P3,rfl⟩
   | false=>exact ⟨_,rfl,⟨P1.size,P1.dm,P1.cyc,P1.room⟩,P3,rfl⟩
  obtain ⟨t2,e2,T2,M2,L2⟩:=T2;rw [e2] at hbv ⊢;have hsz2:(t_ es (t.put j).2 (hsh prog w k,q_ b)).size=n + 1:=by
   rw [fH _ _ _ (by rw [hsz]; exact P2),hsz]
  refine c_ (MJ ho hd ?_ (by rw [hsz2]; exact fq hn));have hsb:=K0 s.heap S (K5 (t_ es (t.put j).2 (hsh prog w k,q_ b)) t2);have hg:=gm (es':=t_ es (t.put j).2 (hsh prog w k,q_ b)) (t':=t2) ho hd;have hE2:Ent prog w (s.heap.update S (K5 (t_ es (t.put j).2 (hsh prog w k,q_ b)) t2)) (k :: ks) (t_ es (t.put j).2 (hsh prog w k,q_ b)).toList:=(hE.insert hx).keeps ho hd hsb;by_cases hf:t2.tooFull=e_
  · rw [hf];simp only [KD,PR,if_true];have hfl:t2.fill * 5 ≥ t2.mask * 3:=by unfold M7 at hf; simpa using hf
    rw [jS T2,M2] at hfl;have h5:n + 1=5∧t.mask=7:=by rcases hm with ⟨e,q⟩ | ⟨e,q⟩ <;> rw [e] at hfl <;> omega
    have hn4:n=4:=by omega
    unfold Q1;refine c_ (c_ (Kb hg rfl (by rw [hsz2]; exact fI T2) ?_));dsimp only;rw [hsz,hn4];rw [if_neg (by rw [MD]; decide)];have hrl:t2.relaid ((t_ es (t.put j).2 (hsh prog w k,q_ b)).map (·.1)) (L_ (4 + 1))=laid 31 t2.finger (t2.movedTo 31) t2.led t2.plain ((t_ es (t.put j).2 (hsh prog w k,q_ b)).map (·.1)):=by
     unfold QU;rw [show sizeAbove (L_ (4 + 1)) - 1=31 by decide]
    obtain ⟨t3,order,r1,r2,r3,r4,r5,r6,r7⟩:=sY (finger:=t2.finger) (moves:=t2.movedTo 31) (led:=t2.led) (plain:=t2.plain) Cu ((t_ es (t.put j).2 (hsh prog w k,q_ b)).map (·.1)) (by rw [LD,hsz2]; omega);have r8:t3.led=t2.led∧t3.plain=t2.plain:=nR r1;rw [hrl,r1];rw [LD,hsz2] at r6 r7;have hperm:(order.filterMap (fun i=>(t_ es (t.put j).2 (hsh prog w k,q_ b))[i]?)).toList.Perm (t_ es (t.put j).2 (hsh prog w k,q_ b)).toList:=by
     rw [OG];refine (r7.filterMap _).trans ?_;rw [← hsz2,lg]
    have hsz3:(order.filterMap (fun i=>(t_ es (t.put j).2 (hsh prog w k,q_ b))[i]?)).size=n + 1:=by
     rw [← JB,hperm.length_eq,JB,hsz2]
    show uk (z_ prog w) A ((if ((order.filterMap (fun i=>(t_ es (t.put j).2 (hsh prog w k,q_ b))[i]?)).size != (t_ es (t.put j).2 (hsh prog w k,q_ b)).size)=e_ then (MB "internal:set-table-lost-an-element":Sem _) else pure (order.filterMap (fun i=>(t_ es (t.put j).2 (hsh prog w k,q_ b))[i]?),t3)) >>= fun x=>Q0 S x.1 x.2) _ _ _;rw [if_neg (by rw [hsz3,hsz2]; simp)];refine c_ (j_ ?_);refine MJ hg rfl ?_ (by rw [hsz3]; exact fq hn);have hsb2:=K0 (s.heap.update S (K5 (t_ es (t.put j).2 (hsh prog w k,q_ b)) t2)) S (K5 (order.filterMap (fun i=>(t_ es (t.put j).2 (hsh prog w k,q_ b))[i]?)) t3);refine j_ (h _ (hsb.trans hsb2) ⟨_,_,_,t3,gm hg rfl,hex,rfl,hsz3,r6,.inr ⟨r2,hn⟩,?_,(hperm.map (·.2)).trans hpm1,r8.1.trans (L2.trans hled),fun z _=>r8.2.trans (hbv z)⟩);have hE3:=hE2.keeps hg rfl hsb2;exact fun e he=>hE3 e (hperm.mem_iff.mp he)
  · have hf':t2.tooFull=d_:=by simpa using hf
    rw [hf'];simp only [KD,NX,p_,if_false];have hfl:¬ (t2.fill * 5 ≥ t2.mask * 3):=by unfold M7 at hf'; simpa using hf'
    rw [jS T2,M2] at hfl;refine j_ (h _ hsb ⟨_,_,_,t2,hg,hex,rfl,hsz2,T2,?_,hE2,hpm1,L2.trans hled,fun z _=>hbv z⟩);rw [M2];rcases hm with ⟨e,q⟩ | ⟨e,q⟩
    · exact .inl ⟨e,by omega⟩
    · exact .inr ⟨e,hn⟩
 cases hpl:(t.put j).1.plain with
 | true =>
  simp only [if_true];refine c_ (ib hx fun bv hb=>?_);refine go bv fun z=>?_;rw [hb (z k n_)];rfl
 | false =>
  simp only [p_,if_false];refine c_ (j_ ?_);exact go e_ fun _=>hpl
end
end ST
namespace ST
open PySem PySem.SetTable PyProof.Rows
section
variable {prog:rl} {w:C_} {A:D_} {R:O9→h_→Prop} {I:k_} {fp wr:List k_} {G:Array MR→Array MR→Prop} {n:Nat} {P:Nat→g_→Prop} {St:Nat→h_→Prop}
theorem TK.moved {h h':H_} {k:List Str} {a:k_} (x:TK prog w h k a) (hm:∀ o,h.get? a=a_ o→h'.get? a=a_ o):TK prog w h' k a:=by
 obtain ⟨o',items,n,ho',hc,hd',hi⟩:=x;exact ⟨o',items,n,hm _ ho',hc,hd',hi⟩
theorem SetT.moved {h h':H_} {S:k_} {ks:List (List Str)} {vs:List g_} {n:Nat} (x:SetT prog w h S ks vs n) (hS:∀ o,h.get? S=a_ o→h'.get? S=a_ o) (hm:∀ k∈ks,∀ a,TK prog w h k a→TK prog w h' k a):SetT prog w h' S ks vs n:=by
 obtain ⟨o,es,ep,t,ho,hex,hd,hsz,T,hmk,hE,hr⟩:=x;exact ⟨o,es,ep,t,hS _ ho,hex,hd,hsz,T,hmk,fun e he=>let ⟨k,a,h1,h2,h3⟩:=hE e he; ⟨k,a,h1,h2,hm k h1 a h3⟩,hr⟩
theorem y3 (W:WalksS prog w A.in1 I fp wr G n P St) (S:k_) (hSf:S ∉ fp) (hu:A.in1.units < cLine) (hwr:wr=[I]) (hI:∀ i s,St i s→∃ o vs,s.heap.get? I=a_ o∧o.data=.fields vs)
 (adr:Nat→k_) (key:Nat→List Str) (hval:∀ i v,P i v→v=.ref (adr i)) (hn:n≤18) (hdist:∀ i j,i < n→j < n→key i=key j→i=j) :
 ∀ (k i:Nat) (s:h_),n - i=k→i≤n→St i s→(∀ j,j < n→TK prog w s.heap (key j) (adr j)) →
  SetT prog w s.heap S (((pi i).map key).reverse) (((pi i).map fun j=>q_ (adr j)).reverse) i →
  (∀ s',Moved (S :: wr) G s s'→SetT prog w s'.heap S (((pi n).map key).reverse) (((pi n).map fun j=>q_ (adr j)).reverse) n→R (.ok (.ret .none)) s') →
  L4 (z_ prog w) A (.builtin "set.update.loop" ⟨[.ref S,.ref I],[]⟩) R s:=by
 have hSw:S ∉ wr:=fun h=>hSf (W.sub _ h);have hsub:∀ b∈wr,b∈S :: wr:=fun b hb=>o_ _ hb;have notI:∀ {i:Nat} {s:h_} {k:List Str} {a:k_},St i s→TK prog w s.heap k a→a ∉ wr:=fun {i s k a} hst x hm=>by
  rw [hwr,Jk] at hm;subst hm;obtain ⟨o',items,n,ho',hc,hd',hi⟩:=x;obtain ⟨o,vs,ho,hd⟩:=hI _ _ hst;rw [ho] at ho';cases ho';rw [hd] at hd';cases hd'
 intro k
 induction k with
 | zero =>
  intro i s hk hi hst hT hS hR;have hin:i=n:=by omega
  subst hin;refine Ko Ly ?_;rw [KS Kt _];show uk _ A.in1 (N8 (.ref I) >>= _) _ _ s;refine c_ (W.done s _ _ hst fun s' hm=>?_);show uk _ A.in1 (ret Js) _ _ s';exact j_ (hR s' (hm.mono hsub) (hS.moved (fun o ho=>hm.heap S _ hSw ho) fun k' _ a x=>x.moved fun o ho=>hm.heap a _ (notI hst x) ho))
 | succ k ih =>
  intro i s hk hi hst hT hS hR;have hlt:i < n:=by omega
  refine Ko Ly ?_;rw [KS Kt _];show uk _ A.in1 (N8 (.ref I) >>= _) _ _ s;refine c_ (W.item i s _ _ hlt hst fun v s' hP hst' hm=>?_);have hv:=hval i v hP;subst hv;have hT':∀ j,j < n→TK prog w s'.heap (key j) (adr j):=fun j hj=>(hT j hj).moved fun o ho=>hm.heap _ _ (notI hst (hT j hj)) ho;have hS':SetT prog w s'.heap S (((pi i).map key).reverse) (((pi i).map fun j=>q_ (adr j)).reverse) i:=hS.moved (fun o ho=>hm.heap S _ hSw ho) fun k' _ a x=>x.moved fun o ho=>hm.heap a _ (notI hst x) ho;show uk _ A.in1 (MM [q_ (adr i)] (setAdd S (.ref (adr i))) >>= _) _ _ s';refine c_ (JY ?_);unfold setAdd;refine JY ?_;refine c_ (wpAny_pyHash_tuple hu (hT' i hlt) ?_);have hnew:key i ∉ ((pi i).map key).reverse:=fun hm=>by
   rw [QI] at hm;obtain ⟨j,hj,e⟩:=Jz.mp hm;have hj':=JQ.mp hj;have:=hdist j i (by omega) hlt e;omega
  refine td (s:={ s' with toks:=s'.toks + ((key i).length + 1) }) hu hS' (hT' i hlt) hnew (by omega) fun h' hsb hS2=>?_;obtain ⟨oS,esS,epS,tS,hoS,_,hdS,_⟩:=hS';have hS3:SetT prog w h' S (((pi (i + 1)).map key).reverse) (((pi (i + 1)).map fun j=>q_ (adr j)).reverse) (i + 1):=by
   rw [OM,KY,Mm,KY,Mm];exact hS2
  refine j_ ⟨N9 Kt _,ih (i + 1) _ (by omega) hlt (W.frame _ s' _ _ hst' (by simp) fun b hb o e=>?_) (fun j hj=>(hT' j hj).keeps hoS hdS hsb) hS3 fun s'' hm'' hS''=>?_⟩
  · rw [hsb.2 b (fun h:b=S=>hSf (by rw [← h]; exact hb))]; exact e
  · refine hR s'' (Moved.trans W.gtrans ((hm.mono hsub).then_heap (by simp) fun b o hb e=>?_) hm'') hS'';rw [hsb.2 b (fun h:b=S=>hb (by rw [h]; exact n_))]; exact e
end
section
variable {prog:rl} {w:C_} {A:D_} {E:g_→h_→Prop} {s:h_}
abbrev iC (led:Bool):Obj:={ cls:=.type "set",dict:=ck,data:=.set #[] 0 (.fresh 0 0 led) }
theorem nU {h:H_} {S:k_} (e:h.get? S=a_ (iC (!byT w))):SetT prog w h S [] [] 0 :=
 ⟨_,#[],0,_,e,⟨rfl,rfl,rfl⟩,rfl,rfl,⟨rfl,rfl,HP,JA _⟩,.inl ⟨rfl,by omega⟩,(fun e he=>by simp at he),.refl _,rfl,fun _ z=>absurd rfl z⟩
theorem nV (a:g_) {Q₁:g_→h_→Prop} (h:Q₁ (.ref s.heap.objs.size) { s with heap:=s.heap.push (iC (!byT w)) }):L4 (z_ prog w) A (.call (.builtin "set.__new__") ⟨[.type "set",a],[]⟩) (wants Q₁ E) s:=by
 refine Nl ?_; show uk _ A.in1 (do checkBuiltinCall "set.__new__" ⟨[.type "set",a],[]⟩; Rm (.builtin "set.__new__" ⟨[.type "set",a],[]⟩)) _ _ s
 refine c_ (QL (F.newCall_set_1 a) (j_ ⟨N9 No _,Ko F.entry_set_new ?_⟩)); rw [KS No _];unfold Me.«set.__new__» NS; have hsub:=sub_set_self; obtain ⟨hp,g,d,tk,os⟩:=s;dsimp only; wp_walk; refine wpAny_askSetting (j_ ?_);dsimp only; simp only [newObj]; exact c_ (QO (j_ (j_ h)))
theorem tj {l:k_} {items:Array g_} {key:Nat→List Str} {adr:Nat→k_} {R:O9→h_→Prop} (hh:A.handled=ck) (hu:A.units + 8 < cLine) (hl:s.heap.IsList l items)
 (hk:∀ i,i < items.size→items[i]?=a_ (.ref (adr i))∧TK prog w s.heap (key i) (adr i)) (hn:items.size≤18) (hdist:∀ i j,i < items.size→j < items.size→key i=key j→i=j)
 (hR:∀ (h':H_) (tk:Nat),SetT prog w h' s.heap.objs.size (((pi items.size).map key).reverse) (((pi items.size).map fun j=>q_ (adr j)).reverse) items.size→(∀ b o,b < s.heap.objs.size→s.heap.get? b=a_ o→h'.get? b=a_ o)→R (.ok (.ret .none)) { s with heap:=h',toks:=tk }) :
 L4 (z_ prog w) A (.call (.builtin "set.__init__") ⟨[.ref s.heap.objs.size,.ref l],[]⟩) R { s with heap:=s.heap.push (iC (!byT w)) }:=by
 have hS:(s.heap.push (iC (!byT w))).get? s.heap.objs.size=a_ (iC (!byT w)):=s_ _ rfl;have hT:N_ { s with heap:=s.heap.push (iC (!byT w)) } (.ref s.heap.objs.size) "set":=⟨_,hS,rfl⟩;refine O1 J9.init.plain F.entry_set_init (check_set_init_1 hT ?_);obtain ⟨ol,hol,hcl,nl,hdl⟩:=hl;obtain ⟨ocls,odict,odata,oslots⟩:=ol;simp only at hcl hdl;subst hcl; subst hdl;have hol':(s.heap.push (iC (!byT w))).get? l=a_ { cls:=.type "list",dict:=odict,data:=.seq items nl,slots:=oslots }:=i_ _ hol;have s1:=F.sub_list_set;have s2:=O_;have s3:(x_ "list" == x_ "dict")=d_:=by decide
 have hl1:(s.heap.push (iC (!byT w))).IsList l items:=⟨_,hol',rfl,nl,rfl⟩;unfold Me.«set.__init__» noKeywords Nq;generalize hPI:pyIter=PI
 wp_walk
 subst hPI;refine L3 hl1 (c_ (OV ?_));have hlS:l < s.heap.objs.size:=v_ hol;have hneI:l≠(s.heap.push (iC (!byT w))).objs.size:=by rw [JE]; exact I_ (L6 hlS)
 have hSf:s.heap.objs.size ∉ [(s.heap.push (iC (!byT w))).objs.size,l]:=by
  rw [JE];simp only [w_,Jl,or_false,not_or];exact ⟨I_ (M9 _),LO hlS⟩
 have up:∀ {k:List Str} {a:k_},TK prog w s.heap k a→TK prog w ((s.heap.push (iC (!byT w))).push { cls:=.type "list_iterator",data:=.fields #[.ref l,.int 0 0] }) k a:=fun x=>x.moved fun o e=>i_ _ (i_ _ e);refine y3 ((PV (by simp [hh]) _ l hneI items).toS) s.heap.objs.size hSf (by show A.units + 1 + 1 < cLine; omega) rfl (fun i s' st=>by
  obtain ⟨⟨o,ho,_,hd⟩,_⟩:=st;exact ⟨o,_,ho,hd⟩) adr key (fun i v hv=>?_) hn hdist (items.size - 0) 0 _ (by omega) (JA _) ⟨⟨_,s_ _ rfl,rfl,rfl⟩,(hl1.push _)⟩ (fun j hj=>up (hk j hj).2) ?_ ?_
 · have hi:i < items.size:=(JR.mp hv).1;have:=(hk i hi).1;rw [this] at hv;exact (Jp hv).symm
 · exact nU (i_ _ hS)
 · intro s' hm hS';obtain ⟨h',g',d',tk',os'⟩:=s';have eg:g'=s.gens:=hm.gens;have ed:d'=s.drawn:=hm.drawn;have eo:os'=s.os:=hm.os;subst eg; subst ed; subst eo;show uk _ _ _ _ _ _;refine j_ ?_;show uk _ _ (ret Js) _ _ _;refine j_ (hR h' tk' hS' fun b o hb e=>?_);have hb1:b≠s.heap.objs.size:=I_ hb;have hb2:b≠(s.heap.push (iC (!byT w))).objs.size:=by rw [JE]; exact I_ (L6 hb)
   exact hm.heap b o (by simp only [w_,Jl,or_false,not_or]; exact ⟨hb1,hb2⟩) (i_ _ (i_ _ e))
theorem call_set_T {l:k_} {items:Array g_} {key:Nat→List Str} {adr:Nat→k_} {Q:g_→h_→Prop} (hh:A.handled=ck) (hu:A.units + 16 < cLine) (hl:s.heap.IsList l items)
 (hk:∀ i,i < items.size→items[i]?=a_ (.ref (adr i))∧TK prog w s.heap (key i) (adr i)) (hn:items.size≤18) (hdist:∀ i j,i < items.size→j < items.size→key i=key j→i=j)
 (h:∀ (h':H_) (tk:Nat),SetT prog w h' s.heap.objs.size (((pi items.size).map key).reverse) (((pi items.size).map fun j=>q_ (adr j)).reverse) items.size→(∀ b o,b < s.heap.objs.size→s.heap.get? b=a_ o→h'.get? b=a_ o)→Q (.ref s.heap.objs.size) { s with heap:=h',toks:=tk }) :
 uk (z_ prog w) A (call (.type "set") [.ref l]) Q E s:=by
 obtain ⟨c,tl,hmro⟩:=J9.mro;have hmade:=J9.made;have hsub:=J9.sub;refine PU (Nl ?_);show uk _ _ (callAny (.type "set") _) _ _ _;refine j_ ⟨NO _ (by decide +kernel),Ko F.entry_type_call ?_⟩;rw [P6 (OQ "set" [.ref l] []) rfl];have h1:=J9.notType;have h2:=J9.canCreate;have hct:=F.typeCall_set_1 (.ref l)
 repeat (any_goals (first | assumption | wp_step))
 refine LG (nV (.ref l) (E:=E) (Q₁:=fun obj s₁=>obj=.ref s.heap.objs.size∧s₁={ s with heap:=s.heap.push (iC (!byT w)) }) ⟨rfl,rfl⟩) fun r s₁ hr=>?_;cases r with
 | error e=>exact hr
 | ok fl =>
  cases fl with
  | ret obj =>
   obtain ⟨rfl,rfl⟩:=hr;have hT:N_ { s with heap:=s.heap.push (iC (!byT w)) } (.ref s.heap.objs.size) "set":=⟨_,s_ _ rfl,rfl⟩;have hli:=J9.init.lookup;have hbi:=J9.init.bind (.ref s.heap.objs.size)
   repeat (any_goals (first | assumption | wp_step))
   refine LG (tj (R:=wants (fun r s₂=>r=.none∧∃ h' tk,s₂={ s with heap:=h',toks:=tk }∧SetT prog w h' s.heap.objs.size (((pi items.size).map key).reverse) (((pi items.size).map fun j=>q_ (adr j)).reverse) items.size ∧
    (∀ b o,b < s.heap.objs.size→s.heap.get? b=a_ o→h'.get? b=a_ o)) E) (by simp [hh]) (by show A.units + 1 + 8 < cLine; omega) hl hk hn hdist fun h' tk q1 q2=>⟨rfl,h',tk,rfl,q1,q2⟩) fun r₂ s₂ hr₂=>?_
   cases r₂ with
   | error e=>exact hr₂
   | ok fl₂ =>
    cases fl₂ with
    | ret r =>
     obtain ⟨rfl,h',tk,rfl,hS',hk'⟩:=hr₂
     repeat (any_goals (first | assumption | wp_step))
     exact h _ _ hS' hk'
    | _=>exact hr₂.elim
  | _=>exact hr.elim
theorem len_T {S:k_} {ks:List (List Str)} {vs:List g_} {n:Nat} {Q:g_→h_→Prop} (hS:SetT prog w s.heap S ks vs n) (hn:n≤18) (h:∀ t tk,Q (.int n t) { s with toks:=tk }):uk (z_ prog w) A (call (.builtin "len") [.ref S]) Q E s:=by
 obtain ⟨o,es,ep,t,ho,hex,hd,hsz,T,hm,hE,hr⟩:=hS;subst hsz;exact call_len_set ho hex hd (fI T) (P8 (show ((es.size:Nat):Int)≤18 by omega) (by decide)) (h _ _)
end
end ST
namespace FD
open PySem PySem.Spec PyProof.Rows L2
section
variable {X:Cx} {j':List (k_×Obj)} {σ:L2.St} {H:Hp} {s:h_}
theorem qr {α:Type} {ks:List α} {d:α} (h:ks.Nodup) {i j:Nat} (hi:i < ks.length) (hj:j < ks.length) (e:ks.getD i d=ks.getD j d):i=j:=by
 rw [Mc,Mc,B_ hi,B_ hj] at e;exact (QJ h).mp (by simpa using e)
end
section
variable {X:Cx} {p p2 pos pos2:Pos} {e:F_} {ga:FnA}
end
section
variable {X:Cx}
end
def frs {α:Type} (P:α→Bool):Sem α→Bool
 | .pure a=>P a
 | .fresh _=>e_
 | .at _ k=>frs P (k ())
 | .rule _ k=>frs P (k ())
 | .point _ k=>frs P (k ())
 | _=>d_
structure FE1 (X:Cx) (e:F_) (f:FnE):Prop where
 h:∀ (j':List (k_×Obj)) (s:h_) (σ:L2.St) (H:Hp) (Q:VK),1≤s.toks→Inv X j' σ H s→tF X f σ H Q→uk (z_ X.prog X.w) X.A (eval e X.env) (EP X j' σ Q) X.xe s
structure FT1 (X:Cx) (e:F_) (f:FnB):Prop where
 h:∀ (j':List (k_×Obj)) (s:h_) (σ:L2.St) (H:Hp) (Q:Bool→Hp→Prop),1≤s.toks→Inv X j' σ H s→tT X f σ H Q→uk (z_ X.prog X.w) X.A (isTrue e X.env (eval e X.env)) (TP X j' σ Q) X.xe s
structure FW1 (X:Cx) (e:F_) (f:FnB):Prop where
 h:∀ (whole:Sem g_) (j':List (k_×Obj)) (s:h_) (σ:L2.St) (H:Hp) (Q:Bool→Hp→Prop),1≤s.toks→Inv X j' σ H s→tT X f σ H Q→uk (z_ X.prog X.w) X.A (isTrue e X.env whole) (TP X j' σ Q) X.xe s
structure FS1 (X:Cx) (st:Ky) (f:FnS):Prop where
 h:∀ (j':List (k_×Obj)) (s:h_) (σ:L2.St) (H:Hp) (D:qR),1≤s.toks→Inv X j' σ H s→tS X f D σ H→uk (z_ X.prog X.w) X.A (exec st X.env) (SP X j' D) X.xe s
structure Jh (X:Cx) (st:List Ky) (f:FnS):Prop where
 h:∀ (j':List (k_×Obj)) (s:h_) (σ:L2.St) (H:Hp) (D:qR),1≤s.toks→Inv X j' σ H s→tS X f D σ H→uk (z_ X.prog X.w) X.A (execs st X.env) (SP X j' D) X.xe s
structure FTg (X:Cx) (e:F_) (f:FnB):Prop where
 h:∀ (j':List (k_×Obj)) (s:h_) (σ:L2.St) (H:Hp) (Q:Bool→Hp→Prop),Inv X j' σ H s→tT X f σ H Q→uk (z_ X.prog X.w) X.A (isTrue e X.env (eval e X.env)) (fun b s'=>(b=e_∨1≤s'.toks)∧TP X j' σ Q b s') X.xe s
structure FWg (X:Cx) (e:F_) (f:FnB):Prop where
 h:∀ (whole:Sem g_) (j':List (k_×Obj)) (s:h_) (σ:L2.St) (H:Hp) (Q:Bool→Hp→Prop),Inv X j' σ H s→tT X f σ H Q→uk (z_ X.prog X.w) X.A (isTrue e X.env whole) (fun b s'=>(b=e_∨1≤s'.toks)∧TP X j' σ Q b s') X.xe s
def Cy:Flow→Bool
 | .next=>e_
 | _=>d_
structure FSg (X:Cx) (st:Ky) (f:FnS):Prop where
 h:∀ (j':List (k_×Obj)) (s:h_) (σ:L2.St) (H:Hp) (D:qR),Inv X j' σ H s→tS X f D σ H→uk (z_ X.prog X.w) X.A (exec st X.env) (fun fl s'=>(Cy fl=d_∨1≤s'.toks)∧SP X j' D fl s') X.xe s
section
variable {X:Cx} {a b o e:F_} {fa fo:FnE} {ga gb:FnB} {f g:FnS} {rest:List F_} {st:Ky} {sts as bs:List Ky} {pos apos cpos:Pos}
theorem FWg.ft (h:FWg X e ga):FTg X e ga:=⟨h.h _⟩
end
section
variable {prog:rl} {w:C_} {A:D_} {E:g_→h_→Prop} {s:h_}
theorem kx {iv tv:k_} {k:Nat} {vs:Array g_} {v:g_} {Q:g_→h_→Prop} (gi:s.heap.IsTupleIter iv tv k) (gt:s.heap.IsTuple tv vs) (gv:vs[k]?=a_ v)
 (q:∀ h',h'.IsTupleIter iv tv (k + 1)→Lh iv s.heap h'→Q v { s with heap:=h' }):uk (z_ prog w) A (J8 (.ref iv)) Q E s:=by
 obtain ⟨ob,o1,o2,o3⟩:=id gi; obtain ⟨tb,t1,_,m,t2⟩:=gt;unfold J8;refine c_ (Kr (name:=b_ "__next__") gi.typeIs K6 (Lv K6 gi.typeIs Ny ?_ (Np _)));show uk _ _ (Q4 (.ref iv) 0 >>= _) _ _ s; refine c_ (Ke o1 o3 (x:=.ref tv) rfl ?_);show uk _ _ (if (q_ tv == Js)=e_ then _ else _) _ _ s; rw [if_neg (show ¬ ((q_ tv == Js)=e_) from xy)];show uk _ _ (Q4 (.ref iv) 1 >>= _) _ _ s; refine c_ (Ke o1 o3 (x:=.int k 0) rfl ?_);show uk _ _ (seqItems? (.ref tv) >>= _) _ _ s; refine c_ (Kl t1 t2 ?_); simp only [Qm,gv];refine c_ (wpAny_setField o1 o3 (by simp) (j_ ⟨v,rfl,j_ (q _ ⟨_,LY _ o1 (Obj.isFreed_of_fields (PZ o3 _)),(Obj.cls_mapFields ..).trans o2,by rw [PZ o3]; simp [Ot]⟩ (K0 ..))⟩))
theorem tq {iv tv:k_} {k:Nat} {vs:Array g_} {Q:g_→h_→Prop} (hh:A.handled=ck) (gi:s.heap.IsTupleIter iv tv k) (gt:s.heap.IsTuple tv vs) (gv:vs[k]?=ck)
 (q:∀ h' e,Heap.ExtBut iv s.heap h'→(∃ o,h'.get? e=a_ o∧o.cls=.type "StopIteration")→E (.ref e) { s with heap:=h' }):uk (z_ prog w) A (J8 (.ref iv)) Q E s:=by
 obtain ⟨ob,o1,o2,o3⟩:=id gi; obtain ⟨tb,t1,_,m,t2⟩:=gt;unfold J8;refine c_ (Kr (name:=b_ "__next__") gi.typeIs K6 (Lv K6 gi.typeIs Ny ?_ (Np _)));show uk _ _ (Q4 (.ref iv) 0 >>= _) _ _ s; refine c_ (Ke o1 o3 (x:=.ref tv) rfl ?_);show uk _ _ (if (q_ tv == Js)=e_ then _ else _) _ _ s; rw [if_neg (show ¬ ((q_ tv == Js)=e_) from xy)];show uk _ _ (Q4 (.ref iv) 1 >>= _) _ _ s; refine c_ (Ke o1 o3 (x:=.int k 0) rfl ?_);show uk _ _ (seqItems? (.ref tv) >>= _) _ _ s; refine c_ (Kl t1 t2 ?_); simp only [Qm,gv];refine c_ (M4 (c_ (wpAny_setField o1 o3 (by simp) ?_)));show uk _ _ (newExc (.type "StopIteration") [] >>= _) _ _ _; refine c_ ?_; simp only [newExc,newTuple]; refine c_ (KU ?_ (by size_fits));refine c_ (m:=firstArgMember _ _) (QL (a:=Js) (by first | rfl | (simp only [firstArgMember]; rfl)) ?_); refine KU ?_ (by size_fits); simp only [raiseNew]
 refine c_ (wpAny_handled ?_); first | rw [show A.in1.handled=ck from hh] | rw [hh]
 exact c_ (j_ (wpAny_throw (q _ _ (((K0 ..).extBut.push _).push _) ⟨_,s_ _ rfl,rfl⟩)))
theorem tw {z TI TO i1 i2 l1 l2:k_} {k:Nat} {xs ys:Array g_} {x y a b:g_} {Q:Option g_→h_→Prop} (D:Q9 z TI TO i1 i2 l1 l2)
 (hz:OK s.heap z TI TO .none) (hTI:Mj s.heap TI (.ref i1) (.ref i2)) (hTO:Mj s.heap TO a b)
 (j1:s.heap.IsTupleIter i1 l1 k) (j2:s.heap.IsTupleIter i2 l2 k) (m1:s.heap.IsTuple l1 xs) (m2:s.heap.IsTuple l2 ys) (hx:xs[k]?=a_ x) (hy:ys[k]?=a_ y)
 (q:∀ h',OK h' z TI TO (Ot s.heap.objs.size)→Mj h' TO x y→h'.IsTupleIter i1 l1 (k + 1)→h'.IsTupleIter i2 l2 (k + 1)→Mj h' s.heap.objs.size x y→h'.objs.size=s.heap.objs.size + 1 →
   (∀ c o,c≠z→c≠TO→c≠i1→c≠i2→s.heap.get? c=a_ o→h'.get? c=a_ o)→Q (a_ (.ref s.heap.objs.size)) { s with heap:=h' }) :
 uk (z_ prog w) A (N8 (.ref z)) Q E s:=by
 have ty:s.TypeIs (.ref z) "zip":=⟨_,hz,rfl⟩;unfold N8; refine c_ (N7 (Kr (name:=b_ "__next__") ty Nn (Lv Nn ty F.entry_zip_next ?_ (F.args_zip_next_1 _))));show uk _ _ (Q4 (.ref z) 2 >>= _) _ _ s; refine c_ (Ke hz rfl (x:=.bool d_) rfl ?_); show uk _ _ (Q4 (.ref z) 3 >>= _) _ _ s;refine c_ (Ke hz rfl (x:=.ref TI) rfl ?_); refine c_ (Kl hTI rfl ?_); show uk _ _ (Km (.ref z) >>= _) _ _ s;refine c_ ?_; unfold Km; refine c_ (Ke hz rfl (x:=.none) rfl (j_ ?_)); simp only [if_true]; refine c_ (M4 ?_);refine c_ (Ke hz rfl (x:=.ref TO) rfl ?_); refine c_ (LF hz (by simp) fun hA zA sA=>?_);have zA':OK hA z TI TO .ellipsis:=zA;refine c_ ?_; simp only [QH,QW,ON,NW]; refine c_ (c_ (PF ?_));show uk _ _ (J8 (.ref i1) >>= _) _ _ _; refine c_ (kx (j1.extBut sA.extBut D.i1z) (m1.extBut sA.extBut D.l1z) hx fun hB jB sB=>j_ ?_);have tB:Mj hB TO a b:=sB.extBut _ _ D.TOi1 (sA.extBut _ _ D.TOz hTO);refine c_ (Kl tB rfl ?_); refine c_ (OU tB fun hC tC sC=>?_);have tC':Mj hC TO x b:=tC;refine c_ (QN (j_ ?_)); refine c_ (c_ (PF ?_)); show uk _ _ (J8 (.ref i2) >>= _) _ _ _;refine c_ (kx (((j2.extBut sA.extBut D.i2z).extBut sB.extBut D.i12.symm).extBut sC.extBut D.TOi2.symm) (((m2.extBut sA.extBut D.l2z).extBut sB.extBut D.l2i1).extBut sC.extBut D.l2TO) hy fun hD jD sD=>j_ ?_);have tD:Mj hD TO x b:=sD.extBut _ _ D.TOi2 tC';refine c_ (Kl tD rfl ?_); refine c_ (OU tD fun hF tF sF=>?_);have tF':Mj hF TO x y:=tF;refine c_ (QN (j_ (j_ ?_))); refine c_ (Kl tF' rfl ?_); refine c_ (wpAny_newTuple ?_);have n5:hF.objs.size=s.heap.objs.size:=by rw [sF.1,sD.1,sC.1,sB.1,sA.1]
 have z5:OK hF z TI TO .ellipsis:=sF.extBut _ _ D.TOz.symm (sD.extBut _ _ D.i2z.symm (sC.extBut _ _ D.TOz.symm (sB.extBut _ _ D.i1z.symm zA')));have k5:∀ c o,c≠z→c≠TO→c≠i1→c≠i2→s.heap.get? c=a_ o→hF.get? c=a_ o:=fun c o c1 c2 c3 c4 g=>sF.extBut _ _ c2 (sD.extBut _ _ c4 (sC.extBut _ _ c2 (sB.extBut _ _ c3 (sA.extBut _ _ c1 g))));have p1:hF.IsTupleIter i1 l1 (k + 1):=((jB.extBut sC.extBut D.TOi1.symm).extBut sD.extBut D.i12).extBut sF.extBut D.TOi1.symm;have p2:hF.IsTupleIter i2 l2 (k + 1):=jD.extBut sF.extBut D.TOi2.symm;have nz:z < hF.objs.size:=v_ z5;show uk _ _ (Ml (.ref z) (.ref hF.objs.size) >>= _) _ _ _; refine c_ ?_; unfold Ml;have z6:OK (hF.push { cls:=.type "tuple",data:=.seq #[x,y] }) z TI TO .ellipsis:=i_ _ z5;refine c_ (LF z6 (by simp) fun hG zG sG=>?_);have zG':OK hG z TI TO (Ot hF.objs.size):=zG;refine LF zG' (by simp) fun hH zH sH=>?_;have zH':OK hH z TI TO (Ot hF.objs.size):=zH;have up:∀ c o,c≠z→hF.get? c=a_ o→hH.get? c=a_ o:=fun c o c1 g=>sH.extBut _ _ c1 (sG.extBut _ _ c1 (i_ _ g));have pr:Mj hH hF.objs.size x y:=sH.extBut _ _ (LO nz) (sG.extBut _ _ (LO nz) (s_ _ rfl));have n8:hH.objs.size=hF.objs.size + 1:=by rw [sH.1,sG.1,JE]
 rw [n5] at zH' pr n8;refine j_ ⟨_,rfl,j_ ?_⟩;show Q (a_ (.ref hF.objs.size)) _; rw [n5];exact q hH zH' (up _ _ D.TOz tF') (p1.at fun o g=>up _ o D.i1z g) (p2.at fun o g=>up _ o D.i2z g) pr n8 fun c o c1 c2 c3 c4 g=>up c o c1 (k5 c o c1 c2 c3 c4 g)
theorem vQ {z TI TO i1 i2 l1 l2:k_} {k:Nat} {xs:Array g_} {a b:g_} {Q:Option g_→h_→Prop} (hh:A.handled=ck) (D:Q9 z TI TO i1 i2 l1 l2)
 (hz:OK s.heap z TI TO .none) (hTI:Mj s.heap TI (.ref i1) (.ref i2)) (hTO:Mj s.heap TO a b)
 (j1:s.heap.IsTupleIter i1 l1 k) (m1:s.heap.IsTuple l1 xs) (hx:xs[k]?=ck)
 (q:∀ h',(∀ c o,c≠z→c≠TO→c≠i1→c≠i2→s.heap.get? c=a_ o→h'.get? c=a_ o)→Q ck { s with heap:=h' }):uk (z_ prog w) A (N8 (.ref z)) Q E s:=by
 have ty:s.TypeIs (.ref z) "zip":=⟨_,hz,rfl⟩;unfold N8; refine c_ (N7 (Kr (name:=b_ "__next__") ty Nn (Lv Nn ty F.entry_zip_next ?_ (F.args_zip_next_1 _))));show uk _ _ (Q4 (.ref z) 2 >>= _) _ _ s; refine c_ (Ke hz rfl (x:=.bool d_) rfl ?_); show uk _ _ (Q4 (.ref z) 3 >>= _) _ _ s;refine c_ (Ke hz rfl (x:=.ref TI) rfl ?_); refine c_ (Kl hTI rfl ?_); show uk _ _ (Km (.ref z) >>= _) _ _ s;refine c_ ?_; unfold Km; refine c_ (Ke hz rfl (x:=.none) rfl (j_ ?_)); simp only [if_true]; refine c_ (M4 ?_);refine c_ (Ke hz rfl (x:=.ref TO) rfl ?_); refine c_ (LF hz (by simp) fun hA zA sA=>?_);have zA':OK hA z TI TO .ellipsis:=zA;refine c_ ?_; simp only [QH,QW,ON,NW]; refine c_ (c_ (PF ?_));show uk _ _ (J8 (.ref i1) >>= _) _ _ _;refine c_ (tq hh (j1.extBut sA.extBut D.i1z) (m1.extBut sA.extBut D.l1z) hx fun hB e sB he=>?_);obtain ⟨oe,g1,g2⟩:=he;have zB:OK hB z TI TO .ellipsis:=sB _ _ D.i1z.symm zA';have ne:e≠z:=fun g=>by subst g; rw [zB] at g1; cases g1; simp at g2
 refine LF zB (by simp) fun hC _ sC=>?_;refine c_ (wpAny_isInstance (T:="StopIteration") (b:=e_) ⟨oe,sC.extBut _ _ ne g1,g2⟩ isSubtype_stop (j_ (q hC fun c o c1 _ c3 _ g=>sC.extBut _ _ c1 (sB _ _ c3 (sA.extBut _ _ c1 g)))))
end
abbrev zq1 (h:H_) (l1:k_):H_:=h.push { cls:=.type "tuple_iterator",data:=.fields #[.ref l1,.int 0 0] }
abbrev zq2 (h:H_) (l1 l2:k_):H_:=(zq1 h l1).push { cls:=.type "tuple_iterator",data:=.fields #[.ref l2,.int 0 0] }
abbrev zq3 (h:H_) (l1 l2:k_):H_:=(zq2 h l1 l2).push { cls:=.type "tuple",data:=.seq #[.ref h.objs.size,.ref (zq1 h l1).objs.size] }
abbrev zq4 (h:H_) (l1 l2:k_):H_:=(zq3 h l1 l2).push { cls:=.type "tuple",data:=.seq #[.none,.none] }
abbrev zq5 (h:H_) (l1 l2:k_):H_:=(zq4 h l1 l2).push { cls:=.type "zip",data:=.fields #[.none,.bool d_,.bool d_,.ref (zq2 h l1 l2).objs.size,.ref (zq3 h l1 l2).objs.size] }
theorem vR (l1 l2:k_) (xs ys:Array g_) :
 Meets (Me.«zip.__new__» ⟨[.type "zip",.ref l1,.ref l2],[]⟩) (fun _ R s=>s.heap.IsTuple l1 xs∧s.heap.IsTuple l2 ys∧R (.ok (.ret (.ref (zq4 s.heap l1 l2).objs.size))) { s with heap:=zq5 s.heap l1 l2 }) :=
 .of_wp fun prog w A R s h=>by
  obtain ⟨hp,g,d,tk,os⟩:=s; obtain ⟨m1,m2,h⟩:=h;have hsub:=sub_zip;have t1:Heap.IsTuple (Shared.heap ⟨hp,g,d,tk,os⟩) l1 xs:=m1;have t2:Heap.IsTuple (Shared.heap ⟨hp.push { cls:=.type "tuple_iterator",data:=.fields #[.ref l1,.int 0 0] },g,d,tk,os⟩) l2 ys:=Heap.IsTuple.push m2 _
  wp_walk using NG t1,NG t2
  exact ⟨_,rfl,h⟩
section
variable {prog:rl} {w:C_} {A:D_} {E:g_→h_→Prop} {s:h_}
theorem tx {l1 l2:k_} {xs ys:Array g_} {Q:g_→h_→Prop} (m1:s.heap.IsTuple l1 xs) (m2:s.heap.IsTuple l2 ys)
 (q:∀ h',OK h' (s.heap.objs.size + 4) (s.heap.objs.size + 2) (s.heap.objs.size + 3) .none→Mj h' (s.heap.objs.size + 2) (.ref s.heap.objs.size) (.ref (s.heap.objs.size + 1)) →
   Mj h' (s.heap.objs.size + 3) .none .none→h'.IsTupleIter s.heap.objs.size l1 0→h'.IsTupleIter (s.heap.objs.size + 1) l2 0→h'.objs.size=s.heap.objs.size + 5 →
   (∀ c o,s.heap.get? c=a_ o→h'.get? c=a_ o)→Q (.ref (s.heap.objs.size + 4)) { s with heap:=h' }) :
 uk (z_ prog w) A (call (.type "zip") [.ref l1,.ref l2]) Q E s:=by
 refine callType_new F.called_zip (by decide) (F.typeCall_zip_2 _ _) (F.newCall_zip_2 _ _) (fun obj=>F.args_object_init_3 obj _ _) F.entry_zip_new (vR l1 l2 xs ys) ⟨m1,m2,?_⟩;have n1:(zq1 s.heap l1).objs.size=s.heap.objs.size + 1:=JE ..;have n2:(zq2 s.heap l1 l2).objs.size=s.heap.objs.size + 2:=by rw [JE,n1]
 have n3:(zq3 s.heap l1 l2).objs.size=s.heap.objs.size + 3:=by rw [JE,n2]
 have n4:(zq4 s.heap l1 l2).objs.size=s.heap.objs.size + 4:=by rw [JE,n3]
 have n5:(zq5 s.heap l1 l2).objs.size=s.heap.objs.size + 5:=by rw [JE,n4]
 have P:=@i_;have g5:(zq5 s.heap l1 l2).get? (zq4 s.heap l1 l2).objs.size=a_ _:=s_ _ rfl;have g4:(zq5 s.heap l1 l2).get? (zq3 s.heap l1 l2).objs.size=a_ _:=i_ _ (s_ _ rfl);have g3:(zq5 s.heap l1 l2).get? (zq2 s.heap l1 l2).objs.size=a_ _:=i_ _ (i_ _ (s_ _ rfl));have g2:(zq5 s.heap l1 l2).get? (zq1 s.heap l1).objs.size=a_ _:=i_ _ (i_ _ (i_ _ (s_ _ rfl)));have g1:(zq5 s.heap l1 l2).get? s.heap.objs.size=a_ _:=i_ _ (i_ _ (i_ _ (i_ _ (s_ _ rfl))));show _∧_;rw [n2,n3,n4] at g5; rw [n1,n2] at g3; rw [n3] at g4; rw [n1] at g2; rw [n4];exact ⟨⟨_,g5,rfl⟩,q _ g5 g3 g4 ⟨_,g1,rfl,rfl⟩ ⟨_,g2,rfl,rfl⟩ n5 fun c o g=>i_ _ (i_ _ (i_ _ (i_ _ (i_ _ g))))⟩
end
def Itz (a b:k_):It :=
 ⟨fun i H=>∃ xs ys x y,H a=a_ (.tup xs)∧H b=a_ (.tup ys)∧xs[i]?=a_ x∧ys[i]?=a_ y,
  fun i H v H'=>∃ p x y,v=.ref p∧H p=ck∧H'=upd H p (.tup [x,y])∧(∀ xs,H a=a_ (.tup xs)→xs[i]?=a_ x)∧(∀ ys,H b=a_ (.tup ys)→ys[i]?=a_ y),
  fun i H=>∃ xs ys,H a=a_ (.tup xs)∧H b=a_ (.tup ys)∧xs.length≤i⟩
structure ZSt (z TI TO i1 i2 a b:k_) (i:Nat) (h:H_):Prop where
 z:OK h z TI TO .none
 ti:Mj h TI (.ref i1) (.ref i2)
 to:∃ p q,Mj h TO p q
 j1:h.IsTupleIter i1 a i
 j2:h.IsTupleIter i2 b i
structure ZNe (z TI TO i1 i2:k_):Prop where
 n1:TI≠z
 n2:TO≠z
 n3:i1≠z
 n4:i2≠z
 n5:TI≠TO
 n6:TI≠i1
 n7:TI≠i2
 n8:TO≠i1
 n9:TO≠i2
 n10:i1≠i2
theorem Gj {z TI TO i1 i2 c:k_} (h:c∈[z,TI,TO,i1,i2]):c=z∨c=TI∨c=TO∨c=i1∨c=i2:=by simpa using h
theorem vS {P:rl} {w:C_} {K:f_} {es:List F_} {k:Nat} {pos:Pos} (a b z TI TO i1 i2:k_) (N:ZNe z TI TO i1 i2):u8 P w K (.Tuple es k pos) (Itz a b) [z,TI,TO,i1,i2] z (fun i h=>ZSt z TI TO i1 i2 a b i h) where
 mem:=by simp
 obj:=fun i h st c hc=>by
  obtain ⟨p,q,g3⟩:=st.to;rcases Gj hc with rfl | rfl | rfl | rfl | rfl
  · exact ⟨_,st.z,fun v g=>by cases g⟩
  · exact ⟨_,st.ti,fun v g=>by cases g⟩
  · exact ⟨_,g3,fun v g=>by cases g⟩
  · obtain ⟨o,e,_,d⟩:=st.j1;exact ⟨o,e,fun v g=>by rw [d] at g; cases g⟩
  · obtain ⟨o,e,_,d⟩:=st.j2;exact ⟨o,e,fun v g=>by rw [d] at g; cases g⟩
 keep:=fun i h h' st kk=>by
  obtain ⟨p,q,g3⟩:=st.to;exact ⟨kk z (by simp) _ st.z,kk TI (by simp) _ st.ti,⟨p,q,kk TO (by simp) _ g3⟩,st.j1.at fun o e=>kk i1 (by simp) o e,st.j2.at fun o e=>kk i2 (by simp) o e⟩
 item:=by
  intro X hP hw hK hc i j' s σ H E I hf st hg;subst hP hw hK;obtain ⟨xs,ys,x,y,ha,hb,hx,hy⟩:=hg;obtain ⟨its,rv,p,_⟩:=I.tuple (SqT.of ha);obtain ⟨jts,sv,p',_⟩:=I.tuple (SqT.of hb);obtain ⟨u,hu,ru⟩:=rv.get hx;obtain ⟨v,hv,rw'⟩:=sv.get hy;obtain ⟨q1,q2,hTO⟩:=st.to;have F:∀ c∈[z,TI,TO,i1,i2],ni X j' H c:=hf;have fr:∀ c∈[z,TI,TO,i1,i2],H c=ck:=fun c m=>(hf c m).1;have an:∀ c∈[z,TI,TO,i1,i2],a≠c:=fun c m g=>by rw [g,fr c m] at ha; cases ha
  have bn:∀ c∈[z,TI,TO,i1,i2],b≠c:=fun c m g=>by rw [g,fr c m] at hb; cases hb
  have D:Q9 z TI TO i1 i2 a b:=⟨N.n1,N.n2,N.n3,N.n4,N.n5,N.n6,N.n7,N.n8,N.n9,N.n10,an z (by simp),an TO (by simp),an i1 (by simp),an i2 (by simp),bn z (by simp),bn TO (by simp),bn i1 (by simp),bn i2 (by simp)⟩;refine tw D st.z st.ti hTO st.j1 st.j2 (show s.heap.IsTuple a its.toArray from p) (show s.heap.IsTuple b jts.toArray from p') (x:=u) (y:=v) (by simpa using hu) (by simpa using hv) fun h' a1 a2 a3 a4 a5 a6 kk=>?_;refine ⟨_,rfl,wpAny_letOwnedTupleGo_zip a1 fun h2 z2 sb2=>?_⟩;have hp:H s.heap.objs.size=ck:=I.hok.fresh (r_ _);have zlt:z < s.heap.objs.size:=v_ st.z;have k2:∀ c o,c ∉ [z,TO,i1,i2]→s.heap.get? c=a_ o→h2.get? c=a_ o:=fun c o hc' q=>sb2.extBut c o (fun g=>hc' (by simp [g])) (kk c o (fun g=>hc' (by simp [g])) (fun g=>hc' (by simp [g])) (fun g=>hc' (by simp [g])) (fun g=>hc' (by simp [g])) q);have tp2:h2.get? s.heap.objs.size=a_ { cls:=.type "tuple",data:=.seq #[u,v] }:=sb2.extBut _ _ (LO zlt) a5;have sub:∀ c,c∈[z,TO,i1,i2]→c∈[z,TI,TO,i1,i2]:=fun c m=>by
   have m':c=z∨c=TO∨c=i1∨c=i2:=by simpa using m
   rcases m' with rfl | rfl | rfl | rfl <;> simp
  have I1:Inv X j' σ (upd H s.heap.objs.size (.tup [x,y])) { s with heap:=h2 }:=by
   have nt:∀ c o,H c=a_ o→c ∉ [z,TO,i1,i2]:=fun c o q m=>by rw [fr c (sub c m)] at q; cases q
   refine I.step (g':=s.gens) (d':=s.drawn) (t':=s.toks) (ch:=[z,TO,i1,i2]) (fun c m=>?_) (fun c o _ _ hcb q _=>k2 c o hcb q) (fun c o _ _ hcb q _=>⟨o.slots,k2 c o hcb q⟩) (fun c o hcb q n=>?_) (fun c o hcb q=>⟨o,k2 c o hcb q⟩)
    (fun c zs q=>by rw [av (aq q hp)]; exact q) (fun c o zs q=>by rw [av (aq q hp)]; exact q) (fun c ps q=>⟨#[],by rw [av (aq q hp),q]; simp⟩) (fun m hm=>?_) (fun c o2 q=>?_) I.bare
   · obtain ⟨f0,f1,f2,f3,f4,f5⟩:=hf c (sub c m);exact ⟨f3,f1,f4,f5⟩
   · rw [av (I_ (v_ q))]; exact n
   · obtain ⟨o,es',ep,ho,r⟩:=hm;exact ⟨o,es',ep,k2 _ o (fun m=>(hf _ (sub _ m)).2.1 rfl) ho,r⟩
   · by_cases hcs:c=s.heap.objs.size
     · subst hcs;rw [ax] at q;cases q;exact ⟨by show 2≤sizeLine; decide,[u,v],.cons ru (.cons rw' .nil),⟨_,tp2,rfl,_,rfl⟩⟩
     · rw [av hcs] at q;refine (I.hok c o2 q).stay (fun e v' hcv qq=>k2 e v' ?_ qq) (fun e qq=>by rw [av (aq qq hp)]; exact qq) fun e zs qq=>by rw [av (aq qq hp)]; exact qq
       rcases hcv with rfl | hcv
       · exact nt _ _ q
       · exact nt _ _ hcv
  refine ⟨.ref s.heap.objs.size,_,I1,rfl,⟨_,x,y,rfl,hp,rfl,fun zs hz'=>?_,fun zs hz'=>?_⟩,⟨z2,?_,⟨_,_,sb2.extBut _ _ N.n2 a2⟩,a3.at fun o q=>sb2.extBut _ _ N.n3 q,a4.at fun o q=>sb2.extBut _ _ N.n4 q⟩,fun c m=>?_⟩
  · rw [ha] at hz'; cases hz'; exact hx
  · rw [hb] at hz'; cases hz'; exact hy
  · exact sb2.extBut _ _ N.n1 (kk _ _ N.n1 N.n5 N.n6 N.n7 st.ti)
  · have lt:c < s.heap.objs.size:=by
     rcases Gj m with rfl | rfl | rfl | rfl | rfl
     · exact zlt
     · exact v_ st.ti
     · exact v_ hTO
     · obtain ⟨_,e,_⟩:=st.j1; exact v_ e
     · obtain ⟨_,e,_⟩:=st.j2; exact v_ e
    rw [av (I_ lt)]; exact fr c m
 done:=by
  intro X hP hw hK hc i j' s σ H E I hf st hg;subst hP hw hK;obtain ⟨xs,ys,ha,hb,hl⟩:=hg;obtain ⟨its,rv,p,_⟩:=I.tuple (SqT.of ha);obtain ⟨q1,q2,hTO⟩:=st.to;have fr:∀ c∈[z,TI,TO,i1,i2],H c=ck:=fun c m=>(hf c m).1;have an:∀ c∈[z,TI,TO,i1,i2],a≠c:=fun c m g=>by rw [g,fr c m] at ha; cases ha
  have bn:∀ c∈[z,TI,TO,i1,i2],b≠c:=fun c m g=>by rw [g,fr c m] at hb; cases hb
  have D:Q9 z TI TO i1 i2 a b:=⟨N.n1,N.n2,N.n3,N.n4,N.n5,N.n6,N.n7,N.n8,N.n9,N.n10,an z (by simp),an TO (by simp),an i1 (by simp),an i2 (by simp),bn z (by simp),bn TO (by simp),bn i1 (by simp),bn i2 (by simp)⟩;have hlen:=rv.length;refine vQ (I.ok.hd hc) D st.z st.ti hTO st.j1 (show s.heap.IsTuple a its.toArray from p) (by simp; omega) fun h' kk=>⟨rfl,?_⟩;have k2:∀ c o,c ∉ [z,TO,i1,i2]→s.heap.get? c=a_ o→h'.get? c=a_ o:=fun c o hc' q=>kk c o (fun g=>hc' (by simp [g])) (fun g=>hc' (by simp [g])) (fun g=>hc' (by simp [g])) (fun g=>hc' (by simp [g])) q;have sub:∀ c,c∈[z,TO,i1,i2]→c∈[z,TI,TO,i1,i2]:=fun c m=>by
   have m':c=z∨c=TO∨c=i1∨c=i2:=by simpa using m
   rcases m' with rfl | rfl | rfl | rfl <;> simp
  have nt:∀ c o,H c=a_ o→c ∉ [z,TO,i1,i2]:=fun c o q m=>by rw [fr c (sub c m)] at q; cases q
  refine I.step (g':=s.gens) (d':=s.drawn) (t':=s.toks) (ch:=[z,TO,i1,i2]) (fun c m=>?_) (fun c o _ _ hcb q _=>k2 c o hcb q) (fun c o _ _ hcb q _=>⟨o.slots,k2 c o hcb q⟩) (fun c o hcb q n=>n) (fun c o hcb q=>⟨o,k2 c o hcb q⟩)
   (fun c zs q=>q) (fun c o zs q=>q) (fun c ps q=>⟨#[],by rw [q]; simp⟩) (fun m hm=>?_) (fun c o2 q=>?_) I.bare
  · obtain ⟨f0,f1,f2,f3,f4,f5⟩:=hf c (sub c m);exact ⟨f3,f1,f4,f5⟩
  · obtain ⟨o,es',ep,ho,r⟩:=hm;exact ⟨o,es',ep,k2 _ o (fun m=>(hf _ (sub _ m)).2.1 rfl) ho,r⟩
  · refine (I.hok c o2 q).stay (fun e v' hcv qq=>k2 e v' ?_ qq) (fun e qq=>qq) fun e zs qq=>qq;rcases hcv with rfl | hcv
    · exact nt _ _ q
    · exact nt _ _ hcv
 self:=fun _ _ _ _ _ st h=>wpAny_pyIter_zip st.z h
def Ar:List Dv→List Dv→List Dv
 | x :: xs,y :: ys=>.tup [x,y] :: Ar xs ys
 | _,_=>[]
theorem ic:∀ (xs ys:List Dv),xs.length=ys.length→(Ar xs ys).length=xs.length
 | [],[],_=>rfl
 | x :: xs,y :: ys,h=>by
  show (Ar xs ys).length + 1=xs.length + 1;rw [ic xs ys (by simpa using h)]
 | [],_ :: _,h=>by simp at h
 | _ :: _,[],h=>by simp at h
theorem pH:∀ (xs ys:List Dv) (i:Nat) (x y:Dv),xs[i]?=a_ x→ys[i]?=a_ y→(Ar xs ys)[i]?=a_ (.tup [x,y])
 | x :: xs,y :: ys,0,x',y',h,h'=>by simp at h h'; subst h h'; rfl
 | x :: xs,y :: ys,i + 1,x',y',h,h'=>pH xs ys i x' y' (by simpa using h) (by simpa using h')
 | [],_,_,_,_,h,_=>by simp at h
 | _ :: _,[],_,_,_,_,h'=>by simp at h'
theorem Cz {K:f_} {H:Hp} {a b:k_} {vs us:List V} {xs ys:List Dv} (ha:H a=a_ (.tup vs)) (hb:H b=a_ (.tup us)) (r:Reps K H xs vs) (r':Reps K H ys us) (hl:xs.length=ys.length):WkG K (Itz a b) (Ar xs ys) H where
 go:=fun i H' e hi=>by
  rw [ic xs ys hl] at hi;have h1:i < vs.length:=by rw [r.length]; exact hi
  have h2:i < us.length:=by rw [r'.length,← hl]; exact hi
  exact ⟨vs,us,vs[i],us[i],e _ _ ha,e _ _ hb,by simp [h1],by simp [h2]⟩
 stop:=fun H' e=>⟨vs,us,e _ _ ha,e _ _ hb,by rw [r.length,ic xs ys hl]; exact r_ _⟩
 yld:=fun i H' v H2 e hi y=>by
  obtain ⟨p,x,y,rfl,hp,rfl,y1,y2⟩:=y;obtain ⟨d,h1,h2⟩:=Reps.get (Reps.mono e _ _ r) (y1 vs (e _ _ ha));obtain ⟨d',h1',h2'⟩:=Reps.get (Reps.mono e _ _ r') (y2 us (e _ _ hb));exact ⟨aG hp _,_,pH xs ys i d d' h1 h1',⟨p,_,rfl,ax,⟨x,[y],rfl,Rep.mono (aG hp _) _ _ h2,y,[],rfl,Rep.mono (aG hp _) _ _ h2',rfl⟩⟩⟩
def As:List Dv→Option (Rs (List Dv))
 | [.tup xs,.tup ys]=>if xs.length=ys.length then a_ (.ok (Ar xs ys)) else ck
 | _=>ck
theorem y4 {X:Cx} {es:List F_} {k:Nat} {pt p pos:Pos} {l r:F_} {ga:FnA} (hg:Gl X "zip") (hm:X.mg "zip"=ck) (ha:FA X [l,r] ga) (hs:l_ [l,r] X.env=[(d_,eval l X.env),(d_,eval r X.env)]:=by kernel_rfl) (hs2:l_ [r] X.env=[(d_,eval r X.env)]:=by kernel_rfl):FIG X (.Tuple es k pt) (.Call (.Name "zip" p) [l,r] [] pos) (fun ρ=>bnd (ga ρ) As):=by
 constructor;intro j' s σ H R I h;obtain ⟨ρ,E,o⟩:=h;have key:OutA X H (ga ρ) fun vs H'=>∃ ds,Reps X.K H' ds vs∧OutG X H' (As ds) R:=by
  match hf:ga ρ,o with
  | some (.exc c),o=>exact o
  | some (.ok ds),o=>exact fun vs H' e rs=>⟨ds,rs,OutG.mono e o⟩
 refine Call_ (gY I hg hm (show Kp "zip"=a_ (.type "zip") by decide +kernel) (Kc (thn (ha.h pos j' s σ H _ I ⟨ρ,E,key⟩) fun us s1 ⟨vs,H1,I1,r1,ds,rs,q1⟩=>?_) (by rw [hs,hs2]) (by rw [hs2]; rfl)));unfold As at q1;split at q1
 · rename_i xs ys;split at q1
   · rename_i hl;obtain ⟨v,v',rfl,rv,rv'⟩:=yw rs;obtain ⟨a,ws,rfl,h1,h2⟩:=rv.tupE;obtain ⟨b,ws',rfl,h1',h2'⟩:=rv'.tupE;obtain ⟨u,u',rfl,ru,ru'⟩:=Vals.two r1;cases ru;cases ru';obtain ⟨its,rt,pl,hz⟩:=I1.tuple (SqT.of h1);obtain ⟨jts,rt',pl',hz'⟩:=I1.tuple (SqT.of h1');refine tx (show s1.heap.IsTuple a its.toArray from pl) (show s1.heap.IsTuple b jts.toArray from pl') fun h' g1 g2 g3 g4 g5 g6 kk=>?_;refine wpAny_pyIter_zip g1 ?_;have I2:Inv X j' σ H1 { s1 with heap:=h' }:=I1.kept (t':=s1.toks) kk;have gt:∀ m n:Nat,m≠n→s1.heap.objs.size + m≠s1.heap.objs.size + n:=fun m n hmn e=>hmn (PB e);have g0:∀ m:Nat,0≠m→s1.heap.objs.size≠s1.heap.objs.size + m:=fun m hm e=>hm (PB (n:=s1.heap.objs.size) e);refine ⟨s1.heap.objs.size + 4,[s1.heap.objs.size + 4,s1.heap.objs.size + 2,s1.heap.objs.size + 3,s1.heap.objs.size,s1.heap.objs.size + 1],_,Itz a b,H1,rfl,I2,
      vS a b _ _ _ _ _ ⟨gt 2 4 (by decide),gt 3 4 (by decide),g0 4 (by decide),gt 1 4 (by decide),gt 2 3 (by decide),(g0 2 (by decide)).symm,gt 2 1 (by decide),(g0 3 (by decide)).symm,gt 3 1 (by decide),g0 1 (by decide)⟩,⟨g1,g2,⟨_,_,g3⟩,g4,g5⟩,fun c hc=>?_,q1 _ H1 (.refl H1) (Cz h1 h1' h2 h2' hl)⟩
     rcases Gj hc with rfl | rfl | rfl | rfl | rfl
     · exact I1.fpOk (KI _ _) (I1.hok.fresh (KI _ _))
     · exact I1.fpOk (KI _ _) (I1.hok.fresh (KI _ _))
     · exact I1.fpOk (KI _ _) (I1.hok.fresh (KI _ _))
     · exact I1.fpOk (r_ _) (I1.hok.fresh (r_ _))
     · exact I1.fpOk (KI _ _) (I1.hok.fresh (KI _ _))
   · exact q1.elim
 · exact q1.elim
def gU (b:Dv→Ev→Option Ev) (js:List Nat) (body:FnS):List Dv→Ev→Option Fl
 | [],ρ=>a_ (.nx (fgt js ρ))
 | d :: ds,ρ=>match b d (fgt js ρ) with
  | none=>ck
  | some ρ1=>match body ρ1 with
   | some (.nx ρ')=>gU b js body ds ρ'
   | o=>o
def qt (b:Dv→Ev→Option Ev) (js:List Nat) (src:FnA) (body:FnS):FnS:=fun ρ=>bN (src ρ) fun ds=>gU b js body ds ρ
def tgG (X:Cx) (b:Dv→Ev→Option Ev):TG:=fun v σ H Q=>∃ d ρ ρ',Rep X.K H d v∧Envs X.K H σ ρ∧b d ρ=a_ ρ'∧∀ σ' H',Same H H'→Envs X.K H' σ' ρ'→Q σ' H'
theorem FG.pg {X:Cx} {tg:F_} {b:Dv→Ev→Option Ev} (h:FG X tg b):PG X tg (tgG X b):=fun j' s σ H v u Q I r ⟨d,ρ,ρ',rd,E,e,q⟩ =>
 thn (h.h j' s σ H v u d ρ ρ' I r rd E e) fun _ s' ⟨σ',H',I',e1,E'⟩=>⟨σ',H',I',q σ' H' e1 E'⟩
theorem y8 {X:Cx} {tg iter:F_} {body:List Ky} {pos:Pos} {src:FnA} {fb:FnS} {b:Dv→Ev→Option Ev} (js:List Nat) (hp:ND (z_ X.prog X.w) X.A X.env X.xe) (hc:X.calm=e_) (hi:FIG X tg iter src) (hg:FG X tg b) (hb:FSs X body fb)
 (hs:∀ x,JF iter X.env x=pure x:=by intro _; kernel_rfl):FS X (.For tg iter body [] pos) (qt b js src fb):=by
 refine nA (rB hp hc hi.h hg.pg hb.h hs) fun D σ H ρ E o=>⟨ρ,E,?_⟩;unfold qt at o
 match hf:src ρ,o with
 | none,o=>exact o
 | some (.exc c),o=>exact o
 | some (.ok ds),o =>
  intro J H1 e1 wk;have o1:OutS X H1 (gU b js fb ds ρ) D:=OutS.mono e1 o;refine ⟨fun n m σ' H'=>m=ds.length - n∧n≤ds.length∧Same H1 H'∧∃ ρ',Envs X.K H' σ' ρ'∧OutS X H' (gU b js fb (ds.drop n) ρ') D,⟨ds.length,by simp,JA _,.refl H1,ρ,E.mono e1,by simpa using o1⟩,?_⟩;rintro n m σ' H' ⟨rfl,hn,e2,ρ',E',o'⟩;by_cases hlt:n < ds.length
  · refine .inr ⟨wk.go n H' e2 hlt,fun σ2 H2=>Same H1 H2∧∃ ρ2,Envs X.K H2 σ2 ρ2∧OutS X H2 (gU b js fb (ds.drop (n + 1)) ρ2) D,fun σ2 H2 ⟨e3,ρ2,E2,o2⟩=>⟨ds.length - (n + 1),by omega,rfl,hlt,e3,ρ2,E2,o2⟩,fun x H2 y=>?_⟩;obtain ⟨e4,d,hd,rd⟩:=wk.yld n H' x H2 e2 hlt y;rw [iw hd] at o';unfold gU at o'
    match hb0:b d (fgt js ρ') with
    | none=>rw [hb0] at o'; exact o'.elim
    | some ρ1 =>
     rw [hb0] at o';refine ⟨d,fgt js ρ',ρ1,rd,(Envs.fgt js E').mono e4,hb0,fun σ3 H3 e5 E3=>?_⟩;show tS X fb _ _ _;refine ⟨ρ1,E3,?_⟩;have o2:=OutS.mono (e4.trans e5) o';dsimp only at o2
     match hb':fb ρ1 with
     | none=>rw [hb'] at o2; exact o2
     | some (.exc c)=>rw [hb'] at o2; exact o2
     | some (.rt r)=>rw [hb'] at o2; exact o2
     | some (.nx ρ2)=>rw [hb'] at o2; exact fun σ4 H4 e6 E4=>⟨((e2.trans e4).trans e5).trans e6,ρ2,E4,OutS.mono e6 o2⟩
  · have hn':n=ds.length:=by omega
    subst hn';rw [Na] at o';exact .inl ⟨wk.stop H' e2,o' σ' H' (.refl H') (Envs.fgt js E')⟩
def Au:List Dv→Option (Rs Dv)
 | [.str x]=>a_ (.ok (.str x))
 | xs=>Ge xs
section
variable {X:Cx} {p pos:Pos} {e:F_} {es:List F_} {ga:FnA}
theorem tz:CallR X (.type "str") (fun xs H Q=>(∃ i,xs=[.int i]∧i.natAbs.log2 < 1920∧Q (.str (toString i)) H)∨∃ x,xs=[.str x]∧Q (.str x) H):=by
 intro j' s σ H xs us Q I r h;rcases h with ⟨i,rfl,hz,q⟩ | ⟨x,rfl,q⟩
 · obtain ⟨u,rfl,t,rfl⟩:=fg r;exact PySem.P.str_of_int hz ⟨.str _,H,I.tok _,⟨_,rfl⟩,q⟩
 · obtain ⟨u,rfl,t,rfl⟩:=fg r;exact PySem.P.str_of_str ⟨.str _,H,I,⟨_,rfl⟩,q⟩
theorem y9 (hg:Gl X "str") (hm:X.mg "str"=ck) (ha:FA X (e :: es) ga) (he:l_ (e :: es) X.env=(d_,eval e X.env) :: l_ es X.env:=by kernel_rfl) (hpl:(JV pos (l_ es X.env)).any (·.1)=d_:=by kernel_rfl):FE X (.Call (.Name "str" p) (e :: es) [] pos) (fB1 Au ga) :=
 df (jI tz hg hm (by decide +kernel) ha.h (by decide) (by decide) he hpl) fun σ H Q ρ E o=>⟨ρ,E,OutA.bind o fun ds vs H1 e1 rs o1=>by
  unfold Au at o1;split at o1
  · rename_i x;obtain ⟨v,rfl,r⟩:=dz rs;cases (show v=.str x from r);exact .inr ⟨x,rfl,o1 _ H1 (.refl H1) rfl⟩
  · unfold Ge at o1;split at o1
    · rename_i i _;split at o1
      · rename_i hz;obtain ⟨v,rfl,r⟩:=dz rs;cases (show v=.int i from r);exact .inl ⟨i,rfl,hz,o1 _ H1 (.refl H1) rfl⟩
      · exact o1.elim
    · exact o1.elim⟩
end
def pI (fi fe:FnE):ji:=fun ρ ds=>qo (fe ρ) fun d=>qo (fi ρ) fun k=>match k with
 | .int k=>if 0≤k∧k < ds.length then a_ (.nx ρ (ds.set k.toNat d)) else ck
 | _=>ck
theorem Reps.set {K:f_} {H:Hp} {d:Dv} {v:V} (rd:Rep K H d v):∀ {ds:List Dv} {vs:List V} (j:Nat),Reps K H ds vs→Reps K H (ds.set j d) (vs.set j v)
 | [],vs,j,r=>by cases (show vs=[] from r); exact r
 | d0 :: ds,vs,0,r=>by
  obtain ⟨v0,vs',rfl,r0,rt⟩:∃ v us',vs=v :: us'∧Rep K H d0 v∧Reps K H ds us':=r;exact ⟨v,vs',rfl,rd,rt⟩
 | d0 :: ds,vs,j + 1,r=>by
  obtain ⟨v0,vs',rfl,r0,rt⟩:∃ v us',vs=v :: us'∧Rep K H d0 v∧Reps K H ds us':=r;exact ⟨v0,vs'.set j v,rfl,r0,Reps.set rd j rt⟩
section
variable {X:Cx} {i:Nat} {e ix:F_} {fe fi:FnE} {pos ps:Pos}
theorem vT (hex:X.ex=[]) {x:Str} {apos:Pos} (hx:PE X (.Name x apos) (Am i)) (hi:FE X ix fi) (he:FE X e fe)
 (hs:PJ [.Subscript (.Name x apos) ix ps] e pos.line X.env=pure d_:=by kernel_rfl) (hw:PK [.Subscript (.Name x apos) ix ps] e X.env=pure ck:=by kernel_rfl)
 (h1:(Jq [.Subscript (.Name x apos) ix ps] X.env).map (·.2)=[LI (.Subscript (.Name x apos) ix ps) X.env]:=by kernel_rfl)
 (ha:∀ v,LI (.Subscript (.Name x apos) ix ps) X.env v=(do let ov ← MM [v] (eval (.Name x apos) X.env); let iv ← MM [v,ov] (eval ix X.env); standAt ps; MM [v,ov,iv] (setItem ov iv v); release [v,ov,iv] []):=by intro _; kernel_rfl) :
 FO1 X i (.Assign [.Subscript (.Name x apos) ix ps] e pos) (pI fi fe):=⟨fun j' s σ Hf D I ⟨H,a,xs,ρ,ds,e1,ha',hia,E,r,o⟩=>by
 refine wU (nN hex he.h) (AT hx (nN hex hi.h) vg ha) hs hw h1 j' s σ Hf D I ⟨H,a,xs,e1,ha',ρ,E,?_⟩;unfold pI at o
 match hfe:fe ρ with
 | none=>rw [hfe] at o; exact o.elim
 | some (.exc _)=>rw [hfe] at o; exact o.elim
 | some (.ok d) =>
  rw [hfe] at o
  match hfi:fi ρ with
  | none=>dsimp only [qo] at o; rw [hfi] at o; exact o.elim
  | some (.exc _)=>dsimp only [qo] at o; rw [hfi] at o; exact o.elim
  | some (.ok k) =>
   dsimp only [qo] at o;rw [hfi] at o;dsimp only at o;intro v H' e' rd ha2;refine ⟨.ref a,hia,H',a,xs,rfl,ha2,ρ,E.mono e',?_⟩;show Out X H' (fi ρ) _;rw [hfi];intro w H2 e2 rk ha3;cases k <;> try exact (show False from o).elim
   rename_i k;dsimp only at o;split at o
   · rename_i hk;cases (show w=.int k from rk);have hl:=r.length;have hj:ixN xs.length k=a_ k.toNat:=by
      unfold ixN;rw [if_pos hk.1,if_pos (by omega)]
     refine ⟨a,xs,k,k.toNat,rfl,rfl,ax,hj,?_⟩;rw [qX];exact o σ H2 (xs.set k.toNat v) (e'.trans e2) ha3 hia (E.mono (e'.trans e2)) (Reps.set (Rep.mono e2 _ _ rd) k.toNat (Reps.mono (e'.trans e2) _ _ r))
   · exact o.elim⟩
end
def EB:List Dv→Option (Rs Dv)
 | [.str x]=>if x.length≤640 then (match Q3 x with | some n=>a_ (.ok (.int n)) | none=>ck) else ck
 | _=>ck
section
variable {X:Cx} {p pos:Pos} {e:F_} {es:List F_} {ga:FnA}
theorem tE:CallR X (.type "int") (fun xs H Q=>∃ x i,xs=[.str x]∧x.length≤640∧Q3 x=a_ i∧Q (.int i) H):=by
 intro j' s σ H xs us Q I r h;obtain ⟨x,i,rfl,hl,hx,q⟩:=h;obtain ⟨u,rfl,t,rfl⟩:=fg r;exact PySem.W.KIN.call_text hx hl ⟨.int _,H,I.tok _,⟨_,rfl⟩,q⟩
theorem vU (hg:Gl X "int") (hm:X.mg "int"=ck) (ha:FA X (e :: es) ga) (he:l_ (e :: es) X.env=(d_,eval e X.env) :: l_ es X.env:=by kernel_rfl) (hpl:(JV pos (l_ es X.env)).any (·.1)=d_:=by kernel_rfl):FE X (.Call (.Name "int" p) (e :: es) [] pos) (fB1 EB ga) :=
 df (jI tE hg hm (by decide +kernel) ha.h (by decide) (by decide) he hpl) fun σ H Q ρ E o=>⟨ρ,E,OutA.bind o fun ds vs H1 e1 rs o1=>by
  unfold EB at o1;split at o1
  · rename_i x;split at o1
    · rename_i hl;split at o1
      · rename_i n hn;obtain ⟨v,rfl,r⟩:=dz rs;cases (show v=.str x from r);exact ⟨x,n,rfl,hl,hn,o1 _ H1 (.refl H1) rfl⟩
      · exact o1.elim
    · exact o1.elim
  · exact o1.elim⟩
end
section
variable {X:Cx}
end
section
variable {X:Cx}
end
end FD
namespace ST
open PySem PySem.SetTable
abbrev Rise (xs:Array Nat):Prop:=xs.toList.Pairwise (· < ·)
theorem Rise.lt {xs:Array Nat} (R:Rise xs) {i k:Nat} (hi:i < xs.size) (hk:k < xs.size) (h:i < k):xs[i] < xs[k]:=by
 have:=NZ.mp R i k (by simpa using hi) (by simpa using hk) h;simpa using this
theorem Rise.le {xs:Array Nat} (R:Rise xs) {i k:Nat} (hi:i < xs.size) (hk:k < xs.size) (h:i≤k):xs[i]≤xs[k]:=by
 rcases Nat.lt_or_ge i k with h' | h'
 · exact Mg (R.lt hi hk h')
 · have:i=k:=by omega
   subst this;exact r_ _
def tm (m:Nat):SetTable:={ mask:=m,place:=#[],dummies:=#[],finger:=0,led:=e_,moves:=0,plain:=e_ }
def pos (m:Nat) (h:Int) (n:Nat):Nat:=(advN (tm m) n ((tm m).probeStart h)).j
def Pth (m:Nat) (l:List Nat) (h:Int) (j:Nat):Prop:=∃ N,N < 10 * OJ m∧pos m h N=j∧∀ x,x < N→pos m h x∈l
theorem Pth.mono {m:Nat} {l l':List Nat} {h:Int} {j:Nat} (p:Pth m l h j) (hs:∀ x∈l,x∈l'):Pth m l' h j:=by
 obtain ⟨N,h1,h2,h3⟩:=p;exact ⟨N,h1,h2,fun x hx=>hs _ (h3 x hx)⟩
def asc (t:SetTable) (es:Array (Int×g_)):List (Nat×(Int×g_)):=t.place.toList.zip es.toList
def Pa (t:SetTable) (es:Array (Int×g_)):Prop:=∀ je∈asc t es,Pth t.mask t.place.toList je.2.1 je.1
section
variable {prog:rl} {w:C_} {A:D_} {E:g_→h_→Prop} {s:h_}
def SetD (prog:rl) (w:C_) (h:H_) (S:k_) (ks:List (List Str)) (n:Nat):Prop :=
 ∃ o es ep t,h.get? S=a_ o∧o.ExactSet∧o.data=.set es ep t∧es.size=n∧Tb t n∧((t.mask=7∧n≤4)∨(t.mask=31∧n≤18)∨(t.mask=127∧n≤20))∧Ent prog w h ks es.toList∧Rise t.place∧Pa t es∧∀ k∈ks,∃ a,(hsh prog w k,q_ a)∈es.toList∧TK prog w h k a
end
end ST
namespace ST
open PySem PySem.SetTable PyProof.Rows
section
variable {prog:rl} {w:C_} {A:D_} {R:O9→h_→Prop} {I:k_} {fp wr:List k_} {G:Array MR→Array MR→Prop} {n:Nat} {P:Nat→g_→Prop} {St:Nat→h_→Prop}
theorem SetD.moved {h h':H_} {S:k_} {ks:List (List Str)} {n:Nat} (x:SetD prog w h S ks n) (hS:∀ o,h.get? S=a_ o→h'.get? S=a_ o) (hm:∀ k a,TK prog w h k a→TK prog w h' k a):SetD prog w h' S ks n:=by
 obtain ⟨o,es,ep,t,ho,hex,hd,hsz,T,hmk,hE,R,hP,hA⟩:=x;exact ⟨o,es,ep,t,hS _ ho,hex,hd,hsz,T,hmk,fun e he=>let ⟨k,a,h1,h2,h3⟩:=hE e he; ⟨k,a,h1,h2,hm k a h3⟩,R,hP,fun k hk=>let ⟨a,q1,q2⟩:=hA k hk; ⟨a,q1,hm k a q2⟩⟩
end
section
variable {prog:rl} {w:C_} {A:D_} {E:g_→h_→Prop} {s:h_}
end
end ST
namespace FD
open PySem PySem.Spec PyProof.Rows L2
section
variable {X:Cx} {p p2 pos pos2:Pos} {e:F_} {ga:FnA}
end
section
variable {prog:rl} {w:C_} {A:D_} {E:g_→h_→Prop} {s:h_}
end
section
variable {prog:rl} {w:C_} {A:D_} {E:g_→h_→Prop} {s:h_}
end
structure ZMt (z TI TO i1 i2 a b:k_) (i:Nat) (h:H_):Prop where
 z:OK h z TI TO .none
 ti:Mj h TI (.ref i1) (.ref i2)
 to:∃ p q,Mj h TO p q
 j1:h.IsTupleIter i1 a i
 j2:h.IsListIter i2 b i
def tC (X:Cx) (i:Nat) (fc:FnE):TS:=fun D σ H=>∃ ρ,Envs X.K H σ ρ∧match fc ρ with
 | none=>False
 | some (.exc c)=>XW X c H
 | some (.ok d)=>∃ ys,d=.lst ys∧∀ H5 p vs,Same H H5→H5 p=ck→Reps X.K H5 ys vs→D.nx (σ.set i (a_ (.ref p))) (upd H5 p (.lst vs))
section
variable {X:Cx} {i:Nat} {st:Ky} {sts:List Ky} {f:ji} {fc:FnE}
theorem tG {n:Nat} {cs:List (Str×Nat)} {src:FnA} {b:Dv→Ev→Option Ev} {tst:Option FnB} {fe:FnE} (ρ:Ev) (d:Dv) (h:cj n cs src b tst fe ρ=a_ (.ok d)):∃ ys,d=.lst ys:=by
 rcases FV h with ⟨c,e1,e2⟩ | ⟨ds,ys,e1,e2,l1,l2,e3⟩
 · cases e2
 · cases e3; exact ⟨ys,rfl⟩
end
def uV {α:Type} (le:α→α→Bool) (x:α):List α→List α
 | []=>[x]
 | y :: l=>if le x y then x :: y :: l else y :: uV le x l
def fu {α:Type} (le:α→α→Bool):List α→List α
 | []=>[]
 | x :: l=>uV le x (fu le l)
theorem jT {α:Type} (le:α→α→Bool) (x:α):∀ l:List α,(uV le x l).Perm (x :: l)
 | []=>.refl _
 | y :: l=>by
  unfold uV;split
  · exact .refl _
  · exact ((jT le x l).cons y).trans (Rg ..)
theorem dR {α:Type} (le:α→α→Bool):∀ l:List α,(fu le l).Perm l
 | []=>.refl _
 | x :: l=>(jT le x _).trans ((dR le l).cons x)
structure Ji {α:Type} (le:α→α→Bool):Prop where
 t:∀ a b,le a b=d_→le b a=e_
 tr:∀ a b c,le a b=e_→le b c=e_→le a c=e_
 an:∀ a b,le a b=e_→le b a=e_→a=b
def g7:List Dv→Option (List Int)
 | []=>a_ []
 | .int i :: r=>(g7 r).map (i :: ·)
 | _=>ck
section
variable {X:Cx} {j':List (k_×Obj)} {σ:L2.St} {H:Hp} {s:h_}
theorem lh {K:f_}:∀ {ds:List Dv} {ns:List Int} {ys:List V} {its:List g_},g7 ds=a_ ns→Reps K H ds ys→Vals ys its→OC its ns
 | [],ns,ys,its,h,r,v=>by
  cases h;cases (show ys=[] from r);cases v;exact .nil
 | .int i :: ds,ns,ys,its,h,r,v=>by
  obtain ⟨y,us,rfl,r1,r2⟩:∃ v us,ys=v :: us∧Rep K H (.int i) v∧Reps K H ds us:=r;cases (show y=.int i from r1);obtain ⟨k',h1,rfl⟩:=OD.mp (show (g7 ds).map (i :: ·)=a_ ns from h);cases v with
  | cons v1 v2 =>
   obtain ⟨t,rfl⟩:=v1;exact .cons i t (lh h1 r2 v2)
 | .non :: ds,_,_,_,h,_,_=>by cases h
 | .bl _ :: ds,_,_,_,h,_,_=>by cases h
 | .str _ :: ds,_,_,_,h,_,_=>by cases h
 | .tup _ :: ds,_,_,_,h,_,_=>by cases h
 | .lst _ :: ds,_,_,_,h,_,_=>by cases h
 | .scr _ :: ds,_,_,_,h,_,_=>by cases h
 | .exn _ :: ds,_,_,_,h,_,_=>by cases h
theorem iq:∀ {its:List g_} {ns:List Int},OC its ns→Vals (ns.map V.int) its
 | _,_,.nil=>.nil
 | _,_,.cons n t h=>.cons ⟨t,rfl⟩ (iq h)
theorem hU {n:Nat} (h:n < 64):n≤sizeLine:=by
 have:sizeLine=16777216:=by decide
 omega
end
section
variable {X:Cx} {p pos:Pos} {e:F_} {es:List F_} {ga:FnA}
end
def mxL:Int→List Int→Int
 | m,[]=>m
 | m,n :: l=>mxL (if n > m then n else m) l
theorem tH:∀ (l:List Int) (m:Int),m≤mxL m l∧(∀ a∈l,a≤mxL m l)∧(mxL m l=m∨mxL m l∈l)
 | [],m=>⟨Int.le_refl _,by simp,.inl rfl⟩
 | n :: l,m=>by
  obtain ⟨h1,h2,h3⟩:=tH l (if n > m then n else m);have e:mxL m (n :: l)=mxL (if n > m then n else m) l:=rfl;rw [e];generalize hM:mxL (if n > m then n else m) l=M at *;by_cases hc:n > m
  · rw [if_pos hc] at h1 h3;refine ⟨by omega,fun a ha=>?_,?_⟩
    · rcases w_.mp ha with rfl | ha
      · exact h1
      · exact h2 a ha
    · rcases h3 with h3 | h3
      · exact .inr (by rw [h3]; exact n_)
      · exact .inr (o_ _ h3)
  · rw [if_neg hc] at h1 h3;refine ⟨h1,fun a ha=>?_,?_⟩
    · rcases w_.mp ha with rfl | ha
      · omega
      · exact h2 a ha
    · rcases h3 with h3 | h3
      · exact .inl h3
      · exact .inr (o_ _ h3)
theorem za {n:Int} {l:List Int} {M:Int} (h1:M∈n :: l) (h2:∀ a∈n :: l,a≤M):M=mxL n l:=by
 obtain ⟨g1,g2,g3⟩:=tH l n;have ge:mxL n l≤M:=by
  rcases g3 with g3 | g3
  · rw [g3]; exact h2 n n_
  · exact h2 _ (o_ _ g3)
 have le:M≤mxL n l:=by
  rcases w_.mp h1 with rfl | h1
  · exact g1
  · exact g2 M h1
 omega
def Av:List Dv→Option (Rs Dv)
 | [.lst ds]=>match g7 ds with
  | some (n :: ns)=>a_ (.ok (.int (mxL n ns)))
  | _=>ck
 | _=>ck
section
variable {X:Cx} {p pos:Pos} {e:F_} {es:List F_} {ga:FnA}
theorem tI:CallR X (.builtin "max") (fun xs H Q=>∃ a ws ds n ns,xs=[.ref a]∧H a=a_ (.lst ws)∧Reps X.K H ds ws∧g7 ds=a_ (n :: ns)∧X.calm=e_∧Q (.int (mxL n ns)) H):=by
 intro j' s σ H xs us Q I r h;obtain ⟨a,ws,ds,n,ns,rfl,h1,h2,hi,hc,q⟩:=h;obtain ⟨u,rfl,ru⟩:=fg r;cases ru;obtain ⟨z,its,ep,rv,hl,e⟩:=I.lstM h1;have hI:=lh hi h2 rv;obtain ⟨ys,ey⟩:=hI.allInts.items;have hns:n :: ns=ys.toList.map (·.1):=by rw [← hI.numsOf,← nums_intItems,← ey]
 have hsz:0 < ys.size:=by
  have:=congrArg Nh hns;simp at this;omega
 have hL:s.heap.IsList a (intItems ys):=by
  rw [← ey];exact ⟨_,e,rfl,ep,rfl⟩
 refine max_intList (I.ok.hd hc) hL hsz fun v h' tk hv hk=>?_;obtain ⟨t,rfl⟩:=intItems_at hv;obtain ⟨g1,g2⟩:=argBest_gt (numAt ys) (ys.size - 1);have hM:numAt ys (argBest (fun i j=>u_ (numAt ys i > numAt ys j)) (ys.size - 1))=mxL n ns:=by
  refine za ?_ fun b hb=>?_
  · rw [hns,numAt_eq]; exact getD_mem (by rw [Jo,JB]; omega)
  · rw [hns] at hb;obtain ⟨j,hj,rfl⟩:=mem_getD hb;rw [Jo,JB] at hj;rw [← numAt_eq]; exact g2 j (by omega)
 refine ⟨.int (mxL n ns),H,I.kept (t':=tk) hk,⟨t,by rw [hM]⟩,q⟩
theorem zb (hc:X.calm=e_) (hg:Gl X "max") (hm:X.mg "max"=ck) (ha:FA X (e :: es) ga) (he:l_ (e :: es) X.env=(d_,eval e X.env) :: l_ es X.env:=by kernel_rfl) (hpl:(JV pos (l_ es X.env)).any (·.1)=d_:=by kernel_rfl):FE X (.Call (.Name "max" p) (e :: es) [] pos) (fB1 Av ga) :=
 df (gK tI hg hm PyProof.Rows.boot_max ha.h (by decide) (by decide) he hpl) fun σ H Q ρ E o=>⟨ρ,E,OutA.bind o fun ds vs H1 e1 rs o1=>by
  unfold Av at o1;split at o1
  · rename_i xs;obtain ⟨v,rfl,r⟩:=dz rs;obtain ⟨a,ws,rfl,h1,h2⟩:=r.lstE;split at o1
    · rename_i n ns hb;exact ⟨a,ws,xs,n,ns,rfl,h1,h2,hb,hc,o1 _ H1 (.refl H1) rfl⟩
    · exact o1.elim
  · exact o1.elim⟩
end
def zc:List Dv→Option (Rs Dv)
 | [.lst xs]=>(match dD xs with | some bs=>a_ (.ok (.bl (bs.any id))) | none=>ck)
 | _=>ck
section
variable {X:Cx} {p pos:Pos} {e:F_} {es:List F_} {ga:FnA}
theorem tJ:CallR X (.builtin "any") (fun xs H Q=>∃ a vs bs ds,xs=[.ref a]∧H a=a_ (.lst vs)∧Reps X.K H ds vs∧dD ds=a_ bs∧X.calm=e_∧Q (.bl (bs.any id)) H):=by
 intro j' s σ H xs us Q I r h;obtain ⟨a,vs,bs,ds,rfl,h1,h2,h3,hc,q⟩:=h;obtain ⟨u,rfl,ru⟩:=fg r;cases ru;obtain ⟨z,its,n,rv,hl,e⟩:=I.lstM h1;have eb:=k7 h2 rv h3;subst eb;have hL:s.heap.IsList a (bs.map JO).toArray:=⟨_,e,rfl,_,rfl⟩;have hlt:a < s.heap.objs.size:=v_ e;refine call_any_walk (L3 hL ?_);refine ⟨s.heap.objs.size,[s.heap.objs.size,a],[s.heap.objs.size],(bs.map JO).toArray.size,_,_,fun i=>(bs[i]?).getD e_,rfl,PV (A:=X.A.in1) (I.ok.hd hc) _ a (I_ hlt) (bs.map JO).toArray,
  ⟨⟨_,s_ _ rfl,rfl,rfl⟩,hL.push _⟩,fun i v s' Q' E' hP hQ=>?_,fun h' tk hk=>?_⟩
 · have hP':(bs.map JO)[i]?=a_ v:=by simpa using hP
   rw [JG] at hP';cases hb:bs[i]? with
   | none=>rw [hb] at hP'; cases hP'
   | some b =>
    rw [hb] at hP';cases hP';have hQ2:Q' ((bs[i]?).getD e_) s':=hQ;rw [hb] at hQ2;exact KT hQ2
 · have e2:((pi (bs.map JO).toArray.size).any fun i=>(bs[i]?).getD e_)=bs.any id:=by
    rw [E_,Jo];rw [JX];simp only [K3,JQ,id];constructor
    · rintro ⟨i,hi,hh⟩;simp only [B_ hi,QE] at hh;exact ⟨_,Mh hi,hh⟩
    · rintro ⟨b,hb,hh⟩;obtain ⟨i,hi,rfl⟩:=Pg.mp hb;exact ⟨i,hi,by simpa [hi] using hh⟩
   rw [e2];exact ⟨.bl (bs.any id),H,I.kept (t':=tk) fun b o q=>hk b o (by simp; exact I_ (v_ q)) (i_ _ q),rfl,q⟩
theorem CB (hc:X.calm=e_) (hg:Gl X "any") (hm:X.mg "any"=ck) (ha:FA X (e :: es) ga) (he:l_ (e :: es) X.env=(d_,eval e X.env) :: l_ es X.env:=by kernel_rfl) (hpl:(JV pos (l_ es X.env)).any (·.1)=d_:=by kernel_rfl):FE X (.Call (.Name "any" p) (e :: es) [] pos) (fB1 zc ga) :=
 df (gK tJ hg hm (by decide +kernel) ha.h (by decide) (by decide) he hpl) fun σ H Q ρ E o=>⟨ρ,E,OutA.bind o fun ds vs H1 e1 rs o1=>by
  unfold zc at o1;split at o1
  · rename_i xs;split at o1
    · rename_i bs hb;obtain ⟨v,rfl,r⟩:=dz rs;obtain ⟨a,ws,rfl,h1,h2⟩:=r.lstE;exact ⟨a,ws,bs,xs,rfl,h1,h2,hb,hc,o1 _ H1 (.refl H1) rfl⟩
    · exact o1.elim
  · exact o1.elim⟩
end
section
variable {prog:rl} {w:C_} {A:D_} {E:g_→h_→Prop} {s:h_}
end
section
variable {prog:rl} {w:C_} {A:D_} {E:g_→h_→Prop} {s:h_}
end
theorem xC {tst:Option FnB} {elt:FnE} {cap:Ev}:∀ ds:List Dv,r9 tst elt cap ds=jq (gN 0) tst elt cap ds
 | []=>rfl
 | d :: ds=>by
  unfold r9 jq;rw [xC ds];rfl
theorem zd (cs:List (Str×Nat)) (src:FnA) (tst:Option FnB) (fe:FnE):bX cs src tst fe=cj 1 cs src (gN 0) tst fe:=by
 funext ρ;show bnd (src ρ) _=bnd (src ρ) _;congr 1;funext ds;rw [xC];rfl
theorem ze {X:Cx} {st:Ky} {i:Nat} {fc:FnE} (h:PS X st (tC X i fc)) (hl:∀ ρ d,fc ρ=a_ (.ok d)→∃ ys,d=.lst ys):FS X st (ba i fc):=⟨fun j' s σ H D I ⟨ρ,E,o⟩=>by
 refine h j' s σ H D I ⟨ρ,E,?_⟩;unfold ba at o
 match hf:fc ρ with
 | none=>rw [hf] at o; exact o.elim
 | some (.exc c)=>rw [hf] at o; exact o
 | some (.ok d) =>
  rw [hf] at o;obtain ⟨ys,rfl⟩:=hl ρ d hf;exact ⟨ys,rfl,fun H5 p vs e5 hp rs=>o _ _ (e5.trans (aG hp _)) ((E.mono (e5.trans (aG hp _))).set ⟨p,vs,rfl,ax,Reps.mono (aG hp _) _ _ rs⟩)⟩⟩
end FD
namespace ST
open PySem PySem.SetTable PyProof.Rows
def SetS (prog:rl) (w:C_) (h:H_) (S:k_) (ks:List Str):Prop :=
 ∃ o es ep t,h.get? S=a_ o∧o.ExactSet∧o.data=.set es ep t∧t.fits es.size=e_∧ks.length≤60∧t.led=(!byT w)∧(es.size≠0→t.plain=d_)∧ElemsOf (PySem.strKind prog w) es.toList∧(∀ e∈es.toList,∃ x t,e.2=.str x t)∧(es.toList.map fun e=>strOf e.2).Perm ks
section
variable {prog:rl} {w:C_} {A:D_} {E:g_→h_→Prop} {s:h_}
end
section
variable {prog:rl} {w:C_} {A:D_} {R:O9→h_→Prop} {I:k_} {fp wr:List k_} {G:Array MR→Array MR→Prop} {n:Nat} {P:Nat→g_→Prop} {St:Nat→h_→Prop}
theorem SetS.moved {h h':H_} {S:k_} {ks:List Str} (x:SetS prog w h S ks) (hS:∀ o,h.get? S=a_ o→h'.get? S=a_ o):SetS prog w h' S ks:=by
 obtain ⟨o,es,ep,t,ho,r⟩:=x;exact ⟨o,es,ep,t,hS _ ho,r⟩
end
section
variable {prog:rl} {w:C_} {A:D_} {E:g_→h_→Prop} {s:h_}
end
section
variable {prog:rl} {w:C_} {A:D_} {E:g_→h_→Prop}
variable {s:h_}
structure Rd (w:C_) (h:H_) (S:k_) (es:Array (Int×g_)) (ep:Nat) (t:SetTable):Prop where
 o:∃ o,h.get? S=a_ o∧o.ExactSet∧o.data=.set es ep t
 f:t.fits es.size=e_
 l:t.led=(!byT w)
 p:es.size≠0→t.plain=d_
theorem Rd.moved {h h':H_} {S:k_} {es:Array (Int×g_)} {ep:Nat} {t:SetTable} (r:Rd w h S es ep t) (k:∀ o,h.get? S=a_ o→h'.get? S=a_ o):Rd w h' S es ep t:=by
 obtain ⟨⟨o,ho,hr⟩,h1,h2,h3⟩:=r;exact ⟨⟨o,k _ ho,hr⟩,h1,h2,h3⟩
end
section
variable {prog:rl} {w:C_} {A:D_} {E:g_→h_→Prop} {s:h_}
structure Wk (prog:rl) (w:C_) (S I:k_) (h:H_) (h':H_) (es:Array (Int×g_)) (vs:List g_) (fp:List k_) (St:Nat→H_→Prop):Prop where
 W:∀ A:D_,A.handled=ck→Walks prog w A I fp [I] vs.length (fun i v=>vs[i]?=a_ v) St
 st:St 0 h'
 pm:vs.Perm (es.toList.map (·.2))
 up:∀ b o,h.get? b=a_ o→h'.get? b=a_ o
 nw:h.objs.size≤I
 fp:∀ b∈fp,(b=S∨h.objs.size≤b)∧b < h'.objs.size
end
section
variable {prog:rl} {w:C_} {A:D_} {E:g_→h_→Prop} {s:h_}
theorem SetS.rd {h:H_} {S:k_} {ks:List Str} (x:SetS prog w h S ks):∃ es ep t,Rd w h S es ep t∧es.size≤60∧(∀ e∈es.toList,∃ x t,e.2=.str x t)∧(es.toList.map fun e=>strOf e.2).Perm ks:=by
 obtain ⟨o,es,ep,t,ho,hex,hd,hf,hk,hl,hp,hel,hs,hm⟩:=x;refine ⟨es,ep,t,⟨⟨o,ho,hex,hd⟩,hf,hl,hp⟩,?_,hs,hm⟩;have:=hm.length_eq;simp at this;omega
end
end ST
namespace FD
open PySem PySem.Spec PyProof.Rows L2
section
variable {X:Cx} {p p2 pos pos2:Pos} {e:F_} {ga:FnA}
end
end FD
namespace TS
open PySem PyProof.Rows
section logic
variable {M:PQ} {A:D_} {E:g_→h_→Prop} {J:h_→Prop} {σ α β:Type}
def wpJ (M:PQ) (A:D_) (E:g_→h_→Prop) (J:h_→Prop) (m:StateT σ Sem α) (Q:α→σ→Prop) (st:σ):Prop :=
 ∀ s,J s→uk M A (m.run st) (fun r s'=>J s'∧Q r.1 r.2) E s
theorem cm {a:α} {Q:α→σ→Prop} {st:σ} (h:Q a st):wpJ M A E J (pure a:StateT σ Sem α) Q st:=fun s hs=>by
 rw [QS];exact j_ ⟨hs,h⟩
theorem bz {m:StateT σ Sem α} {f:α→StateT σ Sem β} {Q:β→σ→Prop} {st:σ} (h:wpJ M A E J m (fun a st'=>wpJ M A E J (f a) Q st') st):wpJ M A E J (m >>= f) Q st:=fun s hs=>by
 rw [StateT.run_bind];exact c_ (JC (h s hs) (fun r s' h'=>h'.2 s' h'.1) fun _ _ e=>e)
theorem mr {m:StateT σ Sem α} {Q Q':α→σ→Prop} {st:σ} (h:wpJ M A E J m Q st) (hq:∀ a st',Q a st'→Q' a st'):wpJ M A E J m Q' st:=fun s hs =>
 JC (h s hs) (fun r _ h'=>⟨h'.1,hq _ _ h'.2⟩) fun _ _ e=>e
theorem qv {Q:σ→σ→Prop} {st:σ} (h:Q st st):wpJ M A E J (get:StateT σ Sem σ) Q st:=fun s hs=>by
 rw [StateT.run_get];exact j_ ⟨hs,h⟩
theorem jy {f:σ→σ} {Q:PUnit→σ→Prop} {st:σ} (h:Q ⟨⟩ (f st)):wpJ M A E J (modify f:StateT σ Sem PUnit) Q st:=fun s hs=>by
 rw [StateT.run_modify];exact j_ ⟨hs,h⟩
theorem tK {m:Sem α} {Q:α→σ→Prop} {st:σ} (h:∀ s,J s→uk M A m (fun a s'=>J s'∧Q a st) E s):wpJ M A E J (liftM m:StateT σ Sem α) Q st:=fun s hs=>by
 show uk M A ((StateT.lift m:StateT σ Sem α).run st) _ E s;rw [StateT.run_lift];exact c_ (JC (h s hs) (fun a s' h'=>j_ h') fun _ _ e=>e)
theorem CF (f:Nat→β→StateT σ Sem (ForInStep β)) (I:Nat→β→σ→Prop) (Q:β→σ→Prop) (b:Nat)
 (step:∀ i c st,i < b→I i c st→wpJ M A E J (f i c) (fun r st'=>match r with | .done c'=>Q c' st' | .yield c'=>I (i + 1) c' st') st)
 (fin:∀ c st,I b c st→Q c st):∀ (n a:Nat) (c:β) (st:σ),a + n=b→I a c st→wpJ M A E J (Rh (List.range' a n 1) c f) Q st
 | 0,a,c,st,e,h=>by
  rw [List.range'_zero,NW];have:a=b:=by omega
  subst this;exact cm (fin c st h)
 | n + 1,a,c,st,e,h=>by
  rw [List.range'_succ,ON];refine bz (mr (step a c st (by omega) h) fun r st' h'=>?_);cases r with
  | done c'=>exact cm h'
  | yield c'=>exact CF f I Q b step fin n (a + 1) c' st' (by omega) h'
theorem iT {a b:Nat} {f:Nat→β→StateT σ Sem (ForInStep β)} (I:Nat→β→σ→Prop) {Q:β→σ→Prop} (hab:a≤b)
 (step:∀ i c st,i < b→I i c st→wpJ M A E J (f i c) (fun r st'=>match r with | .done c'=>Q c' st' | .yield c'=>I (i + 1) c' st') st)
 (fin:∀ c st,I b c st→Q c st) {c:β} {st:σ} (h:I a c st):wpJ M A E J (Rh [a:b] c f) Q st:=by
 rw [Std.Legacy.Range.forIn_eq_forIn_range'];have hsz:([a:b]:Qp).size=b - a:=by simp [Std.Legacy.Range.size]
 show wpJ M A E J (Rh (List.range' a ([a:b]:Qp).size 1) c f) Q st;rw [hsz];exact CF f I Q b step fin (b - a) a c st (by omega) h
end logic
structure Od (blt:Nat→Nat→Bool):Prop where
 ir:∀ a,blt a a=d_
 tr:∀ a b c,blt a b=e_→blt b c=e_→blt a c=e_
 nt:∀ a b c,blt a c=e_→blt a b=e_∨blt b c=e_
def Lex (blt:Nat→Nat→Bool) (a b:Nat):Prop:=blt a b=e_∨(blt b a=d_∧a < b)
section order
variable {blt:Nat→Nat→Bool}
theorem Od.le (O:Od blt) {a b c:Nat} (h1:blt b a=d_) (h2:blt c b=d_):blt c a=d_:=by
 cases h:blt c a with
 | false=>rfl
 | true =>
  rcases O.nt _ b _ h with q | q
  · rw [q] at h2; cases h2
  · rw [q] at h1; cases h1
theorem Od.lt_le (O:Od blt) {a b c:Nat} (h1:blt a b=e_) (h2:blt c b=d_):blt a c=e_:=by
 rcases O.nt _ c _ h1 with q | q
 · exact q
 · rw [q] at h2; cases h2
theorem Od.le_lt (O:Od blt) {a b c:Nat} (h1:blt b a=d_) (h2:blt b c=e_):blt a c=e_:=by
 rcases O.nt _ a _ h2 with q | q
 · rw [q] at h1; cases h1
 · exact q
theorem Od.as (O:Od blt) {a b:Nat} (h:blt a b=e_):blt b a=d_:=by
 cases h':blt b a with
 | false=>rfl
 | true=>have:=O.tr _ _ _ h h'; rw [O.ir] at this; cases this
theorem Lex.tr (O:Od blt) {a b c:Nat} (h1:Lex blt a b) (h2:Lex blt b c):Lex blt a c:=by
 rcases h1 with h1 | ⟨h1,i1⟩
 · rcases h2 with h2 | ⟨h2,i2⟩
   · exact .inl (O.tr _ _ _ h1 h2)
   · exact .inl (O.lt_le h1 h2)
 · rcases h2 with h2 | ⟨h2,i2⟩
   · exact .inl (O.le_lt h1 h2)
   · exact .inr ⟨O.le h1 h2,by omega⟩
theorem Lex.of_le {a b:Nat} (h:blt b a=d_) (i:a < b):Lex blt a b:=.inr ⟨h,i⟩
end order
structure SB (a₀:Array Qi) (kd:Pe) (p:Nat→Nat) (st:MT):Prop where
 sz:(Nu st).size=a₀.size
 at':∀ k,k < a₀.size→(Nu st)[k]?=a₀[p k]?
 lt:∀ k,k < a₀.size→p k < a₀.size
 inj:∀ a b,a < a₀.size→b < a₀.size→p a=p b→a=b
 kind:kindOf st=kd
 failed:Qh st=ck
 pend:Ol st=#[]
def mir (p:Nat→Nat) (i j k:Nat):Nat:=if i≤k∧k < j then p (i + j - 1 - k) else p k
def bub (p:Nat→Nat) (src dst k:Nat):Nat:=if k=dst then p src else if dst < k∧k≤src then p (k - 1) else p k
section state
variable {a₀:Array Qi} {kd:Pe} {p:Nat→Nat} {st:MT}
theorem SB.mirror (B:SB a₀ kd p st) {i j:Nat} (hj:j≤a₀.size):SB a₀ kd (mir p i j) (setArr st (mirror (Nu st) i j ((j - i) / 2))) where
 sz:=(mirror_size _ _ _ _).trans B.sz
 at':=fun k hk=>by
  show (PyProof.Rows.mirror (Nu st) i j ((j - i) / 2))[k]?=_;rw [getElem?_mirror_all (by rw [B.sz]; exact hj)];unfold mir;split
  · exact B.at' _ (by omega)
  · exact B.at' _ hk
 lt:=fun k hk=>by
  unfold mir;split
  · exact B.lt _ (by omega)
  · exact B.lt _ hk
 inj:=fun a b ha hb e=>by
  unfold mir at e;split at e <;> split at e
  · have:=B.inj _ _ (by omega) (by omega) e; omega
  · have:=B.inj _ _ (by omega) hb e; omega
  · have:=B.inj _ _ ha (by omega) e; omega
  · exact B.inj _ _ ha hb e
 kind:=B.kind
 failed:=B.failed
 pend:=B.pend
theorem SB.bubble (B:SB a₀ kd p st) {src dst:Nat} (hs:src < a₀.size) (hd:dst≤src):SB a₀ kd (bub p src dst) (setArr st (bubble (Nu st) src (src - dst))) where
 sz:=(bubble_size _ _ _).trans B.sz
 at':=fun k hk=>by
  show (PyProof.Rows.bubble (Nu st) src (src - dst))[k]?=_;rw [getElem?_bubble (by rw [B.sz]; exact hs) _ (by omega),show src - (src - dst)=dst by omega];unfold bub;split
  · exact B.at' _ hs
  · split
    · exact B.at' _ (by omega)
    · exact B.at' _ hk
 lt:=fun k hk=>by
  unfold bub;split
  · exact B.lt _ hs
  · split
    · exact B.lt _ (by omega)
    · exact B.lt _ hk
 inj:=fun a b ha hb e=>by
  unfold bub at e
  repeat' split at e
  all_goals first
   | omega
   | (have:=B.inj _ _ (by omega) (by omega) e; omega)
 kind:=B.kind
 failed:=B.failed
 pend:=B.pend
end state
def Cm (M:PQ) (A:D_) (J:h_→Prop) (a₀:Array Qi) (kd:Pe) (blt:Nat→Nat→Bool):Prop :=
 ∀ (i j:Nat) (x y:Qi) (s:h_) (E':g_→h_→Prop),a₀[i]?=a_ x→a₀[j]?=a_ y→J s→uk M A (keyLt' kd x.1 y.1) (fun b s'=>J s'∧b=blt i j) E' s
section
variable {M:PQ} {A:D_} {E:g_→h_→Prop} {J:h_→Prop} {a₀:Array Qi} {kd:Pe} {blt:Nat→Nat→Bool} {p:Nat→Nat} {st:MT}
theorem CG {i j:Nat} {Q:Option Bool→MT→Prop} (C:Cm M A J a₀ kd blt) (B:SB a₀ kd p st) (hi:i < a₀.size) (hj:j < a₀.size) (h:Q (a_ (blt (p i) (p j))) st):wpJ M A E J (ltAt' i j) Q st:=by
 have e1:(Nu st)[i]?=a_ (a₀[p i]'(B.lt i hi)):=by rw [B.at' i hi]; simp [B.lt i hi]
 have e2:(Nu st)[j]?=a_ (a₀[p j]'(B.lt j hj)):=by rw [B.at' j hj]; simp [B.lt j hj]
 rw [ltAt'_eq];refine bz (qv ?_);show wpJ M A E J (do let x ← elem' (Nu st) i; let y ← elem' (Nu st) j; lt' x y) Q st
 rw [elem'_eq,elem'_eq,e1,e2];refine bz (cm (bz (cm ?_)));rw [lt'_eq];refine bz (qv ?_);rw [B.kind];refine bz (tK fun s hs=>N7 (JC (C (p i) (p j) _ _ s _ (by simp [B.lt i hi]) (by simp [B.lt j hj]) hs) (fun b s' h'=>?_) fun _ _ e=>e));obtain ⟨h1,rfl⟩:=h';exact ⟨h1,cm h⟩
theorem vV {i j:Nat} {Q:Unit→MT→Prop} (h:Q () (setArr st (mirror (Nu st) i j ((j - i) / 2)))):wpJ M A E J (reverseSlice' i j) Q st:=by
 rw [reverseSlice'_eq]; exact jy h
structure Up (blt:Nat→Nat→Bool) (p:Nat→Nat) (n N:Nat):Prop where
 so:∀ a b,a < b→b < n→Lex blt (p a) (p b)
 lo:∀ a,a < n→p a < n
 re:∀ a,n≤a→a < N→p a=a
theorem Up.next (O:Od blt) {n N:Nat} (U:Up blt p n N) (h1:1≤n) (hn:n < N) (h:blt (p n) (p (n - 1))=d_):Up blt p (n + 1) N where
 so:=fun a b hab hb=>by
  by_cases hbn:b < n
  · exact U.so a b hab hbn
  · have hb':b=n:=by omega
    subst hb';have last:Lex blt (p (b - 1)) (p b):=.of_le h (by rw [U.re b (r_ _) hn]; exact U.lo _ (by omega));by_cases ha:a=b - 1
    · subst ha; exact last
    · exact (U.so a (b - 1) (by omega) (by omega)).tr O last
 lo:=fun a ha=>by
  by_cases han:a < n
  · have:=U.lo a han; omega
  · have:a=n:=by omega
    subst this;rw [U.re a (r_ _) hn];omega
 re:=fun a ha hN=>U.re a (by omega) hN
theorem CH {a nrem:Nat} {Q:AscSt→MT→Prop} (O:Od blt) (C:Cm M A J a₀ kd blt) (B:SB a₀ kd p st) (ha:1≤a) (han:a≤nrem) (hn:nrem≤a₀.size) (U:Up blt p a a₀.size)
 (h:∀ n,a≤n→n≤nrem→Up blt p n a₀.size→(n=nrem∨blt (p n) (p (n - 1))=e_)→Q (ck,n) st):wpJ M A E J (ascLoop a nrem) Q st:=by
 unfold ascLoop;refine iT (I:=fun x c st'=>st'=st∧c=(ck,x)∧a≤x∧Up blt p x a₀.size) han ?_ ?_ ⟨rfl,rfl,r_ _,U⟩
 · rintro x c st' hx ⟨rfl,rfl,hax,U'⟩;dsimp only;refine bz (CG C B (by omega) (by omega) ?_);cases hl:blt (p x) (p (x - 1)) with
   | true =>
    simp only [if_true];exact cm (h x hax (by omega) U' (.inr hl))
   | false =>
    simp only [p_,if_false];exact cm ⟨rfl,rfl,by omega,U'.next O (by omega) (by omega) hl⟩
 · rintro c st' ⟨rfl,rfl,hax,U'⟩;exact h nrem hax (r_ _) U' (.inl rfl)
structure Dn (blt:Nat→Nat→Bool) (p:Nat→Nat) (n N:Nat):Prop where
 so:∀ a b,a < b→b < n→Lex blt (p b) (p a)
 lo:∀ a,a < n→p a < n
 re:∀ a,n≤a→a < N→p a=a
structure Dq (blt:Nat→Nat→Bool) (p:Nat→Nat) (c n N:Nat):Prop where
 cn:c < n
 d1:∀ a b,a < b→b < c→Lex blt (p b) (p a)
 d2:∀ a b,a < c→c≤b→b < n→blt (p b) (p a)=e_
 d3:∀ a b,c≤a→a < b→b < n→blt (p a) (p b)=d_∧blt (p b) (p a)=d_∧p a < p b
 lo:∀ a,a < n→p a < n
 re:∀ a,n≤a→a < N→p a=a
theorem Dq.turn {c n N:Nat} (D:Dq blt p c n N):Dn blt (mir p c n) n N where
 so:=fun a b hab hb=>by
  unfold mir;by_cases hbc:c≤b
  · rw [if_pos ⟨hbc,hb⟩];by_cases hac:c≤a
    · rw [if_pos ⟨hac,by omega⟩];have:=D.d3 (c + n - 1 - b) (c + n - 1 - a) (by omega) (by omega) (by omega);exact .inr ⟨this.2.1,this.2.2⟩
    · rw [if_neg (by omega)];exact .inl (D.d2 a _ (by omega) (by omega) (by omega))
  · rw [if_neg (by omega),if_neg (by omega)];exact D.d1 a b hab (by omega)
 lo:=fun a ha=>by
  unfold mir;split
  · exact D.lo _ (by omega)
  · exact D.lo _ ha
 re:=fun a ha hN=>by
  unfold mir;rw [if_neg (by omega)];exact D.re a ha hN
theorem Dq.one {n N:Nat} (D:Dq blt p (n - 1) n N):Dn blt p n N where
 so:=fun a b hab hb=>by
  by_cases hbc:b < n - 1
  · exact D.d1 a b hab hbc
  · exact .inl (D.d2 a b (by omega) (by omega) hb)
 lo:=D.lo
 re:=D.re
theorem Dn.turn {n N:Nat} (D:Dn blt p n N):Up blt (mir p 0 n) n N where
 so:=fun a b hab hb=>by
  unfold mir;rw [if_pos ⟨JA _,by omega⟩,if_pos ⟨JA _,hb⟩];exact D.so _ _ (by omega) (by omega)
 lo:=fun a ha=>by
  unfold mir;rw [if_pos ⟨JA _,ha⟩];exact D.lo _ (by omega)
 re:=fun a ha hN=>by
  unfold mir;rw [if_neg (by omega)];exact D.re a ha hN
theorem Dn.next (O:Od blt) {n N:Nat} (D:Dn blt p n N) (h1:1≤n) (hn:n < N) (h:blt (p n) (p (n - 1))=e_):Dq blt p n (n + 1) N where
 cn:=by omega
 d1:=D.so
 d2:=fun a b ha hb hb'=>by
  have:b=n:=by omega
  subst this;by_cases e:a=b - 1
  · subst e; exact h
  · rcases D.so a (b - 1) (by omega) (by omega) with q | ⟨q,_⟩
    · exact O.tr _ _ _ h q
    · exact O.lt_le h q
 d3:=fun a b ha hab hb=>by omega
 lo:=fun a ha=>by
  by_cases han:a < n
  · have:=D.lo a han; omega
  · have:a=n:=by omega
    subst this;rw [D.re a (r_ _) hn];omega
 re:=fun a ha hN=>D.re a (by omega) hN
theorem Dq.next (O:Od blt) {c n N:Nat} (D:Dq blt p c n N) (hn:n < N) (h1:blt (p n) (p (n - 1))=d_) (h2:blt (p (n - 1)) (p n)=d_):Dq blt p c (n + 1) N where
 cn:=by have:=D.cn; omega
 d1:=D.d1
 d2:=fun a b ha hb hb'=>by
  by_cases hbn:b < n
  · exact D.d2 a b ha hb hbn
  · have:b=n:=by omega
    subst this;exact O.le_lt h2 (D.d2 a (b - 1) ha (by have:=D.cn; omega) (by omega))
 d3:=fun a b ha hab hb=>by
  by_cases hbn:b < n
  · exact D.d3 a b ha hab hbn
  · have:b=n:=by omega
    subst this;have hlt:p a < p b:=by
     have:=D.lo a (by omega);rw [D.re b (r_ _) hn];exact this
    by_cases e:a=b - 1
    · subst e; exact ⟨h2,h1,hlt⟩
    · obtain ⟨q1,q2,_⟩:=D.d3 a (b - 1) ha (by omega) (by omega);exact ⟨O.le h2 q1,O.le q2 h1,hlt⟩
 lo:=fun a ha=>by
  by_cases han:a < n
  · have:=D.lo a han; omega
  · have:a=n:=by omega
    subst this;rw [D.re a (r_ _) hn];omega
 re:=fun a ha hN=>D.re a (by omega) hN
theorem tL {n nrem:Nat} {Q:Option Nat→MT→Prop} (O:Od blt) (C:Cm M A J a₀ kd blt) (B:SB a₀ kd p st) (h1:1≤n) (hnn:n≤nrem) (hn:nrem≤a₀.size) (D:Dn blt p n a₀.size)
 (h:∀ m p' st',SB a₀ kd p' st'→1≤m→m≤nrem→Up blt p' m a₀.size→Q (a_ m) st'):wpJ M A E J (tail3 n nrem) Q st:=by
 unfold tail3;refine bz (vV ?_);have B':=B.mirror (i:=0) (j:=n) (by omega);exact bz (CH O C B' h1 hnn hn D.turn fun m hm1 hm2 U _=>cm (h m _ _ B' (by omega) hm2 U))
theorem CI {n nrem:Nat} {Q:DescSt→MT→Prop} (O:Od blt) (C:Cm M A J a₀ kd blt) (B:SB a₀ kd p st) (h1:2≤n) (hnn:n≤nrem) (hn:nrem≤a₀.size) (D:Dq blt p (n - 1) n a₀.size)
 (h:∀ m neq p' st',SB a₀ kd p' st'→n≤m→m≤nrem→neq + 1≤m→Dq blt p' (m - (neq + 1)) m a₀.size→Q (ck,m,neq) st'):wpJ M A E J (descLoop n nrem) Q st:=by
 unfold descLoop;refine iT (I:=fun x c st'=>∃ neq p',c=(ck,x,neq)∧SB a₀ kd p' st'∧n≤x∧neq + 1≤x∧Dq blt p' (x - (neq + 1)) x a₀.size) hnn ?_ ?_ ⟨0,p,rfl,B,r_ _,by omega,D⟩
 · rintro x c st' hx ⟨neq,p',rfl,B',hax,hq,D'⟩;dsimp only;refine bz (CG C B' (by omega) (by omega) ?_);cases hl:blt (p' x) (p' (x - 1)) with
   | true =>
    simp only [if_true];by_cases hneq:neq > 0
    · rw [if_pos hneq];refine bz (vV (cm ?_));have B2:=B'.mirror (i:=x - (neq + 1)) (j:=x) (by omega);refine ⟨0,_,rfl,B2,by omega,by omega,?_⟩;have D2:=D'.turn;have hc:=D'.cn;refine D2.next O (by omega) (by omega) ?_;have e1:mir p' (x - (neq + 1)) x x=p' x:=by unfold mir; rw [if_neg (by omega)]
      have e2:mir p' (x - (neq + 1)) x (x - 1)=p' (x - (neq + 1)):=by unfold mir; rw [if_pos (by omega)]; congr 1; omega
      rw [e1,e2];by_cases e:x - (neq + 1)=x - 1
      · rw [e]; exact hl
      · exact O.lt_le hl (D'.d3 (x - (neq + 1)) (x - 1) (r_ _) (by omega) (by omega)).1
    · rw [if_neg hneq];have e:neq=0:=by omega
      subst e;exact cm ⟨0,p',rfl,B',by omega,by omega,D'.one.next O (by omega) (by omega) hl⟩
   | false =>
    simp only [p_,if_false];refine bz (CG C B' (by omega) (by omega) ?_);cases hg:blt (p' (x - 1)) (p' x) with
    | true =>
     simp only [if_true];exact cm (h x neq p' st' B' hax (by omega) hq D')
    | false =>
     simp only [p_,if_false];refine cm ⟨neq + 1,p',rfl,B',by omega,by omega,?_⟩;have:=D'.next O (by omega) hl hg
     rwa [show x + 1 - (neq + 1 + 1)=x - (neq + 1) by omega]
 · rintro c st' ⟨neq,p',rfl,B',hax,hq,D'⟩;exact h nrem neq p' st' B' hax (r_ _) hq D'
theorem ky {n nrem:Nat} {Q:Option Nat→MT→Prop} (O:Od blt) (C:Cm M A J a₀ kd blt) (B:SB a₀ kd p st) (h1:1≤n) (hnn:n + 1≤nrem) (hn:nrem≤a₀.size) (D:Dq blt p n (n + 1) a₀.size)
 (h:∀ m p' st',SB a₀ kd p' st'→1≤m→m≤nrem→Up blt p' m a₀.size→Q (a_ m) st'):wpJ M A E J (descPart n nrem) Q st:=by
 unfold descPart;refine bz (tK fun s hs=>M4 ⟨hs,?_⟩);refine bz (CI O C B (by omega) hnn hn D fun m neq p' st' B' hm1 hm2 hq D'=>?_);dsimp only;by_cases hneq:neq > 0
 · rw [if_pos hneq];exact bz (vV (tL O C (B'.mirror (by omega)) (by omega) hm2 hn D'.turn h))
 · rw [if_neg hneq];have e:neq=0:=by omega
   subst e;exact tL O C B' (by omega) hm2 hn D'.one h
theorem zf {nrem:Nat} {Q:Option Nat→MT→Prop} (O:Od blt) (C:Cm M A J a₀ kd blt) (B:SB a₀ kd p st) (h1:1≤nrem) (hn:nrem≤a₀.size) (hp:∀ k,k < a₀.size→p k=k)
 (h:∀ m p' st',SB a₀ kd p' st'→1≤m→m≤nrem→Up blt p' m a₀.size→Q (a_ m) st'):wpJ M A E J (countRun' 0 nrem) Q st:=by
 rw [countRun0_eq];refine bz (CH O C B (r_ 1) h1 hn ⟨fun a b hab hb=>by omega,fun a ha=>by rw [hp a (by omega)]; exact ha,fun a _ hN=>hp a hN⟩ fun n hn1 hn2 U hor=>?_);dsimp only;by_cases hnn:n=nrem
 · rw [if_pos (by simpa using hnn)];exact cm (h n p st B hn1 hn2 U)
 · rw [if_neg (by simpa using hnn)];have hlt:blt (p n) (p (n - 1))=e_:=hor.resolve_left hnn;by_cases hgt:n > 1
   · rw [if_pos hgt];refine bz (CG C B (by omega) (by omega) ?_);cases hr:blt (p 0) (p (n - 1)) with
     | true =>
      simp only [if_true];exact cm (h n p st B hn1 hn2 U)
     | false =>
      simp only [p_,if_false];have B':=B.mirror (i:=0) (j:=n) (by omega);have le0:∀ a,a < n→blt (p a) (p 0)=d_:=fun a ha=>by
       by_cases e:a=0
       · subst e; exact O.ir _
       · rcases U.so 0 a (by omega) ha with q | q
         · exact O.as q
         · exact q.1
      have leN:∀ a,a < n→blt (p (n - 1)) (p a)=d_:=fun a ha=>by
       by_cases e:a=n - 1
       · subst e; exact O.ir _
       · rcases U.so a (n - 1) (by omega) (by omega) with q | q
         · exact O.as q
         · exact q.1
      have eq:∀ a b,a < n→b < n→blt (p a) (p b)=d_:=fun a b ha hb=>O.le (leN b hb) (O.le hr (le0 a ha));have D:Dq blt (mir p 0 n) n (n + 1) a₀.size:=by
       have Dm:Dn blt (mir p 0 n) n a₀.size:=⟨fun a b hab hb=>by
        unfold mir;rw [if_pos ⟨JA _,hb⟩,if_pos ⟨JA _,by omega⟩];refine .of_le (eq _ _ (by omega) (by omega)) ?_;rw [hp _ (by omega),hp _ (by omega)];omega,fun a ha=>by
        unfold mir;rw [if_pos ⟨JA _,ha⟩,hp _ (by omega)];omega,fun a ha hN=>by
        unfold mir;rw [if_neg (by omega),hp _ hN]⟩
       refine Dm.next O (by omega) (by omega) ?_;have e1:mir p 0 n n=p n:=by unfold mir; rw [if_neg (by omega)]
       have e2:mir p 0 n (n - 1)=p 0:=by unfold mir; rw [if_pos (by omega)]; congr 1; omega
       rw [e1,e2];exact O.lt_le hlt (eq 0 (n - 1) (by omega) (by omega))
      exact bz (vV (ky O C B' (by omega) (by omega) hn D h))
   · rw [if_neg hgt];have hn1':n=1:=by omega
     subst hn1';refine ky O C B (by omega) (by omega) hn ?_ h;have Dm:Dn blt p 1 a₀.size:=⟨fun a b hab hb=>by omega,U.lo,U.re⟩;exact Dm.next O (by omega) (by omega) hlt
theorem Gk {n ok:Nat} {Q:Bool→MT→Prop} (O:Od blt) (C:Cm M A J a₀ kd blt) (B:SB a₀ kd p st) (hok:1≤ok) (hon:ok≤n) (hn:n≤a₀.size) (U:Up blt p ok a₀.size)
 (h:∀ p' st',SB a₀ kd p' st'→Up blt p' n a₀.size→Q e_ st'):wpJ M A E J (binarySort' 0 n ok) Q st:=by
 rw [binarySort'_eq];simp only [Mf];rw [show max ok 1=ok by omega];refine bz (mr (iT (I:=fun k c st'=>∃ p',c=(ck,())∧ok≤k∧SB a₀ kd p' st'∧Up blt p' k a₀.size) (Q:=fun c st'=>∃ p',c=(ck,())∧SB a₀ kd p' st'∧Up blt p' n a₀.size) hon ?_ ?_ ⟨p,rfl,r_ _,B,U⟩) ?_)
 · rintro k c st' hk ⟨p',rfl,hok',B',U'⟩;have hpk:p' k=k:=U'.re k (r_ _) (by omega);refine bz (mr (iT (I:=fun x c st''=>st''=st'∧∃ l r,c=(ck,l,r)∧l≤r∧r≤k∧r - l≤k - x∧(∀ i,i < l→blt (p' k) (p' i)=d_)∧(∀ i,r≤i→i < k→blt (p' k) (p' i)=e_))
    (Q:=fun c st''=>st''=st'∧∃ l r,c=(ck,l,r)∧l≤k∧(∀ i,i < l→blt (p' k) (p' i)=d_)∧(∀ i,l≤i→i < k→blt (p' k) (p' i)=e_)) (JA k) ?_ ?_ ⟨rfl,0,k,rfl,by omega,by omega,by omega,fun i hi=>by omega,fun i h1 h2=>by omega⟩) ?_)
   · rintro x c st'' hx ⟨rfl,l,r,rfl,hlr,hrk,hm,hlo,hhi⟩;dsimp only;by_cases hge:l ≥ r
     · rw [if_pos hge];have:l=r:=by omega
       subst this;exact cm ⟨rfl,l,l,rfl,hrk,hlo,hhi⟩
     · rw [if_neg hge];refine bz (CG C B' (by omega) (by omega) ?_);cases hless:blt (p' k) (p' ((l + r) / 2)) with
       | true =>
        simp only [if_true];refine cm ⟨rfl,l,(l + r) / 2,rfl,by omega,by omega,by omega,hlo,fun i i1 i2=>?_⟩;by_cases e:i=(l + r) / 2
        · subst e; exact hless
        · rcases U'.so ((l + r) / 2) i (by omega) i2 with q | q
          · exact O.tr _ _ _ hless q
          · exact O.lt_le hless q.1
       | false =>
        simp only [p_,if_false];refine cm ⟨rfl,(l + r) / 2 + 1,r,rfl,by omega,by omega,by omega,fun i i1=>?_,hhi⟩;by_cases e:i=(l + r) / 2
        · subst e; exact hless
        · rcases U'.so i ((l + r) / 2) (by omega) (by omega) with q | q
          · exact O.le (O.as q) hless
          · exact O.le q.1 hless
   · rintro c st'' ⟨rfl,l,r,rfl,hlr,hrk,hm,hlo,hhi⟩;have:l=r:=by omega
     subst this;exact ⟨rfl,l,l,rfl,hrk,hlo,hhi⟩
   · rintro c st'' ⟨rfl,l,r,rfl,hlk,hlo,hhi⟩;show wpJ M A E J (do moveDown' k l; pure (OO (ck,()))) _ _
     rw [moveDown'_eq];refine bz (jy (cm ⟨bub p' k l,rfl,by omega,B'.bubble (by omega) hlk,?_⟩));refine ⟨fun a b hab hb=>?_,fun a ha=>?_,fun a ha hN=>?_⟩
     · have c1:bub p' k l l=p' k:=by unfold bub; rw [if_pos rfl]
       have c2:∀ x,l < x→x≤k→bub p' k l x=p' (x - 1):=fun x h1 h2=>by unfold bub; rw [if_neg (by omega),if_pos ⟨h1,h2⟩]
       have c3:∀ x,x < l→bub p' k l x=p' x:=fun x h1=>by unfold bub; rw [if_neg (by omega),if_neg (by omega)]
       by_cases hbl:b=l
       · subst hbl;rw [c1,c3 a hab];exact .of_le (hlo a (by omega)) (by rw [hpk]; exact U'.lo a (by omega))
       · by_cases hbg:l < b
         · rw [c2 b hbg (by omega)];by_cases hal:a=l
           · subst hal;rw [c1];exact .inl (hhi (b - 1) (by omega) (by omega))
           · by_cases hag:l < a
             · rw [c2 a hag (by omega)];exact U'.so (a - 1) (b - 1) (by omega) (by omega)
             · rw [c3 a (by omega)];exact U'.so a (b - 1) (by omega) (by omega)
         · rw [c3 a (by omega),c3 b (by omega)];exact U'.so a b hab (by omega)
     · unfold bub;split
       · rw [hpk]; omega
       · split
         · have:=U'.lo (a - 1) (by omega); omega
         · have:=U'.lo a (by omega); omega
     · unfold bub;rw [if_neg (by omega),if_neg (by omega)];exact U'.re a (by omega) hN
 · rintro c st' ⟨p',rfl,_,B',U'⟩;exact ⟨p',rfl,B',U'⟩
 · rintro c st' ⟨p',rfl,B',U'⟩;exact cm (h p' st' B' U')
end
section
variable {M:PQ} {A:D_} {E:g_→h_→Prop} {J:h_→Prop} {a₀:Array Qi} {kd:Pe} {blt:Nat→Nat→Bool} {p:Nat→Nat} {st:MT}
structure Gm (a₀:Array Qi) (blt:Nat→Nat→Bool) (p:Nat→Nat) (xs:Array Qi):Prop where
 sz:xs.size=a₀.size
 at':∀ k,k < a₀.size→xs[k]?=a₀[p k]?
 lt:∀ k,k < a₀.size→p k < a₀.size
 inj:∀ a b,a < a₀.size→b < a₀.size→p a=p b→a=b
 so:∀ a b,a < b→b < a₀.size→Lex blt (p a) (p b)
def Dne (a₀:Array Qi) (blt:Nat→Nat→Bool) (st:MT):Prop:=∃ p,Gm a₀ blt p (Nu st)∧Qh st=ck∧Ol st=#[(0,a₀.size,0)]
theorem SB.done (B:SB a₀ kd p st) (U:Up blt p a₀.size a₀.size):Dne a₀ blt (setPending st ((Ol st).push (0,a₀.size,0))) :=
 ⟨p,⟨B.sz,B.at',B.lt,B.inj,U.so⟩,B.failed,by show (Ol st).push _=_; rw [B.pend]; rfl⟩
theorem CK {Q:Unit→MT→Prop} (O:Od blt) (C:Cm M A J a₀ kd blt) (B:SB a₀ kd p st) (hp:∀ k,k < a₀.size→p k=k) (h2:2≤a₀.size) (h64:a₀.size < 64)
 (h:∀ p' st',Gm a₀ blt p' (Nu st')→Qh st'=ck→Q () st'):wpJ M A E J sortRuns' Q st:=by
 rw [sortRuns'_eq];refine bz (qv ?_);dsimp only;have hmr:minRun' a₀.size a₀.size 0=a₀.size:=by
  obtain ⟨f,hf⟩:∃ f,a₀.size=f + 1:=⟨a₀.size - 1,by omega⟩;have:minRun' (f + 1) a₀.size 0=a₀.size:=by rw [minRun'_succ,if_pos h64]; rfl
  rwa [← hf] at this
 simp only [B.sz,hmr];refine bz (mr (iT (I:=fun x c st'=>(x=0∧c=(ck,0)∧SB a₀ kd p st')∨(1≤x∧c=(ck,a₀.size)∧Dne a₀ blt st')) (Q:=fun c st'=>c=(ck,a₀.size)∧Dne a₀ blt st') (JA _) ?_ ?_ (.inl ⟨rfl,rfl,B⟩)) ?_)
 · rintro x c st' hx (⟨rfl,rfl,B'⟩ | ⟨hx1,rfl,D⟩)
   · dsimp only;rw [if_neg (by omega)];simp only [Nat.sub_zero,Nat.min_self,Mf];refine bz (zf O C B' (by omega) (r_ _) hp fun m p2 st2 B2 hm1 hm2 U2=>?_);dsimp only;by_cases hlt:m < a₀.size
     · rw [if_pos hlt];refine bz (tK fun s hs=>M4 ⟨hs,?_⟩);refine bz (Gk O C B2 hm1 hm2 (r_ _) U2 fun p3 st3 B3 U3=>?_);simp only [Kn,p_,if_false];refine bz (qv ?_);have hb:(Ol st3).back?=ck:=by rw [B3.pend]; rfl
       rw [hb];dsimp only;exact bz (jy (cm (.inr ⟨by omega,rfl,B3.done U3⟩)))
     · rw [if_neg hlt];have hm:m=a₀.size:=by omega
       subst hm;refine bz (qv ?_);have hb:(Ol st2).back?=ck:=by rw [B2.pend]; rfl
       rw [hb];dsimp only;exact bz (jy (cm (.inr ⟨by omega,rfl,B2.done U2⟩)))
   · dsimp only;rw [if_pos (r_ _)];exact cm ⟨rfl,D⟩
 · rintro c st' (⟨hx,_,_⟩ | ⟨_,hc,D⟩)
   · omega
   · exact ⟨hc,D⟩
 · rintro c st' ⟨rfl,pd,D1,D2,D3⟩;dsimp only;refine bz (mr (iT (I:=fun _ c st''=>st''=st'∧c=(ck,())) (Q:=fun c st''=>st''=st'∧c=(ck,())) (JA _) ?_ (fun _ _ hh=>hh) ⟨rfl,rfl⟩) ?_)
   · rintro x c st'' _ ⟨rfl,rfl⟩;refine bz (qv ?_);rw [if_pos (by rw [D3]; exact r_ 1)];exact cm ⟨rfl,rfl⟩
   · rintro c st'' ⟨rfl,rfl⟩;exact cm (h pd _ D1 D2)
end
section
variable {prog:rl} {w:C_} {A:D_} {E:g_→h_→Prop} {s:h_} {blt:Nat→Nat→Bool} {Kd:Pe→Prop}
def JT (s:h_) (H:H_):h_→Prop:=fun s'=>∃ tk,s.toks≤tk∧s'={ s with heap:=H,toks:=tk }
end
end TS
namespace TS
open PySem PySem.Spec PyProof.Rows L2
def CL (h:H_) (A:D_) (z:Bool) (p q:g_) (e l:Bool):Prop:=∀ (prog:rl) (w:C_) (E:g_→h_→Prop) (s:h_),s.heap=h →
 (∀ Q:Bool→h_→Prop,Q e s→uk (z_ prog w) A (eqBool p q) Q E s)∧(∀ (b:Bool) (Q:Bool→h_→Prop),(b=e_→z=e_)→Q l s→uk (z_ prog w) A (oneLt' b p q) Q E s)
inductive zg (h:H_) (A:D_):Bool→List (g_×g_)→List (Bool×Bool)→Prop
 | nil {z:Bool}:zg h A z [] []
 | cons {z:Bool} {p q:g_} {e l:Bool} {ps:List (g_×g_)} {rs:List (Bool×Bool)}:CL h A z p q e l→zg h A d_ ps rs→zg h A z ((p,q) :: ps) ((e,l) :: rs)
section
variable {prog:rl} {w:C_} {A:D_} {E:g_→h_→Prop} {s:h_}
inductive tM (h:H_):List g_→List g_→Prop
 | nil:tM h [] []
 | cons {a:k_} {xs:Array g_} {f:g_} {vs fs:List g_}:h.IsTuple a xs→xs[0]?=a_ f→tM h vs fs→tM h (.ref a :: vs) (f :: fs)
end
def CM (p q:g_) (e l:Bool):Prop:=∀ (prog:rl) (w:C_) (A:D_) (E:g_→h_→Prop) (s:h_),
 (∀ Q:Bool→h_→Prop,Q e s→uk (z_ prog w) A (eqBool p q) Q E s)∧(∀ Q:g_→h_→Prop,Q (.bool l) s→uk (z_ prog w) A (richCompare .Lt p q) Q E s)
inductive tN:List (g_×g_)→List (Bool×Bool)→Prop
 | nil:tN [] []
 | cons {p q:g_} {e l:Bool} {ps:List (g_×g_)} {rs:List (Bool×Bool)}:CM p q e l→tN ps rs→tN ((p,q) :: ps) ((e,l) :: rs)
section
open PySem.SeqAt
open PySem.AutoSeq1 (wpAny_loadPart')
open PySem.MeetsSeq PySem.MeetsSeq2 PySem.MeetsSeq3
end
end TS
namespace TS
open PySem PyProof.Rows FD
theorem tP {R:Nat→Nat→Prop} (as:∀ a b,R a b→R b a→False):∀ {l m:List Nat},l.Perm m→l.Pairwise R→m.Pairwise R→l=m
 | [],m,hp,_,_=>hp.nil_eq
 | x :: l,[],hp,_,_=>by simpa using hp.length_eq
 | x :: l,y :: m,hp,h1,h2=>by
  rw [K9] at h1 h2;have e:x=y:=by
   rcases w_.mp (hp.mem_iff.mp (n_ (a:=x))) with e | hx
   · exact e
   · rcases w_.mp (hp.mem_iff.mpr (n_ (a:=y))) with e | hy
     · exact e.symm
     · exact (as _ _ (h1.1 y hy) (h2.1 x hx)).elim
  subst e;rw [tP as hp.cons_inv h1.2 h2.2]
theorem Lex.as {blt:Nat→Nat→Bool} (O:Od blt) {a b:Nat} (h:Lex blt a b) (h':Lex blt b a):False:=by
 have:=h.tr O h';rcases this with q | q
 · rw [O.ir] at q; cases q
 · omega
theorem tQ {blt:Nat→Nat→Bool} (O:Od blt) (x:Nat):∀ l:List Nat,(∀ y∈l,x < y)→l.Pairwise (Lex blt)→(uV (fun i j=>!blt j i) x l).Pairwise (Lex blt)
 | [],_,_=>by simp [uV]
 | y :: l,hx,h=>by
  unfold uV;rw [K9] at h;split
  · rename_i hc;have hxy:Lex blt x y:=.of_le (by simpa using hc) (hx y n_);rw [K9,K9];refine ⟨fun z hz=>?_,h⟩;rcases w_.mp hz with rfl | hz
    · exact hxy
    · exact hxy.tr O (h.1 z hz)
  · rename_i hc;rw [K9];refine ⟨fun z hz=>?_,tQ O x l (fun z hz=>hx z (o_ _ hz)) h.2⟩;rcases w_.mp ((jT _ x l).mem_iff.mp hz) with rfl | hz
    · exact .inl (by simpa using hc)
    · exact h.1 z hz
theorem pJ {blt:Nat→Nat→Bool} (O:Od blt):∀ l:List Nat,l.Pairwise (· < ·)→(fu (fun i j=>!blt j i) l).Pairwise (Lex blt)
 | [],_=>.nil
 | x :: l,h=>by
  rw [K9] at h;exact tQ O x _ (fun y hy=>h.1 y ((dR _ l).mem_iff.mp hy)) (pJ O l h.2)
theorem tR {α β:Type} {le:α→α→Bool} {le':β→β→Bool} (f:α→β) (x:α):∀ l:List α,(∀ y∈l,le x y=le' (f x) (f y))→(uV le x l).map f=uV le' (f x) (l.map f)
 | [],_=>rfl
 | y :: l,h=>by
  have e:=h y n_;simp only [uV,Ju];rw [← e];split
  · rfl
  · rw [Ju,tR f x l fun z hz=>h z (o_ _ hz)]
theorem ll {α β:Type} {le:α→α→Bool} {le':β→β→Bool} (f:α→β):∀ l:List α,(∀ x∈l,∀ y∈l,le x y=le' (f x) (f y))→(fu le l).map f=fu le' (l.map f)
 | [],_=>rfl
 | x :: l,h=>by
  simp only [fu,Ju];rw [tR (le':=le') f x _ fun y hy=>h x n_ y (o_ _ ((dR _ l).mem_iff.mp hy)),ll f l fun a ha b hb=>h a (o_ _ ha) b (o_ _ hb)]
theorem jU:∀ (l m:List Nat),l.Nodup→(∀ x∈l,x∈m)→m.length≤l.length→l.Perm m
 | [],m,_,_,h=>by
  have:m=[]:=LA.mp (by simpa using h);subst this;exact .refl _
 | x :: l,m,nd,hs,h=>by
  rw [LS] at nd;obtain ⟨m1,m2,rfl⟩:=List.append_of_mem (hs x n_);refine ((jU l (m1 ++ m2) nd.2 (fun y hy=>?_) (by simp at h ⊢; omega)).cons x).trans List.perm_middle.symm;have:=hs y (o_ _ hy);simp only [Jn,w_] at this ⊢;rcases this with q | rfl | q
  · exact .inl q
  · exact (nd.1 hy).elim
  · exact .inr q
theorem nW {n:Nat} {p:Nat→Nat} (hlt:∀ k,k < n→p k < n) (inj:∀ a b,a < n→b < n→p a=p b→a=b):((pi n).map p).Perm (pi n):=by
 have nd:((pi n).map p).Nodup:=by
  rw [List.nodup_iff_pairwise_ne,MY];refine (List.nodup_range (n:=n)).imp_of_mem fun {a b} ha hb hab e=>hab (inj a b (by simpa using ha) (by simpa using hb) e)
 have sub:∀ x∈(pi n).map p,x∈pi n:=fun x hx=>by
  obtain ⟨k,hk,rfl⟩:=Jz.mp hx;simpa using hlt k (by simpa using hk)
 exact jU _ _ nd sub (by simp)
theorem mv {blt:Nat→Nat→Bool} (O:Od blt) {n:Nat} {p:Nat→Nat} (hlt:∀ k,k < n→p k < n) (inj:∀ a b,a < n→b < n→p a=p b→a=b) (so:∀ a b,a < b→b < n→Lex blt (p a) (p b)) :
 (pi n).map p=fu (fun i j=>!blt j i) (pi n):=by
 refine tP (fun a b h h'=>h.as O h') ((nW hlt inj).trans (dR _ _).symm) ?_ (pJ O _ OF);rw [MY];exact (OF (n:=n)).imp_of_mem fun {a b} ha hb hab=>so a b hab (by simpa using hb)
section
variable {prog:rl} {w:C_} {A:D_} {E:g_→h_→Prop} {s:h_}
end
section
variable {prog:rl} {w:C_} {A:D_} {E:g_→h_→Prop} {s:h_} {blt:Nat→Nat→Bool}
end
end TS
namespace FD
open PySem PySem.Spec PyProof.Rows L2 TS
section
variable {X:Cx} {j':List (k_×Obj)} {σ:L2.St} {H:Hp} {s:h_}
end
section
variable {X:Cx} {j':List (k_×Obj)} {σ:L2.St} {H:Hp} {s:h_}
theorem fJ {K:f_}:∀ {ds:List Dv} {ws:List V},Reps K H ds ws→ds.length=ws.length
 | [],ws,r=>by cases (show ws=[] from r); rfl
 | d :: ds,ws,r=>by
  obtain ⟨u,ws1,rfl,r1,r2⟩:∃ v ws1,ws=v :: ws1∧Rep K H d v∧Reps K H ds ws1:=r;simp [fJ r2]
theorem qw {K:f_} {ds:List Dv} {ws:List V} (hl:ds.length=ws.length) (h:∀ (i:Nat) (d:Dv) (v:V),ds[i]?=a_ d→ws[i]?=a_ v→Rep K H d v):Reps K H ds ws:=by
 induction ds generalizing ws with
 | nil=>cases ws with
  | nil=>exact rfl
  | cons _ _=>simp at hl
 | cons d ds ih=>cases ws with
  | nil=>simp at hl
  | cons w ws=>exact ⟨w,ws,rfl,h 0 d w rfl rfl,ih (by simpa using hl) fun i d' v e1 e2=>h (i + 1) d' v (by simpa using e1) (by simpa using e2)⟩
theorem nX {K:f_}:∀ {ds:List Dv} {ws:List V},Reps K H ds ws→∀ (i:Nat) (d:Dv) (v:V),ds[i]?=a_ d→ws[i]?=a_ v→Rep K H d v
 | [],_,_,i,d,v,h,_=>by simp at h
 | d0 :: ds,ws,r,i,d,v,h,h'=>by
  obtain ⟨u,ws1,rfl,r1,r2⟩:∃ v ws1,ws=v :: ws1∧Rep K H d0 v∧Reps K H ds ws1:=r;cases i with
  | zero=>simp at h h'; subst h; subst h'; exact r1
  | succ i=>exact nX r2 i d v (by simpa using h) (by simpa using h')
theorem qz {ws:List V} {its:List g_} (hl:ws.length=its.length) (h:∀ (i:Nat) (v:V) (u:g_),ws[i]?=a_ v→its[i]?=a_ u→RelV v u):Vals ws its:=by
 induction ws generalizing its with
 | nil=>cases its with
  | nil=>exact .nil
  | cons _ _=>simp at hl
 | cons d ds ih=>cases its with
  | nil=>simp at hl
  | cons w ws=>exact .cons (h 0 d w rfl rfl) (ih (by simpa using hl) fun i d' v e1 e2=>h (i + 1) d' v (by simpa using e1) (by simpa using e2))
end
section
variable {X:Cx} {p pos:Pos} {e:F_} {es:List F_} {ga:FnA}
end
end FD
namespace FD
open PySem PySem.Spec PyProof.Rows L2 PySem.W
section
variable {X:Cx} {hx:F_} {body:List Ky} {f:FnS} {g:FnE} {J n:Str} {CJ:k_} {np rp2 hpos pos:Pos}
end
end FD
namespace FD
open PySem PySem.Spec PyProof.Rows L2 TS
section
variable {X:Cx} {j':List (k_×Obj)} {σ:L2.St} {H:Hp} {s:h_} {k:Nat} {f:k_} {fd:JZ} {ps:List Str} {F:List Dv→Option (Rs Dv)} {A':D_} {E:g_→h_→Prop}
end
end FD
namespace TS
open PySem PyProof.Rows FD
section
variable {prog:rl} {w:C_} {A:D_} {E:g_→h_→Prop} {s:h_} {blt:Nat→Nat→Bool}
theorem xD {a kS:k_} {e1 c:Nat} {its:Array g_} {st:MT} {P:QD→h_→Prop} (hk:s.heap.get? kS=a_ (Ki "list" its c)) (ha:s.heap.get? a=a_ (Ki "list" #[] e1)) (hne:kS≠a) (hz:its.size≤sizeLine) (hz2:(Nu st).size≤sizeLine) (hf:Qh st=ck)
 (h:P (.done (.ret .none)) { s with heap:=(s.heap.update kS (JD fun _=>#[])).update a (JD fun _=>(Nu st).map (·.2)) }):uk (z_ prog w) A (ksk_tail a d_ e1 (.ref kS) st) P E s:=by
 unfold ksk_tail;refine c_ (Nc hk rfl ?_ hz (JA _));refine c_ (QN ?_);have ha2:(s.heap.update kS (JD fun _=>#[])).get? a=a_ (Ki "list" #[] e1):=by
  rw [KF _ _ _ _ hne.symm]; exact ha
 refine c_ (seqEpoch_at (s:={ s with heap:=s.heap.update kS (JD fun _=>#[]) }) ha2 rfl ?_);refine c_ (Nc (s:={ s with heap:=s.heap.update kS (JD fun _=>#[]) }) ha2 rfl ?_ (JA _) (by simp only [p_,if_false,LD]; omega));rw [hf];simp only [bne_self_eq_false,p_,if_false];exact j_ h
end
end TS
namespace FD
open PySem PySem.Spec PyProof.Rows L2 TS
section
variable {X:Cx} {j':List (k_×Obj)} {σ:L2.St} {H:Hp} {s:h_} {k:Nat} {f:k_} {fd:JZ} {ps:List Str} {F:List Dv→Option (Rs Dv)} {A':D_} {E:g_→h_→Prop}
theorem mw:∀ {ds:List Dv} (n:Nat),imms ds=e_→imms (ds.take n)=e_
 | [],n,_=>by simp [imms]
 | d :: ds,0,_=>by simp [imms]
 | d :: ds,n + 1,h=>by
  simp only [imms,on] at h;simp only [List.take_succ_cons,imms,on];exact ⟨h.1,mw n h.2⟩
end
section
variable {X:Cx} {j':List (k_×Obj)} {σ:L2.St} {H:Hp} {s:h_} {k:Nat} {f:k_} {fd:JZ} {ps:List Str} {F:List Dv→Option (Rs Dv)} {A':D_} {E:g_→h_→Prop}
theorem nY {h:H_} {a:k_} {o:Obj} (e:h.get? a=a_ o):de [a] h=[(a,o)]:=by simp [de,e]
theorem nZ {M:PQ} {A:D_} {l:k_} {vs:List g_} {o:Obj} {n:Nat} {c:String} {Q:List g_→h_→Prop} {prog:rl} {w:C_} (ho:s.heap.get? l=a_ o) (hc:o.cls=.type c) (hd:o.data=.seq vs.toArray n) (h2:(x_ c == x_ "list" || x_ c == x_ "tuple")=e_)
 (h:∀ h',(∀ b o,s.heap.get? b=a_ o→h'.get? b=a_ o)→s.heap.objs.size < h'.objs.size→Q vs { s with heap:=h' }) (hsz:vs.length≤sizeLine):uk (z_ prog w) A (collect (.ref l)) Q E s:=by
 unfold collect;refine c_ (OV (Ko entry_proto_collect' ?_));show uk _ _ (do Rm (.builtin "list.__iadd__" ⟨[← newList [],.ref l],[]⟩)) _ _ s
 refine c_ (PH (j_ ⟨NO _ (by decide +kernel),Ko entry_list_iadd' ?_⟩));show uk _ _ (Nz (.ref s.heap.objs.size) (.ref l) (.ref s.heap.objs.size)) _ _ { s with heap:=s.heap.push (Ki "list" #[] 0) };unfold Nz;have ho':(s.heap.push (Ki "list" #[] 0)).get? l=a_ o:=i_ _ ho;refine c_ (MI (T:=c) ⟨o,ho',hc⟩ ?_);rw [if_pos (by rw [Bool.or_assoc,h2]; simp)];refine c_ (OB ho' hd ?_);refine c_ (OB (xs:=#[]) (n:=0) (s_ _ rfl) rfl ?_);rw [if_neg (by simp)];refine c_ (Nc (xs:=#[]) (n:=0) (s_ _ rfl) rfl ?_ (JA _) (by simp only [N5,E_,List.length_nil]; show 0 + vs.length≤_; omega));refine j_ ?_;show uk (z_ prog w) A (do
  let o ← load s.heap.objs.size
  match o.data with
  | .seq xs _=>pure xs.toList
  | _=>MB "internal:collect") Q E { s with heap:=(s.heap.push (Ki "list" #[] 0)).update s.heap.objs.size (JD (· ++ vs.toArray)) }
 refine c_ (wpAny_load (Mu (s_ _ rfl) _) ?_);show uk _ _ (pure ((#[]:Array g_) ++ vs.toArray).toList) Q E _;rw [show ((#[]:Array g_) ++ vs.toArray).toList=vs by simp];refine j_ (h _ (fun b o' q=>?_) ?_)
 · have:=v_ q;rw [KF _ _ _ _ (I_ this),Heap.get?_push_ne _ _ _ (I_ this)];exact q
 · rw [QC,size_push']; exact M9 _
end
section
variable {X:Cx} {j':List (k_×Obj)} {σ:L2.St} {H:Hp} {s:h_} {k:Nat} {f:k_} {fd:JZ} {ps:List Str} {F:List Dv→Option (Rs Dv)} {E:g_→h_→Prop}
end
section
variable {X:Cx} {k' n:Nat} {ps:List Str} {x:Str} {p p2 kp pos:Pos} {e:F_} {F:List Dv→Option (Rs Dv)} {g:FnA}
end
end FD
namespace FD
open PySem PySem.Spec PyProof.Rows L2
section
variable {X:Cx} {p pos:Pos} {e:F_} {es:List F_} {ga:FnA}
end
end FD
namespace TS
open PySem PySem.Spec PyProof.Rows L2 FD
def okF (ks:List Nat):Bool:=ks.all fun k=>k != 0 && u_ (k < 4)
end TS
namespace FD
open PySem PySem.Spec PyProof.Rows L2 TS
section
variable {X:Cx}
end
end FD
namespace FD
open PySem PySem.Spec PyProof.Rows L2
def ao (X:Cx) (N:List Str) (scope:Kz) (C:k_) (s:h_) (H:Hp) (fp:List k_):Cx :=
 { X with N:=N,s₀:=s,H₀:=H,env:=Qb scope (JM (C + 1) scope.names (jx scope.names X.env [])) C X.env,outer:=X.stack,stack:=X.stack,ex:=fp,fn:=fun y=>scope.names.lookup y == a_ .cell,pn:=[],xe:=fun _ _=>False }
structure iU (osc scope:Kz) (cs:List (Str×Nat)) (N:List Str):Prop where
 kind:scope.kind=.function
 one:∀ y∈scope.names,y.2=.cell→scope.names.lookup y.1=a_ .cell
 names:∀ y∈scope.names,y.2=.local→scope.names.lookup y.1=a_ .local
 free:∀ y∈scope.names,y.2=.free→osc.names.lookup y.1=a_ .cell∨osc.names.lookup y.1=a_ .free
 caps:∀ c∈cs,N[c.2]?=a_ c.1∧scope.names.lookup c.1=a_ .free
theorem iD:∀ (names:List (Str×Lx)) (lo:Nat) (acc:List (Str×k_)),JM lo names acc=JM lo names [] ++ acc
 | [],_,_=>rfl
 | (n,k) :: r,lo,acc=>by
  unfold JM;split
  · rw [iD r (lo + 1) ((n,lo) :: acc),iD r (lo + 1) [(n,lo)],N3]; rfl
  · exact iD r lo acc
theorem tU:∀ {names:List (Str×Lx)} {lo:Nat} {n:Str} {c:k_},(n,c)∈JM lo names []→(n,KP)∈names
 | [],_,_,_,h=>(nomatch h)
 | (m,k) :: r,lo,n,c,h=>by
  unfold JM at h;split at h
  · rename_i hk;rw [iD] at h;rcases Jn.mp h with q | q
    · exact o_ _ (tU q)
    · have e:n=m:=by simp at q; exact q.1
      have ek:k=.cell:=by simpa using hk
      subst e ek;exact n_
  · exact o_ _ (tU h)
theorem pK:∀ {names:List (Str×Lx)} {lo:Nat} {n:Str},(n,KP)∈names→((JM lo names []).lookup n).isSome=e_
 | [],_,_,h=>(nomatch h)
 | (m,k) :: r,lo,n,h=>by
  unfold JM;rcases w_.mp h with e | q
  · cases e;rw [if_pos (by decide),iD,K_];cases hl:(JM (lo + 1) r []).lookup m with
    | some _=>rfl
    | none=>simp
  · split
    · rw [iD,K_];have:=pK (lo:=lo + 1) q;cases hl:(JM (lo + 1) r []).lookup n with
      | some _=>rfl
      | none=>rw [hl] at this; cases this
    · exact pK q
theorem zh {M:PQ} {A:D_} {E:g_→h_→Prop} {s:h_} {scope:Kz} {globals:k_} {cl:List (Str×k_)} {qual:Str} {env:Env} {Q:Env→h_→Prop} (hk:scope.kind=.function)
 (hQ:Q (newEnv scope s.heap.objs.size globals (JM (s.heap.objs.size + 1) scope.names cl) qual ck .none (a_ env) builtinsNs) { s with heap:=pushCells (s.heap.push { cls:=.type "dict",data:=.dict #[] }) scope.names }) :
 uk M A (OW scope globals cl [] qual ck .none (a_ env)) Q E s:=by
 simp only [OW,Option.isSome_some,if_true];refine c_ (QO ?_);refine c_ (wpAny_layCells _ (fun name kind cells=>by cases hkc:kind == KP <;> simp [hkc]) _ _ _ _ ?_);rw [show ({ s with heap:=s.heap.push { cls:=.type "dict",data:=.dict #[] } }:h_).heap.objs.size=s.heap.objs.size + 1 from JE ..];refine c_ ?_;rw [NW];exact j_ (j_ hQ)
theorem tV {X:Cx} {j':List (k_×Obj)} {σ:L2.St} {H:Hp} {s:h_} {scope:Kz} {ns:List Str} {cs:List (Str×Nat)} {fp:List k_} {h₁:H_} {C:k_} {t':Nat} (ok:iU X.env.scope scope cs X.N) (I:Inv X j' σ H s) (hfp:∀ b∈fp,ni X j' H b) (hlt:∀ b∈fp,b < s.heap.objs.size)
 (hC:s.heap.objs.size≤C) (hns:h₁.Ns C fun _=>ck) (old:∀ b o,s.heap.get? b=a_ o→h₁.get? b=a_ o) (hck:CellsOk h₁ (C + 1) (JM (C + 1) scope.names [])) :
 Inv (ao X (ns ++ cs.map (·.1)) scope C s H fp) [] (mf ns.length cs σ) H { s with heap:=h₁,toks:=t' }:=by
 have cl1:∀ n c,(jx scope.names X.env []).lookup n=a_ c→X.env.cells.lookup n=a_ c:=fun n c e=>by
  rcases kt _ _ e with q | ⟨q1,q2⟩
  · simp at q
  · obtain ⟨c',e'⟩:=I.ok.has n (ok.free _ q1 rfl);rw [e'] at q2;rw [e',q2] <;> rfl
 have lk:∀ n c,(ao X (ns ++ cs.map (·.1)) scope C s H fp).env.cells.lookup n=a_ c→(n,c)∈JM (C + 1) scope.names []∨((n,KP) ∉ scope.names∧(jx scope.names X.env []).lookup n=a_ c):=fun n c e=>by
  have e':(JM (C + 1) scope.names (jx scope.names X.env [])).lookup n=a_ c:=e;rw [iD,K_] at e';cases hl:(JM (C + 1) scope.names []).lookup n with
  | some c'=>rw [hl] at e'; cases e'; exact .inl (mem_of_lookup hl)
  | none =>
   rw [hl] at e';refine .inr ⟨fun hm=>?_,e'⟩;have:=pK (lo:=C + 1) hm;rw [hl] at this;cases this
 have lk2:∀ n c,(n,KP) ∉ scope.names→(jx scope.names X.env []).lookup n=a_ c→(ao X (ns ++ cs.map (·.1)) scope C s H fp).env.cells.lookup n=a_ c:=fun n c hm e=>by
  show (JM (C + 1) scope.names (jx scope.names X.env [])).lookup n=a_ c;rw [iD,K_];cases hl:(JM (C + 1) scope.names []).lookup n with
  | some c'=>exact absurd (tU (mem_of_lookup hl)) hm
  | none=>exact e
 have big:∀ n c,(n,c)∈JM (C + 1) scope.names []→s.heap.objs.size < c:=fun n c hm=>G_ (Nat.lt_succ_of_le hC) (hck.empty n c hm).2;have low:∀ n c,(jx scope.names X.env []).lookup n=a_ c→c < s.heap.objs.size:=fun n c e=>by
  obtain ⟨v,o,ho,_⟩:=I.cell n c (cl1 n c e);exact v_ ho
 have inj:∀ y z c,(ao X (ns ++ cs.map (·.1)) scope C s H fp).env.cells.lookup y=a_ c→(ao X (ns ++ cs.map (·.1)) scope C s H fp).env.cells.lookup z=a_ c→y=z:=fun y z c e1 e2=>by
  rcases lk y c e1 with p | ⟨_,p⟩ <;> rcases lk z c e2 with q | ⟨_,q⟩
  · exact name_of_addr hck.apart p q
  · exact absurd (Qj (big y c p) (low z c q)) (Kw _)
  · exact absurd (Qj (big z c q) (low y c p)) (Kw _)
  · exact I.ok.inj y z c (cl1 y c p) (cl1 z c q)
 refine ⟨⟨I.ok.mod,ok.kind,I.ok.glob,I.ok.blt,hC,inj,fun y hy=>?_,fun y c hfn e=>?_,I.ok.hd,I.ok.frames,.inl rfl,fun b hb=>⟨fun z=>?_,fun y c e=>?_⟩,I.bs,Jy I.ok.bsz I.sz,fun b o e hb=>?_,fun b hb z=>?_,I.stack,I.stkFree⟩,
  rfl,I.bare,Un.kept old,⟨_,hns,fun i y v h1 h2 h3=>?_⟩,fun y c e=>?_,I.hok.fresh hC,fun y c e=>?_,fun p hp=>absurd (show p∈([]:List (k_×Obj)) from hp) (by simp),I.hok.kept old,by simp [mf,ao]⟩
 · have hm:(y,KP)∈scope.names∨(y,Kv)∈scope.names:=by
    rcases hy with hy | hy
    · rcases jg hy with q | ⟨_,q⟩
      · exact .inl q
      · exact .inr q
    · rcases jg hy with q | ⟨q,_⟩
      · exact .inr q
      · cases q
   by_cases hcl:(y,KP)∈scope.names
   · obtain ⟨c,hc'⟩:=Lq.mp (pK (lo:=C + 1) hcl);refine ⟨c,?_⟩;show (JM (C + 1) scope.names (jx scope.names X.env [])).lookup y=a_ c;rw [iD,K_,hc'];rfl
   · obtain ⟨c,hc'⟩:=Lq.mp (kY (env:=X.env) scope.names [] (hm.resolve_left hcl));exact ⟨c,lk2 y c hcl hc'⟩
 · have hfn':scope.names.lookup y=a_ .cell:=by simpa [ao] using hfn
   rcases lk y c e with p | ⟨p,_⟩
   · exact Mg (big y c p)
   · exact absurd (fk hfn') p
 · have:=hlt b hb;rw [z] at this;exact absurd (G_ this hC) (Kw _)
 · rcases lk y c e with p | ⟨_,p⟩
   · exact fun z=>absurd (Qj (big y c p) (z ▸ hlt b hb)) (Kw _)
   · exact (hfp b hb).2.2.2.2.1 y c (cl1 y c p)
 · rcases (hfp b hb).2.2.2.1 with z | z
   · exact I.ok.noex b o e z
   · exact absurd (G_ (v_ e) (Jy I.ok.bsz z)) (Kw _)
 · rcases w_.mp (I.stkSub b z) with q | q
   · exact (hfp b hb).2.1 q
   · exact (hfp b hb).2.2.1 q
 · obtain ⟨k,rfl,h4⟩:=mh h2;have h1':(ns ++ cs.map (·.1))[ns.length + k]?=a_ y:=h1;rw [KC (by simp)] at h1';simp only [Om] at h1';rw [JG] at h1';cases hc:cs[k]? with
   | none=>rw [hc] at h1'; simp at h1'
   | some c =>
    rw [hc] at h1';have ey:c.1=y:=by simpa using h1'
    subst ey;rw [JG,hc] at h4;simp only [LQ,Li] at h4;have h2':σ[c.2]?=a_ (a_ v):=by
     cases q:σ[c.2]? with
     | none=>rw [q] at h4; simp at h4
     | some o=>rw [q] at h4; simp at h4; rw [h4]
    obtain ⟨hN,hf⟩:=ok.caps c (Ll hc);have hv:=ok.free _ (fk hf) rfl;obtain ⟨mm,_,hl⟩:=I.loc;obtain ⟨u,r,l⟩:=hl c.2 c.1 v hN h2' (.inr hv);refine ⟨u,r,.inr ⟨jh hf,?_⟩⟩;rcases l with ⟨l,_⟩ | ⟨_,a,ha,o,ho,hd⟩
    · have l':X.env.scope.names.lookup c.1=a_ .local:=l;rcases hv with z | z
      · rw [l'] at z; cases z
      · rw [l'] at z; cases z
    · obtain ⟨a',ha'⟩:=Lq.mp (kY (env:=X.env) scope.names [] (fk hf));have e2:=cl1 _ _ ha';rw [ha] at e2;cases e2;exact ⟨a,lk2 _ _ (fun hm=>by have z:=ok.one _ hm rfl; rw [hf] at z; cases z) ha',o,old _ _ ho,hd⟩
 · rcases lk y c e with p | ⟨_,p⟩
   · exact ⟨ck,(hck.empty y c p).1⟩
   · obtain ⟨v,o,ho,hd⟩:=I.cell y c (cl1 y c p);exact ⟨v,o,old _ _ ho,hd⟩
 · rcases lk y c e with p | ⟨_,p⟩
   · exact I.hok.fresh (Mg (big y c p))
   · exact I.freeC y c (cl1 y c p)
def CN (X:Cx) (ns:List Str) (cs:List (Str×Nat)) (scope:Kz) (D:k_) (s2:h_) (H2:Hp) (fp:List k_) (tn:Nat→H_→Prop) (ds ys:List Dv) (b:Dv→Ev→Option Ev) (tst:Option FnB) (fe:FnE) (ρ:Ev) (m:Nat) (s':h_):Prop :=
 ∃ i σ' H' es vs its,m=ds.length - i∧i≤ds.length∧Inv (ao X (ns ++ cs.map (·.1)) scope (D + 1) s2 H2 fp) [] σ' H' s'∧Envs X.K H' σ' (gT ns.length cs ρ)∧tn i s'.heap∧(∀ b∈fp,H' b=ck)∧H' D=ck∧LAt s'.heap D its∧Vals vs its∧Reps X.K H' es vs∧es.length≤i∧Same H2 H' ∧
  (match jq b tst fe (gT ns.length cs ρ) (ds.drop i) with | some zs=>es ++ zs=ys | none=>False)
theorem kz {X:Cx} {j':List (k_×Obj)} {σ:L2.St} {tg elt iter:F_} {ifs:List F_} {scope:Kz} {pos:Pos} {ns:List Str} {tst:Option FnB} {fe:FnE} {b:Dv→Ev→Option Ev} {js:List Nat} (cs:List (Str×Nat)) (ok:iU X.env.scope scope cs X.N) (hc:X.calm=e_)
 (htg:∀ C s H fp,FG (ao X (ns ++ cs.map (·.1)) scope C s H fp) tg b) (helt:∀ C s H fp,(∃ j' σ,Inv X j' σ H s)→FE (ao X (ns ++ cs.map (·.1)) scope C s H fp) elt fe) (hifs:∀ C s H fp,(∃ j' σ,Inv X j' σ H s)→uU (ao X (ns ++ cs.map (·.1)) scope C s H fp) ifs tst)
 (hback:∀ ρ d ρ',b d (gT ns.length cs ρ)=a_ ρ'→fgt js ρ'=gT ns.length cs ρ)
 {ρ:Ev} {s2:h_} {it:k_} {fp:List k_} {tn:Nat→H_→Prop} {J:It} {H2:Hp} (E:Envs X.K H2 σ ρ) (I2:Inv X j' σ H2 s2) (T:u8 X.prog X.w X.K tg J fp it tn) (st2:tn 0 s2.heap) (f2:∀ b∈fp,ni X j' H2 b) {ds ys:List Dv} (wk:WkG X.K J ds H2) (hdl:ds.length≤100000) (hyl:ys.length≤100000) (hm:jq b tst fe (gT ns.length cs ρ) ds=a_ ys)
 {RR:g_→k_→O9→h_→Prop}
 (hRR:∀ (D C:k_) (s6:h_) (H5:Hp) (vs:List V) (m6:Str→Option g_),Inv X j' σ (upd H5 D (.lst vs)) s6→H5 D=ck→Same H2 H5→Reps X.K H5 ys vs→s6.heap.Ns C m6→H5 C=ck→C≠D→s2.heap.objs.size≤C→RR (.ref D) C (.ok .next) s6) :
 uk (z_ X.prog X.w) X.A (newList []) (fun acc s₃=>uk (z_ X.prog X.w) X.A (OW scope X.env.globals (jx scope.names X.env []) [] X.env.qual ck .none (a_ X.env)) (fun cenv s₄ =>
  L4 (z_ X.prog X.w) X.A (.compStart (.ListComp elt [⟨tg,iter,ifs,0⟩] scope pos) 0 (.ref it) acc { cenv with scope:=relabel scope X.env }) (RR acc cenv.locals) s₄) X.xe s₃) X.xe s2:=by
 have fplt:∀ b∈fp,b < s2.heap.objs.size:=fun b hb=>by
  obtain ⟨o,ho,_⟩:=T.obj _ _ st2 b hb;exact v_ ho
 refine KU (zh ok.kind ?_);dsimp only;generalize hH2:s2.heap.push { cls:=.type "list",dict:=ck,data:=.seq ([]:List g_).toArray }=P2;obtain ⟨D,hD⟩:∃ D,s2.heap.objs.size=D:=⟨_,rfl⟩;have hC:P2.objs.size=D + 1:=by rw [← hH2,JE,hD]
 rw [hC,hD];obtain ⟨h₁,hh₁⟩:∃ h,h=pushCells (P2.push { cls:=.type "dict",data:=.dict #[] }) scope.names:=⟨_,rfl⟩;rw [← hh₁];have kp:∀ b o,P2.get? b=a_ o→h₁.get? b=a_ o:=fun b o e=>by rw [hh₁]; exact pushCells_keeps _ _ b o (i_ _ e)
 have old:∀ b o,s2.heap.get? b=a_ o→h₁.get? b=a_ o:=fun b o e=>kp b o (hH2 ▸ i_ _ e);have hacc:LAt h₁ D []:=⟨0,kp _ _ (by rw [← hH2,← hD]; exact s_ _ rfl)⟩;have hns:h₁.Ns (D + 1) fun _=>ck:=by
  rw [hh₁,← hC];exact (Heap.Ns.new P2 (.type "dict")).keeps (pushCells_keeps _ _)
 have hck:CellsOk h₁ (D + 1 + 1) (JM (D + 1 + 1) scope.names []):=by
  have q:=cellsFrom_ok scope.names (P2.push { cls:=.type "dict",data:=.dict #[] }) (D + 1 + 1) [] ⟨fun _ _ hm=>(nomatch hm),N4⟩ (by rw [JE,hC]; exact r_ _);rw [JE,hC,← hh₁] at q;exact q
 have I4:Inv (ao X (ns ++ cs.map (·.1)) scope (D + 1) s2 H2 fp) [] (mf ns.length cs σ) H2 { s2 with heap:=h₁ }:=tV (t':=s2.toks) ok I2 f2 fplt (by rw [hD]; exact Pf D) hns old hck;have E4:Envs X.K H2 (mf ns.length cs σ) (gT ns.length cs ρ):=si ns.length cs E;have HD:H2 D=ck:=I2.hok.fresh (MW hD);have fpD:∀ b∈fp,b≠D:=fun b hb=>yq (hD ▸ fplt b hb);have loop:∀ s4:h_,s4={ s2 with heap:=h₁ } →
  L4 (z_ X.prog X.w) X.A (.compLoop (.ListComp elt [⟨tg,iter,ifs,0⟩] scope pos) 0 (.ref it) (.ref D) (Qb scope (JM (D + 1 + 1) scope.names (jx scope.names X.env [])) (D + 1) X.env)) (RR (.ref D) (D + 1)) s4:=by
  rintro s4 rfl;refine mi (fun k s'=>CN X ns cs scope D s2 H2 fp tn ds ys b tst fe ρ k s') ?_ ds.length ⟨0,mf ns.length cs σ,H2,[],[],[],by simp,JA _,I4,E4,T.keep _ _ _ st2 fun b hb o e=>old b o e,fun b hb=>(f2 b hb).1,HD,hacc,.nil,rfl,r_ _,.refl H2,by rw [Ph,hm]; rfl⟩;rintro k0 s5 ⟨i,σ5,H5,es,vs,its,rfl,hi5,I5,E5,t5,fr5,D5,l5,v5,r5,hel,e5,hz⟩;have nC:∀ b∈fp,b≠D + 1:=fun b hb=>BG (hD ▸ fplt b hb);have DL:D≠(ao X (ns ++ cs.map (·.1)) scope (D + 1) s2 H2 fp).env.locals:=HB;have Dcell:∀ y c,(ao X (ns ++ cs.map (·.1)) scope (D + 1) s2 H2 fp).env.cells.lookup y=a_ c→c≠D:=fun y c e z=>by
   obtain ⟨v,o,ho,hd⟩:=I5.cell y c e;obtain ⟨n,q⟩:=l5;subst z;rw [q] at ho;cases ho;cases hd
  have Dfs:D ∉ (ao X (ns ++ cs.map (·.1)) scope (D + 1) s2 H2 fp).fs:=fun z=>by
   rcases w_.mp (I2.stkSub D z) with q | q
   · have z2:=I2.lt;rw [hD] at z2;exact yq z2 q.symm
   · exact I2.nofs (MW hD) q
  have Dp:ni (ao X (ns ++ cs.map (·.1)) scope (D + 1) s2 H2 fp) [] H5 D:=⟨D5,DL,Dfs,.inr (MW hD),Dcell,fun p hp=>absurd (show p∈([]:List (k_×Obj)) from hp) (by simp)⟩;have Dob:∀ b∈[D],∃ o,s5.heap.get? b=a_ o∧∀ v,o.data≠.cell v:=fun b hb=>by
   have e:b=D:=by simpa using hb
   subst e;obtain ⟨n,q⟩:=l5;exact ⟨_,q,fun v z=>by cases z⟩
  have I5p:Inv (ao X (ns ++ cs.map (·.1)) scope (D + 1) s2 H2 fp) (de [D] s5.heap) σ5 H5 s5:=by
   have q:=I5.pinned (fp:=[D]) (fun b hb=>by
    have e:b=D:=by simpa using hb
    subst e; exact Dp) Dob
   rw [QX] at q;exact q
  have ner:∀ b∈fp,∀ p∈de [D] s5.heap,p.1≠b:=fun b hb p hp z=>by
   have e:p.1=D:=by simpa using (jH hp).1
   exact fpD b hb (z.symm.trans e)
  have fp5':∀ b∈fp,ni (ao X (ns ++ cs.map (·.1)) scope (D + 1) s2 H2 fp) (de [D] s5.heap) H5 b:=fun b hb=>⟨fr5 b hb,nC b hb,I4.ok.exfs b hb,.inl hb,(I4.ok.exf b hb).2,fun p hp=>ner b hb p (by simpa [ao] using hp)⟩;have lenR:vs.length=es.length:=r5.length;have lenV:vs.length=its.length:=v5.length;by_cases hlt:i < ds.length
  · refine thn (T.item (ao X (ns ++ cs.map (·.1)) scope (D + 1) s2 H2 fp) rfl rfl rfl hc i (de [D] s5.heap) s5 σ5 H5 _ I5p fp5' t5 (wk.go i H5 e5 hlt)) fun r s6 ⟨u,hr,h6⟩=>?_;subst hr;refine thn h6 fun _ s7 ⟨xv,H7,I7,r7,y7,t7,fr7⟩=>?_;obtain ⟨e57,d,hd,rd⟩:=wk.yld i H5 xv H7 e5 hlt y7;rw [iw hd] at hz;have I7p:=I7.pinned (fp:=fp) (fun b hb=>⟨fr7 b hb,nC b hb,I4.ok.exfs b hb,.inl hb,(I4.ok.exf b hb).2,fun p hp=>ner b hb p (by simpa [ao] using hp)⟩) (T.obj _ _ t7);have fin:∀ {σ8:L2.St} {H8:Hp} {s8:h_},Inv (ao X (ns ++ cs.map (·.1)) scope (D + 1) s2 H2 fp) (de [D] s5.heap ++ de fp s7.heap) σ8 H8 s8→tn (i + 1) s8.heap∧(∀ b∈fp,H8 b=ck)∧H8 D=ck∧LAt s8.heap D its:=fun {σ8 H8 s8} I8=>by
     refine ⟨T.keep _ _ _ t7 fun b hb o e=>(I8.pin (b,o) (m_ _ (m_ _ (cU hb e)))).1,fun b hb=>?_,?_,?_⟩
     · obtain ⟨o,e,_⟩:=T.obj _ _ t7 b hb;exact (I8.pin (b,o) (m_ _ (m_ _ (cU hb e)))).2.1
     · obtain ⟨n,q⟩:=l5;exact (I8.pin (D,_) (m_ _ (A_ _ (cU (by simp) q)))).2.1
     · obtain ⟨n,q⟩:=l5;exact ⟨n,(I8.pin (D,_) (m_ _ (A_ _ (cU (by simp) q)))).1⟩
    unfold jq at hz
    match hb:b d (gT ns.length cs ρ) with
    | none=>rw [hb] at hz; exact hz.elim
    | some ρd =>
     rw [hb] at hz;dsimp only at hz;refine JC ((htg (D + 1) s2 H2 fp).h _ s7 σ5 H7 xv u d (gT ns.length cs ρ) ρd I7p r7 rd (E5.mono e57) hb) (fun _ s8 ⟨σ8,H8,I8,e78,E8⟩=>?_) fun _ _ z=>JK z;have e58:=e57.trans e78;have back:∀ {σ9:L2.St} {H9:Hp},Envs X.K H9 σ9 ρd→Envs X.K H9 σ9 (gT ns.length cs ρ):=fun {σ9 H9} E9=>by
      have q:=Envs.fgt js E9;rw [hback ρ d ρd hb] at q;exact q
     have took:∀ {H9:Hp} {s9:h_},Inv (ao X (ns ++ cs.map (·.1)) scope (D + 1) s2 H2 fp) (de [D] s5.heap ++ de fp s7.heap) σ8 H9 s9→Same H8 H9 →
      (match (match fe ρd with | some (.ok y)=>(match jq b tst fe (gT ns.length cs ρ) (ds.drop (i + 1)) with | some ys=>a_ (y :: ys) | none=>ck) | _=>ck) with | some zs=>es ++ zs=ys | none=>False) →
      uk (z_ X.prog X.w) X.A (eval elt (Qb scope (JM (D + 1 + 1) scope.names (jx scope.names X.env [])) (D + 1) X.env)) (fun xw s₄ =>
       uk (z_ X.prog X.w) X.A (call (.builtin "list.append") [.ref D,xw]) (fun _ s₅=>∃ k,k < ds.length - i∧CN X ns cs scope D s2 H2 fp tn ds ys b tst fe ρ k s₅) (Ou (z_ X.prog X.w) X.A (Qb scope (JM (D + 1 + 1) scope.names (jx scope.names X.env [])) (D + 1) X.env) fun e s'=>RR (.ref D) (D + 1) (.error e) s') s₄) (Ou (z_ X.prog X.w) X.A (Qb scope (JM (D + 1 + 1) scope.names (jx scope.names X.env [])) (D + 1) X.env) fun e s'=>RR (.ref D) (D + 1) (.error e) s') s9:=fun {H9 s9} I9 e9 hz9=>by
      match hfe:fe ρd,hz9 with
      | none,hz9=>exact hz9.elim
      | some (.exc c),hz9=>exact hz9.elim
      | some (.ok y),hz9 =>
       refine JC ((helt (D + 1) s2 H2 fp ⟨_,_,I2⟩).h _ s9 σ8 H9 (fun v H10=>Same H9 H10∧Rep X.K H10 y v) I9 ⟨ρd,E8.mono e9,by rw [hfe]; exact fun v H10 e10 r10=>⟨e10,r10⟩⟩) (fun w s10 ⟨yv,H10,I10,rw10,e10,r10⟩=>?_) fun _ _ z=>JK z;obtain ⟨t10,fr10,D10,l10⟩:=fin I10;refine qg l10 (by omega) fun h11 l11 k11=>?_;have I10':Inv (ao X (ns ++ cs.map (·.1)) scope (D + 1) s2 H2 fp) (de fp s7.heap) σ8 H10 s10:=I10.pins_of fun p hp=>I10.pin p (m_ _ (m_ _ hp));have I11:Inv (ao X (ns ++ cs.map (·.1)) scope (D + 1) s2 H2 fp) (de fp s7.heap) σ8 H10 { s10 with heap:=h11 }:=I10'.turned (t':=s10.toks) k11 D10 DL (.inr (MW hD)) Dcell fun p hp z=>by
        have hp':p∈de fp s7.heap:=by simpa [ao] using hp
        exact fpD p.1 (jH hp').1 z
       have e80:=e9.trans e10;refine ⟨ds.length - (i + 1),by omega,i + 1,σ8,H10,es ++ [y],vs ++ [yv],its ++ [w],rfl,hlt,I11.pins_of fun p hp=>absurd hp (by simp),back (E8.mono e80),T.keep _ _ _ t10 fun b hb o e=>k11 b o (fpD b hb) e,fr10,D10,l11,v5.append (.cons rw10 .nil),(Reps.mono (e58.trans e80) _ _ r5).append ⟨yv,[],rfl,r10,rfl⟩,by rw [Kf,OS]; omega,e5.trans (e58.trans e80),?_⟩
       match hm2:jq b tst fe (gT ns.length cs ρ) (ds.drop (i + 1)),hz9 with
       | none,hz9=>exact hz9.elim
       | some zs,hz9=>dsimp only at hz9 ⊢; rw [N3]; exact hz9
     have hif:=hifs (D + 1) s2 H2 fp ⟨_,_,I2⟩;cases tst with
     | none =>
      cases (show ifs=[] from hif);exact wpAny_tests_nil (by rw [if_pos rfl]; exact took I8 (.refl H8) hz)
     | some t =>
      obtain ⟨c,rfl,hct⟩:=hif
      match htt:t ρd,hz with
      | none,hz=>simp only [htt] at hz
      | some (.exc c),hz=>simp only [htt] at hz
      | some (.ok e_),hz =>
       simp only [htt] at hz;refine wpAny_tests_one (JC (hct.h _ s8 σ8 H8 (fun b H9=>b=e_∧Same H8 H9) I8 ⟨_,E8,by rw [htt]; exact fun H9 e9=>⟨rfl,e9⟩⟩) (fun b s9 ⟨H9,I9,hb,e9⟩=>?_) fun _ _ z=>JK z);subst hb;rw [if_pos rfl];exact took I9 e9 hz
      | some (.ok d_),hz =>
       simp only [htt] at hz;refine wpAny_tests_one (JC (hct.h _ s8 σ8 H8 (fun b H9=>b=d_∧Same H8 H9) I8 ⟨_,E8,by rw [htt]; exact fun H9 e9=>⟨rfl,e9⟩⟩) (fun b s9 ⟨H9,I9,hb,e9⟩=>?_) fun _ _ z=>JK z);subst hb;rw [if_neg xy];obtain ⟨t9,fr9,D9,l9⟩:=fin I9;exact ⟨ds.length - (i + 1),by omega,i + 1,σ8,H9,es,vs,its,rfl,hlt,I9.pins_of fun p hp=>absurd hp (by simp),back (E8.mono e9),t9,fr9,D9,l9,v5,Reps.mono (e58.trans e9) _ _ r5,by omega,e5.trans (e58.trans e9),hz⟩
  · have hi':i=ds.length:=by omega
    subst hi';rw [Na] at hz;have hz':es ++ []=ys:=hz;rw [My] at hz';subst hz';refine thn (T.done (ao X (ns ++ cs.map (·.1)) scope (D + 1) s2 H2 fp) rfl rfl rfl hc ds.length (de [D] s5.heap) s5 σ5 H5 _ I5p fp5' t5 (wk.stop H5 e5)) fun r s6 ⟨hr,I6⟩=>?_;subst hr;have l6:LAt s6.heap D its:=by
     obtain ⟨n,q⟩:=l5;exact ⟨n,(I6.pin (D,_) (m_ _ (cU (by simp) q))).1⟩
    obtain ⟨m6,n6,_⟩:=I6.loc;have C6:H5 (D + 1)=ck:=I6.free;have new:ObjOk X.prog X.w (upd H5 D (.lst vs)) s6.heap D (.lst vs):=by
     obtain ⟨n,q⟩:=l6;exact ⟨by rw [lenR]; exact cr hyl,its,n,v5,q⟩
    have u6:Un (L2.frs X.stack) fp H2 H5 s2.heap s6.heap:=I6.base;have nD:∀ b o,s2.heap.get? b=a_ o→b≠D:=fun b o e=>by
     have hb:b < D:=by rw [← hD]; exact v_ e
     exact yq hb
    have u7:Un (L2.frs X.stack) fp H2 (upd H5 D (.lst vs)) s2.heap s6.heap:=⟨u6.keep,u6.slot,fun b o e n hx=>by rw [av (nD b o e)]; exact u6.free b o e n hx,u6.there,fun b xs q=>by
     have q':=u6.tups b xs q;rw [av (aq q' D5)]; exact q',fun b o u q=>by
     have q':=u6.frzs b o u q;rw [av (aq q' D5)]; exact q',fun b ps q=>by
     obtain ⟨more,q'⟩:=u6.tbls b ps q;exact ⟨more,by rw [av (aq q' D5)]; exact q'⟩⟩
    have I7:Inv X j' σ (upd H5 D (.lst vs)) s6:=I2.call' (s':=s6) (ch:=fp) I6.os u7 (HOk.add I6.hok D5 C6 (fun b u _ q=>q) new) I6.bare fun b hb=>⟨(f2 b hb).2.2.2.1,(f2 b hb).2.1,(f2 b hb).2.2.2.2.1,(f2 b hb).2.2.2.2.2⟩;exact hRR D (D + 1) s6 H5 vs m6 I7 D5 e5 r5 n6 C6 (MU HB) (by rw [hD]; exact Pf D)
 exact codeAny_compStart_list (loop _ rfl) (T.self _ 0 _ _ _ (T.keep _ _ _ st2 fun b hb o e=>old b o e) (loop _ rfl))
theorem vW {X:Cx} {tg elt iter:F_} {ifs:List F_} {scope:Kz} {pos:Pos} {src:FnA} {tst:Option FnB} {fe:FnE} {b:Dv→Ev→Option Ev} (osc:Kz) (N ns:List Str) (js:List Nat) (cs:List (Str×Nat)) (hosc:X.env.scope=osc) (hN:X.N=N) (ok:iU osc scope cs N) (hcl:LH scope X.env=pure (jx scope.names X.env [])) (hc:X.calm=e_)
 (hback:∀ ρ d ρ',b d (gT ns.length cs ρ)=a_ ρ'→fgt js ρ'=gT ns.length cs ρ)
 (hi:FIG X tg iter src) (htg:∀ C s H fp,FG (ao X (ns ++ cs.map (·.1)) scope C s H fp) tg b) (helt:∀ C s H fp,(∃ j' σ,Inv X j' σ H s)→FE (ao X (ns ++ cs.map (·.1)) scope C s H fp) elt fe) (hifs:∀ C s H fp,(∃ j' σ,Inv X j' σ H s)→uU (ao X (ns ++ cs.map (·.1)) scope C s H fp) ifs tst)
 (hs:∀ x,JF iter X.env x=pure x:=by intro _; kernel_rfl):FE X (.ListComp elt [⟨tg,iter,ifs,0⟩] scope pos) (cj ns.length cs src b tst fe):=by
 subst hosc hN;constructor;intro j' s σ H Q I h;obtain ⟨ρ,E,o⟩:=h
 match ho:cj ns.length cs src b tst fe ρ with
 | none=>rw [ho] at o; exact o.elim
 | some r =>
  rw [ho] at o;rw [eval_ListComp];have key:OutG X H (src ρ) fun J H'=>∃ ds ys,Same H H'∧WkG X.K J ds H'∧ds.length≤100000∧ys.length≤100000∧jq b tst fe (gT ns.length cs ρ) ds=a_ ys∧(∀ v H'',Same H' H''→Rep X.K H'' (.lst ys) v→Q v H''):=by
   rcases FV ho with ⟨c,e1,e2⟩ | ⟨ds,ys,e1,e2,l1,l2,e3⟩
   · subst e2; rw [e1]; exact o
   · subst e3; rw [e1]; exact fun J H' e wk=>⟨ds,ys,e,wk,l1,l2,e2,fun v H'' e2 r=>o v H'' (e.trans e2) r⟩
  refine N6 (use:=ck) rfl hs hcl ok.kind ok.names (thn (hi.h j' s σ H _ I ⟨ρ,E,key⟩) fun v s1 h1=>thn h1 fun itv s2 h2=>?_);obtain ⟨it,fp,tn,J,H2,e,I2,T,st2,f2,ds,ys,e12,wk,hdl,hyl,hm,hQ⟩:=h2;subst e;refine kz cs ok hc htg helt hifs hback (E.mono e12) I2 T st2 f2 wk hdl hyl hm (RR:=fun acc C=>compPost (z_ X.prog X.w) X.A X.xe ck (EP X j' σ Q) acc C) fun D C s6 H5 vs m6 I6 D5 e5 r5 n6 C6 CD hC=>?_;refine ⟨m6,n6,fun h7 sb7=>?_⟩;have Cn:(upd H5 D (.lst vs)) C=ck:=by rw [av CD]; exact C6
  obtain ⟨q0,q1,q2,q3,q4,q5⟩:=I2.fpOk hC Cn;have I7:Inv X j' σ (upd H5 D (.lst vs)) { s6 with heap:=h7 }:=I6.turned (t':=s6.toks) (fun b o hb e=>sb7.extBut b o hb e) q0 q1 q3 q4 q5;exact ⟨.ref D,_,I7,rfl,hQ _ _ (e5.trans (aG D5 _)) ⟨D,vs,rfl,ax,Reps.mono (aG D5 _) _ _ r5⟩⟩
theorem pL {X:Cx} {tg elt iter:F_} {ifs:List F_} {scope:Kz} {pos:Pos} {src:FnA} {tst:Option FnB} {fe:FnE} {b:Dv→Ev→Option Ev} (osc:Kz) (N ns:List Str) (js:List Nat) (cs:List (Str×Nat)) (hosc:X.env.scope=osc) (hN:X.N=N) (ok:iU osc scope cs N) (hcl:LH scope X.env=pure (jx scope.names X.env [])) (hc:X.calm=e_)
 (hback:∀ ρ d ρ',b d (gT ns.length cs ρ)=a_ ρ'→fgt js ρ'=gT ns.length cs ρ)
 (hi:FIG X tg iter src) (htg:∀ C s H fp,FG (ao X (ns ++ cs.map (·.1)) scope C s H fp) tg b) (helt:∀ C s H fp,FE (ao X (ns ++ cs.map (·.1)) scope C s H fp) elt fe) (hifs:∀ C s H fp,uU (ao X (ns ++ cs.map (·.1)) scope C s H fp) ifs tst)
 (hs:∀ x,JF iter X.env x=pure x:=by intro _; kernel_rfl):FE X (.ListComp elt [⟨tg,iter,ifs,0⟩] scope pos) (cj ns.length cs src b tst fe) :=
 vW osc N ns js cs hosc hN ok hcl hc hback hi htg (fun C s H fp _=>helt C s H fp) (fun C s H fp _=>hifs C s H fp) hs
theorem vX {X:Cx} {tg elt iter:F_} {ifs:List F_} {scope:Kz} {pos:Pos} {src:FnA} {tst:Option FnB} {fe:FnE} {b:Dv→Ev→Option Ev} {y:Str} {py spos:Pos} (i:Nat) (hnd:X.N.Nodup) (hiy:X.N[i]?=a_ y) (hxy:Loc X.env.scope y) (hfy:X.fn y=e_∨X.env.scope.names.lookup y=a_ .local)
 (osc:Kz) (N ns:List Str) (js:List Nat) (cs:List (Str×Nat)) (hosc:X.env.scope=osc) (hN:X.N=N) (ok:iU osc scope cs N) (hcl:LH scope X.env=pure (jx scope.names X.env [])) (hc:X.calm=e_)
 (hback:∀ ρ d ρ',b d (gT ns.length cs ρ)=a_ ρ'→fgt js ρ'=gT ns.length cs ρ)
 (hi:FIG X tg iter src) (htg:∀ C s H fp,FG (ao X (ns ++ cs.map (·.1)) scope C s H fp) tg b) (helt:∀ C s H fp,FE (ao X (ns ++ cs.map (·.1)) scope C s H fp) elt fe) (hifs:∀ C s H fp,uU (ao X (ns ++ cs.map (·.1)) scope C s H fp) ifs tst)
 (hsw:KW (.ListComp elt [⟨tg,iter,ifs,0⟩] scope pos) (a_ (.Name y py)) spos.line X.env=pure e_:=by kernel_rfl)
 (hs:∀ x,JF iter X.env x=pure x:=by intro _; kernel_rfl):PS X (.Assign [.Name y py] (.ListComp elt [⟨tg,iter,ifs,0⟩] scope pos) spos) (tC X i (cj ns.length cs src b tst fe)):=by
 subst hosc hN;intro j' s σ H D0 I h;obtain ⟨ρ,E,o⟩:=h
 match ho:cj ns.length cs src b tst fe ρ with
 | none=>rw [ho] at o; exact o.elim
 | some r =>
  rw [ho] at o;have key:OutG X H (src ρ) fun J H'=>∃ ds ys,Same H H'∧WkG X.K J ds H'∧ds.length≤100000∧ys.length≤100000∧jq b tst fe (gT ns.length cs ρ) ds=a_ ys∧(∀ H5 p vs,Same H' H5→H5 p=ck→Reps X.K H5 ys vs→D0.nx (σ.set i (a_ (.ref p))) (upd H5 p (.lst vs))):=by
   rcases FV ho with ⟨c,e1,e2⟩ | ⟨ds,ys,e1,e2,l1,l2,e3⟩
   · subst e2; rw [e1]; exact o
   · subst e3; rw [e1]; obtain ⟨ys',ey,o⟩:=o; cases ey; exact fun J H' e wk=>⟨ds,ys,e,wk,l1,l2,e2,fun H5 p vs e3 hp r=>o H5 p vs (e.trans e3) hp r⟩
  rw [exec_Assign_Name_used _ _ _ _ hsw];refine c_ (PD (c_ ?_));show uk _ X.A (do let _ ← comprehension (.ListComp elt [⟨tg,iter,ifs,0⟩] scope pos) scope X.env _ (newList []) d_ (eval iter X.env) (a_ (LI (.Name y py) X.env))) _ _ s
  refine c_ (JC (N6 (use:=a_ (LI (.Name y py) X.env)) (Q:=fun _ s'=>SP X j' D0 .next s') rfl hs hcl ok.kind ok.names
   (thn (hi.h j' s σ H _ I ⟨ρ,E,key⟩) fun v s1 h1=>thn h1 fun itv s2 h2=>?_)) (fun _ s' hq=>j_ (j_ hq)) fun _ _ e=>e)
  obtain ⟨it,fp,tn,J,H2,e,I2,T,st2,f2,ds,ys,e12,wk,hdl,hyl,hm,hQ⟩:=h2;subst e;refine kz cs ok hc htg (fun C s H fp _=>helt C s H fp) (fun C s H fp _=>hifs C s H fp) hback (E.mono e12) I2 T st2 f2 wk hdl hyl hm (RR:=fun acc C=>compPost (z_ X.prog X.w) X.A X.xe (a_ (LI (.Name y py) X.env)) (fun _ s'=>SP X j' D0 .next s') acc C) fun D C s6 H5 vs m6 I6 D5 e5 r5 n6 C6 CD hC=>?_;have Cn:(upd H5 D (.lst vs)) C=ck:=by rw [av CD]; exact C6
  have FC:=I2.fpOk hC Cn;obtain ⟨oC,es,ep,hoC,hdC,rC⟩:=id n6;have I6p:=I6.pinned (fp:=[C]) (fun b hb=>by
   have e:b=C:=by simpa using hb
   subst e; exact FC) (fun b hb=>by
   have e:b=C:=by simpa using hb
   subst e;exact ⟨oC,hoC,fun v z=>by rw [hdC] at z; cases z⟩)
  refine thn (hZ hnd hiy hxy hfy _ s6 σ _ (.ref D) (.ref D) (fun σ' H'=>σ'=σ.set i (a_ (.ref D))∧H'=upd H5 D (.lst vs)) I6p rfl ⟨rfl,rfl⟩) fun _ s8 ⟨σ8,H8,I8,e1,e2⟩=>?_;subst e1 e2;have hC8:=(I8.pin (C,oC) (m_ _ (m_ _ (cU (by simp) hoC)))).1;refine ⟨m6,⟨oC,es,ep,hC8,hdC,rC⟩,fun h9 sb9=>?_⟩;have I8':Inv X j' (σ.set i (a_ (.ref D))) (upd H5 D (.lst vs)) s8:=I8.unpinned;obtain ⟨q0,q1,q2,q3,q4,q5⟩:=FC;have I9:Inv X j' (σ.set i (a_ (.ref D))) (upd H5 D (.lst vs)) { s8 with heap:=h9 }:=I8'.turned (t':=s8.toks) (fun b o hb e=>sb9.extBut b o hb e) q0 q1 q3 q4 q5;exact ⟨_,_,I9,hQ H5 D vs e5 D5 r5⟩
abbrev bT:=List (Str×Nat×List Str×(List Dv→Option (Rs Dv)))
theorem iE {β:Type} {x y:Str} {e e':β} {T:List (Str×β)} (h:((y,e) :: T).lookup x=a_ e'):(x=y∧e'=e)∨T.lookup x=a_ e':=by
 rw [JN] at h;split at h
 · rename_i hb;exact .inl ⟨Pm hb,by cases h; rfl⟩
 · exact .inr h
section
variable {P:rl} {w:C_} {K:f_} {mg:Str→Option g_} {base:H_} {T:bT} {y:Str} {k:Nat} {ps:List Str} {F:List Dv→Option (Rs Dv)}
structure HA (P:rl) (w:C_) (K:f_) (mg:Str→Option g_) (base:H_) (T:bT):Prop where
 h:∀ x e,T.lookup x=a_ e→Has P w K mg base x e.1 e.2.1 e.2.2
structure HAE (P:rl) (w:C_) (K:f_) (mg:Str→Option g_) (base:H_) (T:bT):Prop where
 h:∀ x e,T.lookup x=a_ e→Ey P w K mg base x e.1 e.2.1 e.2.2
structure HAM (P:rl) (w:C_) (K:f_) (mg:Str→Option g_) (base:H_) (T:bT):Prop where
 h:∀ x e,T.lookup x=a_ e→IC P w K mg base x e.1 e.2.1 e.2.2
theorem CO:HA P w K mg base []:=⟨fun _ _ h=>by cases h⟩
theorem zi:HAE P w K mg base []:=⟨fun _ _ h=>by cases h⟩
theorem aw (h:Has P w K mg base y k ps F) (t:HA P w K mg base T):HA P w K mg base ((y,k,ps,F) :: T):=⟨fun x e q=>by
 rcases iE q with ⟨rfl,rfl⟩ | q
 · exact h
 · exact t.h x e q⟩
theorem bL (h:Ey P w K mg base y k ps F) (t:HAE P w K mg base T):HAE P w K mg base ((y,k,ps,F) :: T):=⟨fun x e q=>by
 rcases iE q with ⟨rfl,rfl⟩ | q
 · exact h
 · exact t.h x e q⟩
abbrev Aw:=List (Str×Option Dv)
def cN (s:String):Str×Option Dv:=(b_ s,ck)
def cI (s:String) (i:Int):Str×Option Dv:=(b_ s,a_ (.int i))
def cS (s z:String):Str×Option Dv:=(b_ s,a_ (.str (b_ z)))
def IE (mg:Str→Option g_) (x:Str):Option Dv→Prop
 | none=>mg x=ck
 | some (.int i)=>∃ t,mg x=a_ (.int i t)
 | some (.str z)=>∃ t,mg x=a_ (.str z t)
 | _=>False
structure MA (mg:Str→Option g_) (C:Aw):Prop where
 h:∀ x o,C.lookup x=a_ o→IE mg x o
theorem MA.no {C:Aw} {x:Str} (h:MA mg C) (e:C.lookup x=a_ ck):mg x=ck:=h.h x ck e
def Go (K:f_) (q:Str×Option Dv):Bool:=match q.2,KN K y_ q.1 with
 | none,a_ ck=>e_
 | some (.int i),a_ (a_ (.int j _))=>i == j
 | some (.str z),a_ (a_ (.str y _))=>z == y
 | _,_=>d_
theorem CP {h:H_} (X:K.In h) (G:h.Ns y_ mg):∀ (C:Aw),C.all (Go K)=e_→MA mg C
 | [],_=>⟨fun x o q=>by cases q⟩
 | (y,o) :: C,e=>⟨fun x o' q=>by
  rw [LW,on] at e;rcases iE q with ⟨rfl,rfl⟩ | q
  · have h1:=e.1;unfold Go at h1;dsimp only at h1;split at h1
    · rename_i e1;exact PySem.W.mg_none_of X G e1
    · rename_i i j t e1;have hij:i=j:=Pm h1;subst hij;exact ⟨t,LU X G e1⟩
    · rename_i z y t e1;have hij:z=y:=Pm h1;subst hij;exact ⟨t,LU X G e1⟩
    · cases h1
  · exact (CP X G C e.2).h x o' q⟩
end
section
variable {X:Cx} {T:bT} {C:Aw} {k' n:Nat} {x:Str} {p pos:Pos} {e:F_} {es:List F_} {F:List Dv→Option (Rs Dv)} {g:FnA}
theorem vY (hT:HA X.prog X.w X.K X.mg X.base T) (hr:Room k' X.A) (hF:(T.lookup x).map (fun q=>q.2.2)=a_ F) (ha:FA X (e :: es) g) (hk:((T.lookup x).all fun q=>Rr q.1 k' && Mv n q.2.1.length)=e_:=by kernel_rfl) (hg:X.env.kindOf x=a_ .globalImplicit:=by kernel_rfl) (hdb:(x == ("__debug__":Str))=d_:=by kernel_rfl)
 (he:l_ (e :: es) X.env=(d_,eval e X.env) :: l_ es X.env:=by kernel_rfl) (hpl:(JV pos (l_ es X.env)).any (·.1)=d_:=by kernel_rfl) :
 FE X (.Call (.Name x p) (e :: es) [] pos) (ag F n g):=by
 cases hq:T.lookup x with
 | none=>rw [hq] at hF; cases hF
 | some q =>
  rw [hq] at hF hk;cases hF;rw [OL,on] at hk;exact vj q.1 q.2.1 q.2.2 (hT.h x q hq) hr (LZ hk.1) hg ha (JU hk.2) hdb he hpl
theorem mx (hT:HAE X.prog X.w X.K X.mg X.base T) (hr:Room k' X.A) (hF:(T.lookup x).map (fun q=>q.2.2)=a_ F) (hex:X.ex=[]) (ha:FA X (e :: es) g) (hk:((T.lookup x).all fun q=>Rr q.1 k' && Mv n q.2.1.length)=e_:=by kernel_rfl) (hg:X.env.kindOf x=a_ .globalImplicit:=by kernel_rfl) (hdb:(x == ("__debug__":Str))=d_:=by kernel_rfl)
 (he:l_ (e :: es) X.env=(d_,eval e X.env) :: l_ es X.env:=by kernel_rfl) (hpl:(JV pos (l_ es X.env)).any (·.1)=d_:=by kernel_rfl) :
 FE X (.Call (.Name x p) (e :: es) [] pos) (al F n g):=by
 cases hq:T.lookup x with
 | none=>rw [hq] at hF; cases hF
 | some q =>
  rw [hq] at hF hk;cases hF;rw [OL,on] at hk;exact vB q.1 q.2.1 q.2.2 (hT.h x q hq) hr (LZ hk.1) hex hg ha (JU hk.2) hdb he hpl
theorem Gp {i:Int} (hM:MA X.mg C) (hl:C.lookup x=a_ (a_ (.int i))) (hg:X.env.kindOf x=a_ .globalImplicit:=by kernel_rfl) (hd:(x == ("__debug__":Str))=d_:=by kernel_rfl):FE X (.Name x pos) (fC (.int i)) :=
 let ⟨_,h⟩:=hM.h x _ hl
 yj hg h hd
theorem Gq {z:Str} (hM:MA X.mg C) (hl:C.lookup x=a_ (a_ (.str z))) (hg:X.env.kindOf x=a_ .globalImplicit:=by kernel_rfl) (hd:(x == ("__debug__":Str))=d_:=by kernel_rfl):FE X (.Name x pos) (fC (.str z)) :=
 let ⟨_,h⟩:=hM.h x _ hl
 yk hg h hd
def ndB:List Str→Bool
 | []=>e_
 | x :: r=>!(r.contains x) && ndB r
theorem jt:∀ {l:List Str},ndB l=e_→l.Nodup
 | [],_=>List.nodup_nil
 | x :: r,h=>by
  unfold ndB at h;rw [on] at h;refine LS.2 ⟨fun hx=>?_,jt h.2⟩;have h1:=h.1;rw [List.contains_iff_mem.2 hx] at h1;cases h1
def jV (sc:Kz) (x:Str):Bool:=match sc.names.lookup x with
 | some .local=>e_
 | some .cell=>e_
 | _=>d_
theorem fZ {sc:Kz} {x:Str} (h:jV sc x=e_):Loc sc x:=by
 unfold jV at h;split at h
 · exact .inl ‹_›
 · exact .inr ‹_›
 · cases h
def Ax (osc scope:Kz) (cs:List (Str×Nat)) (N:List Str):Bool :=
 u_ (scope.kind=.function) && u_ (∀ y∈scope.names,y.2=.cell→scope.names.lookup y.1=a_ .cell) && u_ (∀ y∈scope.names,y.2=.local→scope.names.lookup y.1=a_ .local) && u_ (∀ y∈scope.names,y.2=.free→osc.names.lookup y.1=a_ .cell∨osc.names.lookup y.1=a_ .free) && u_ (∀ c∈cs,N[c.2]?=a_ c.1∧scope.names.lookup c.1=a_ .free)
theorem tW {osc scope:Kz} {cs:List (Str×Nat)} {N:List Str} (h:Ax osc scope cs N=e_):iU osc scope cs N:=by
 unfold Ax at h;simp only [on,decide_eq_true_eq] at h;exact ⟨h.1.1.1.1,h.1.1.1.2,h.1.1.2,h.1.2,h.2⟩
theorem lkc {env:Env}:∀ {names:List (Str×Lx)} {x:Str},names.lookup x=a_ .cell →
 (names.map fun (n,k)=>if (k == Kv && env.scope.kind == .function && env.kindOf n == a_ .cell) then (n,KP) else (n,k)).lookup x=a_ .cell
 | [],_,h=>by simp at h
 | (n,k) :: r,x,h=>by
  rw [JN] at h;rw [Ju];cases hx:x == n with
  | true =>
   rw [hx] at h;cases h;simp [JN,hx]
  | false =>
   rw [hx] at h;have ih:=lkc (env:=env) h;dsimp only;split
   · rw [JN,hx]; exact ih
   · rw [JN,hx]; exact ih
theorem fgL {X:Cx} {N:List Str} {scope:Kz} {C:k_} {s:h_} {H:Hp} {fp:List k_} {x:Str} (h:jV scope x=e_):Loc (ao X N scope C s H fp).env.scope x∧((ao X N scope C s H fp).fn x=e_∨(ao X N scope C s H fp).env.scope.names.lookup x=a_ .local):=by
 rcases fZ h with h | h
 · exact ⟨.inl (OX h),.inr (OX h)⟩
 · exact ⟨.inr (lkc h),.inl (by show (scope.names.lookup x == a_ .cell)=e_; rw [h]; rfl)⟩
end
section
variable {X:Cx} {elt iter:F_} {ifs:List F_} {scope:Kz} {pos px py pt spos:Pos} {src:FnA} {tst:Option FnB} {fe:FnE} {cs:List (Str×Nat)} {x y z:Str} {i:Nat} {k:Nat}
theorem fgA {N:List Str} (C:k_) (s:h_) (H:Hp) (fp:List k_) (hnd:ndB N=e_) (hx:N[0]?=a_ x) (hl:jV scope x=e_):FG (ao X N scope C s H fp) (.Name x px) (gN 0) :=
 yG 0 (jt hnd) hx (fgL hl).1 (fgL hl).2
theorem Gr (hi:FIG X (.Name x px) iter src) (helt:∀ C s H fp,FE (ao X (x :: cs.map (·.1)) scope C s H fp) elt fe) (hifs:∀ C s H fp,uU (ao X (x :: cs.map (·.1)) scope C s H fp) ifs tst)
 (hok:Ax X.env.scope scope cs X.N=e_:=by kernel_rfl) (hcl:LH scope X.env=pure (jx scope.names X.env []):=by kernel_rfl) (hc:X.calm=e_:=by kernel_rfl) (hnd:ndB (x :: cs.map (·.1))=e_:=by kernel_rfl) (hl:jV scope x=e_:=by kernel_rfl)
 (hs:∀ x,JF iter X.env x=pure x:=by intro _; kernel_rfl):FE X (.ListComp elt [⟨.Name x px,iter,ifs,0⟩] scope pos) (bX cs src tst fe) :=
 (zd (cs:=cs) (src:=src) (tst:=tst) (fe:=fe)) ▸ pL X.env.scope X.N [x] [0] cs rfl rfl (tW hok) hcl hc (B6 _) hi (fun C s H fp=>fgA C s H fp hnd rfl hl) helt hifs hs
theorem Gs (hi:FIG X (.Name x px) iter src) (helt:∀ C s H fp,FE (ao X (x :: cs.map (·.1)) scope C s H fp) elt fe) (hifs:∀ C s H fp,uU (ao X (x :: cs.map (·.1)) scope C s H fp) ifs tst)
 (hN:ndB X.N=e_) (hiy:X.N[i]?=a_ y) (hxy:jV X.env.scope y=e_) (hfy:X.fn y=e_)
 (hok:Ax X.env.scope scope cs X.N=e_) (hcl:LH scope X.env=pure (jx scope.names X.env [])) (hc:X.calm=e_) (hnd:ndB (x :: cs.map (·.1))=e_) (hl:jV scope x=e_)
 (hsw:KW (.ListComp elt [⟨.Name x px,iter,ifs,0⟩] scope pos) (a_ (.Name y py)) spos.line X.env=pure e_)
 (hs:∀ x,JF iter X.env x=pure x):PS X (.Assign [.Name y py] (.ListComp elt [⟨.Name x px,iter,ifs,0⟩] scope pos) spos) (tC X i (cj 1 cs src (gN 0) tst fe)) :=
 vX i (jt hN) hiy (fZ hxy) (.inl hfy) X.env.scope X.N [x] [0] cs rfl rfl (tW hok) hcl hc (B6 _) hi (fun C s H fp=>fgA C s H fp hnd rfl hl) helt hifs hsw hs
theorem Gu (hi:FIG X (.Name x px) iter src) (helt:∀ C s H fp,FE (ao X (x :: cs.map (·.1)) scope C s H fp) elt fe) (hifs:∀ C s H fp,uU (ao X (x :: cs.map (·.1)) scope C s H fp) ifs tst)
 (hsw:KW (.ListComp elt [⟨.Name x px,iter,ifs,0⟩] scope pos) (a_ (.Name y py)) spos.line X.env=pure e_)
 (hN:ndB X.N=e_:=by kernel_rfl) (hiy:X.N[i]?=a_ y:=by kernel_rfl) (hxy:jV X.env.scope y=e_:=by kernel_rfl) (hfy:X.fn y=e_:=by kernel_rfl)
 (hok:Ax X.env.scope scope cs X.N=e_:=by kernel_rfl) (hcl:LH scope X.env=pure (jx scope.names X.env []):=by kernel_rfl) (hc:X.calm=e_:=by kernel_rfl) (hnd:ndB (x :: cs.map (·.1))=e_:=by kernel_rfl) (hl:jV scope x=e_:=by kernel_rfl)
 (hs:∀ x,JF iter X.env x=pure x:=by intro _; kernel_rfl):FS X (.Assign [.Name y py] (.ListComp elt [⟨.Name x px,iter,ifs,0⟩] scope pos) spos) (ba i (cj 1 cs src (gN 0) tst fe)) :=
 ze (Gs hi helt hifs hN hiy hxy hfy hok hcl hc hnd hl hsw hs) tG
theorem IF {N:List Str} (C:k_) (s:h_) (H:Hp) (fp:List k_) (hc:X.calm=e_) (hnd:ndB N=e_) (hx:N[0]?=a_ x) (hz:N[1]?=a_ z) (hl:jV scope x=e_) (hl2:jV scope z=e_)
 (a1:(Jq [.Name x px,.Name z py] (ao X N scope C s H fp).env).map (·.2)=LI (.Name x px) (ao X N scope C s H fp).env :: (Jq [.Name z py] (ao X N scope C s H fp).env).map (·.2)) (a2:(Jq [.Name z py] (ao X N scope C s H fp).env).map (·.2)=LI (.Name z py) (ao X N scope C s H fp).env :: (Jq [] (ao X N scope C s H fp).env).map (·.2))
 (a3:(Jq [.Name x px,.Name z py] (ao X N scope C s H fp).env).length=2) (a4:(Jq [.Name x px,.Name z py] (ao X N scope C s H fp).env).findIdx? (·.1)=ck):FG (ao X N scope C s H fp) (.Tuple [.Name x px,.Name z py] k pt) (gP 0 1) :=
 sh 0 1 hc (jt hnd) hx (fgL hl).1 (fgL hl).2 hz (fgL hl2).1 (fgL hl2).2 a1 a2 a3 a4
theorem Gx (hi:FIG X (.Tuple [.Name x px,.Name z py] k pt) iter src) (helt:∀ C s H fp,FE (ao X (x :: z :: cs.map (·.1)) scope C s H fp) elt fe) (hifs:∀ C s H fp,uU (ao X (x :: z :: cs.map (·.1)) scope C s H fp) ifs tst)
 (hok:Ax X.env.scope scope cs X.N=e_:=by kernel_rfl) (hcl:LH scope X.env=pure (jx scope.names X.env []):=by kernel_rfl) (hc:X.calm=e_:=by kernel_rfl) (hnd:ndB (x :: z :: cs.map (·.1))=e_:=by kernel_rfl) (hl:jV scope x=e_:=by kernel_rfl) (hl2:jV scope z=e_:=by kernel_rfl)
 (hs:∀ x,JF iter X.env x=pure x:=by intro _; kernel_rfl):FE X (.ListComp elt [⟨.Tuple [.Name x px,.Name z py] k pt,iter,ifs,0⟩] scope pos) (cj 2 cs src (gP 0 1) tst fe) :=
 pL X.env.scope X.N [x,z] [0,1] cs rfl rfl (tW hok) hcl hc (FX _) hi (fun C s H fp=>IF C s H fp hc hnd rfl rfl hl hl2 rfl rfl rfl rfl) helt hifs hs
end
section
variable {X:Cx} {N:List Str} {scope:Kz} {c:F_} {t:FnB}
theorem vZ:∀ C s H fp,uU (ao X N scope C s H fp) [] ck:=fun _ _ _ _=>rfl
theorem v3 (h:∀ C s H fp,FT (ao X N scope C s H fp) c t):∀ C s H fp,uU (ao X N scope C s H fp) [c] (a_ t):=fun C s H fp=>⟨_,rfl,h C s H fp⟩
end
section
variable {X:Cx} {a b c e st ix tg iter:F_} {fa fb fs fi:FnE} {pos p2 pos' py apos cpos pt p1 lp ps:Pos} {i j k kk:Nat} {js:List Nat} {x y:Str} {src g:FnA} {fS:FnS} {fO:ji} {body sts:List Ky} {es:List F_} {is:List Nat}
theorem CQ (ha:FE X a fa) (hb:FE X b fb) (hs:∀ o i,QP b d_ o i=operate [o,i] (Ov o i):=by intro _ _; kernel_rfl):FE X (.Subscript a b pos) (f2 ixD fa fb):=FJ ha hb hs
theorem zj (he:FE X e fa) (hN:ndB X.N=e_:=by kernel_rfl) (hi:X.N[i]?=a_ x:=by kernel_rfl) (hx:jV X.env.scope x=e_:=by kernel_rfl) (hf:X.fn x=e_:=by kernel_rfl) (hs:KW e (a_ (.Name x pos')) pos.line X.env=pure d_:=by kernel_rfl):FS X (.Assign [.Name x pos'] e pos) (ba i fa) :=
 Bz i (jt hN) hi (fZ hx) he hs (.inl hf)
theorem zk (he:FE X e fa) (hex:X.ex=[]:=by kernel_rfl) (hij:Mv i j=d_:=by kernel_rfl) (hN:ndB X.N=e_:=by kernel_rfl) (hi:X.N[j]?=a_ x:=by kernel_rfl) (hx:jV X.env.scope x=e_:=by kernel_rfl) (hf:X.fn x=e_:=by kernel_rfl) (hs:KW e (a_ (.Name x pos')) pos.line X.env=pure d_:=by kernel_rfl):FO1 X i (.Assign [.Name x pos'] e pos) (eK j fa) :=
 Cj hex j (K1 hij) (jt hN) hi (fZ hx) he hs (.inl hf)
theorem v4 (hg:FA X es g) (hr:FOs X i sts fO) (hN:ndB X.N=e_:=by kernel_rfl) (hi:X.N[i]?=a_ x:=by kernel_rfl) (hx:jV X.env.scope x=e_:=by kernel_rfl) (hf:X.fn x=e_:=by kernel_rfl) (hs:KW (.List es lp) (a_ (.Name x pos')) pos.line X.env=pure d_:=by kernel_rfl):FSs X (.Assign [.Name x pos'] (.List es lp) pos :: sts) (sJ i g fO) :=
 yV (jt hN) hi (fZ hx) hg hr hs (.inl hf)
theorem zl (hp:ND (z_ X.prog X.w) X.A X.env X.xe) (hi:FI X (.Name x py) iter src) (hb:FSs X body fS) (hc:X.calm=e_:=by kernel_rfl) (hN:ndB X.N=e_:=by kernel_rfl) (hx:X.N[i]?=a_ x:=by kernel_rfl) (hl:jV X.env.scope x=e_:=by kernel_rfl) (hf:X.fn x=e_:=by kernel_rfl)
 (hs:∀ x,JF iter X.env x=pure x:=by intro _; kernel_rfl):FS X (.For (.Name x py) iter body [] pos) (BD i js src fS) :=
 BE i js hp hc hi (hZ (jt hN) hx (fZ hl) (.inl hf)) hb hs
theorem zm (hp:ND (z_ X.prog X.w) X.A X.env X.xe) (hi:FI X (.Name x py) iter src) (hb:FOs X i body fO) (hex:X.ex=[]:=by kernel_rfl) (hij:Mv i j=d_:=by kernel_rfl) (hc:X.calm=e_:=by kernel_rfl) (hN:ndB X.N=e_:=by kernel_rfl) (hx:X.N[j]?=a_ x:=by kernel_rfl) (hl:jV X.env.scope x=e_:=by kernel_rfl) (hf:X.fn x=e_:=by kernel_rfl)
 (hs:∀ x,JF iter X.env x=pure x:=by intro _; kernel_rfl):FO1 X i (.For (.Name x py) iter body [] pos) (sK j js src fO) :=
 Cq hex j js (K1 hij) hp hc hi (hZ (jt hN) hx (fZ hl) (.inl hf)) hb hs
theorem v7 (hp:ND (z_ X.prog X.w) X.A X.env X.xe) (hi:FIG X (.Tuple [.Name x py,.Name y p2] kk pt) iter src) (hb:FSs X body fS) (hc:X.calm=e_:=by kernel_rfl) (hN:ndB X.N=e_:=by kernel_rfl) (hx:X.N[i]?=a_ x:=by kernel_rfl) (hl:jV X.env.scope x=e_:=by kernel_rfl) (hf:X.fn x=e_:=by kernel_rfl) (hy:X.N[j]?=a_ y:=by kernel_rfl) (hl2:jV X.env.scope y=e_:=by kernel_rfl) (hf2:X.fn y=e_:=by kernel_rfl)
 (a1:(Jq [.Name x py,.Name y p2] X.env).map (·.2)=LI (.Name x py) X.env :: (Jq [.Name y p2] X.env).map (·.2):=by kernel_rfl) (a2:(Jq [.Name y p2] X.env).map (·.2)=LI (.Name y p2) X.env :: (Jq [] X.env).map (·.2):=by kernel_rfl)
 (a3:(Jq [.Name x py,.Name y p2] X.env).length=2:=by kernel_rfl) (a4:(Jq [.Name x py,.Name y p2] X.env).findIdx? (·.1)=ck:=by kernel_rfl)
 (hs:∀ x,JF iter X.env x=pure x:=by intro _; kernel_rfl):FS X (.For (.Tuple [.Name x py,.Name y p2] kk pt) iter body [] pos) (qt (gP i j) js src fS) :=
 y8 js hp hc hi (sh i j hc (jt hN) hx (fZ hl) (.inl hf) hy (fZ hl2) (.inl hf2) a1 a2 a3 a4) hb hs
theorem v8 (h:PGs X es (yI is)) (hN:ndB X.N=e_:=by kernel_rfl) (hi:X.N[i]?=a_ x:=by kernel_rfl) (hx:jV X.env.scope x=e_:=by kernel_rfl) (hf:X.fn x=e_:=by kernel_rfl)
 (hs:(Jq (.Name x p1 :: es) X.env).map (·.2)=LI (.Name x p1) X.env :: (Jq es X.env).map (·.2):=by kernel_rfl):PGs X (.Name x p1 :: es) (yI (i :: is)) :=
 yJ i (jt hN) hi (fZ hx) (.inl hf) h hs
theorem tX (hN:X.N[i]?=a_ x) (hv:jV X.env.scope x=e_) (hd:(x == ("__debug__":Str))=d_) (hcd:(x == ("__classdict__":Str))=d_):PE X (.Name x pos) (Am i):=q8 hN ((fZ hv).elim .inl fun h=>.inr (.inl h)) hd hcd
theorem zn (he:FE X e fa) (hx:PE X (.Name x apos) (Am i)) (hex:X.ex=[]:=by kernel_rfl)
 (hbase:Mq (.Name x apos) "append" X.env (eval (.Name x apos) X.env)=eval (.Name x apos) X.env:=by kernel_rfl)
 (hfew:((JV cpos (l_ [e] X.env)).all (fun x=>!x.1) && (L8 cpos (KQ [] X.env)).all (fun x=>x.1.isSome)
   && u_ ([e].length + ([]:List L5).length + (if ([]:List L5).isEmpty then 0 else 1) < 30))=e_:=by kernel_rfl)
 (hline:(pt.endLine == cpos.line)=e_:=by kernel_rfl) (hs:l_ [e] X.env=(d_,eval e X.env) :: l_ [] X.env:=by kernel_rfl) (hplain:(JV cpos (l_ [] X.env)).any (·.1)=d_:=by kernel_rfl)
 (hsw:KW (.Call (.Attribute (.Name x apos) "append" pt) [e] [] cpos) ck pos.line X.env=pure d_:=by kernel_rfl):FO1 X i (.Expr (.Call (.Attribute (.Name x apos) "append" pt) [e] [] cpos) pos) (vK fa):=Cp hex hx he hbase hfew hline hs hplain hsw
end
section
variable {X:Cx} {o e:F_} {es:List F_} {fo:FnE} {ga:FnA} {apos cpos pos:Pos} {name:Str}
structure SmL (X:Cx) (o:F_) (name:Str) (e:F_) (es:List F_) (apos cpos:Pos):Prop where
 base:Mq o name X.env (eval o X.env)=eval o X.env
 few:((JV cpos (l_ (e :: es) X.env)).all (fun x=>!x.1) && (L8 cpos (KQ [] X.env)).all (fun x=>x.1.isSome)
  && u_ ((e :: es).length + ([]:List L5).length + (if ([]:List L5).isEmpty then 0 else 1) < 30))=e_
 line:(apos.endLine == cpos.line)=e_
 s:l_ (e :: es) X.env=(d_,eval e X.env) :: l_ es X.env
 plain:(JV cpos (l_ es X.env)).any (·.1)=d_
theorem my {id:String} {r:V→List V→Hp→VK→Prop} {g:Str→List Dv→Option (Rs Dv)} (slot:Slot "str" name id) (hty:typeOf (.builtin id)=pure (.type "method_descriptor")) (hm:MtR X id r)
 (hg:∀ i ds vs H Q,Reps X.K H ds vs→Out X H (g i ds) Q→r (.str i) vs H Q) (ho:FE X o fo) (ha:FA X (e :: es) ga) (h:SmL X o name e es apos cpos):FE X (.Call (.Attribute o name apos) (e :: es) [] cpos) (fM g fo ga) :=
 yB slot hty hm hg ho ha h.base h.few h.line h.s h.plain
end
section
open PySem.W
structure CA (K:f_) (mg:Str→Option g_) (cls:Nat→k_) (CJ:k_) (S:List Nat) (m:Nat):Prop where
 at_:∀ c∈S,mg (xnm c)=a_ (.ref (cls c))
 j:mg "JarError"=a_ (.ref CJ)
 xk:∀ c C,c < m→nsIn K y_ (xnm c)=a_ (a_ (.ref C))→excIn K C bmV "ValueError.__new__"=e_∧mroIn K C (.ref CJ)=a_ e_
theorem CA.c {K:f_} {mg:Str→Option g_} {cls:Nat→k_} {CJ:k_} {S:List Nat} {m c:Nat} {x:Str} (h:CA K mg cls CJ S m) (hc:c∈S) (hx:xnm c=x):mg x=a_ (.ref (cls c)):=by
 subst hx;exact h.at_ c hc
def nsB (K:f_) (x:Str) (a:k_):Bool:=match nsIn K y_ x with
 | some (a_ (.ref b))=>Mv a b
 | _=>d_
theorem xE {K:f_} {x:Str} {a:k_} (h:nsB K x a=e_):nsIn K y_ x=a_ (a_ (.ref a)):=by
 unfold nsB at h;split at h
 · rename_i b e;rw [e,JU h]
 · cases h
def caB (K:f_) (S:List Nat) (Cs:List k_) (CJ:k_) (m:Nat):Bool:=S.all (fun c=>nsB K (xnm c) (Cs.getD c 0)) && nsB K "JarError" CJ && Gh K S Cs CJ && (pi m).all fun c=>S.contains c || (match nsIn K y_ (xnm c) with | some ck=>e_ | _=>d_)
theorem Gy {K:f_} {mg:Str→Option g_} {h:H_} {S:List Nat} {Cs:List k_} {CJ:k_} {m:Nat} (X:K.In h) (G:h.Ns y_ mg) (e:caB K S Cs CJ m=e_):XAllS K S (fun c=>Cs.getD c 0) CJ∧CA K mg (fun c=>Cs.getD c 0) CJ S m:=by
 unfold caB at e;rw [on,on,on] at e;obtain ⟨⟨⟨e1,e2⟩,e3⟩,e4⟩:=e;have hn:∀ c∈S,nsIn K y_ (xnm c)=a_ (a_ (.ref (Cs.getD c 0))):=fun c hc=>xE (Kj.1 e1 c hc);have xa:=vN hn e3;refine ⟨xa,fun c hc=>mg_of X G (hn c hc),mg_of X G (xE e2),fun c C hc q=>?_⟩;have h1:=Kj.1 e4 c (JQ.2 hc);rw [QY] at h1;rcases h1 with h1 | h1
 · have h':c∈S:=by simpa using h1
   rw [xa.same h' q];exact ⟨(xa.at_ c h').2.1,(xa.at_ c h').2.2.2.1⟩
 · rw [q] at h1;cases h1
end
noncomputable abbrev nsM (K:f_) (x:Str):Option (Option g_):=KN K y_ x
structure Af (K:f_) (x:Str) (st:Ky) (f:k_):Prop where
 a:nsM K x=a_ (a_ (.ref f))
 F:∃ fd,Fun K x x st f fd
 k:Ka K (.ref f)=e_
def fnB (N P:List Str) (sc:Kz):Bool:=u_ (sc.kind=.function) && !sc.isCoroutine && !sc.isGenerator && ndB N && u_ (N.take P.length=P) && P.all (jV sc) && u_ (∀ y∈sc.names,y.2≠.free)
theorem CS {N P:List Str} {sc:Kz} (h:fnB N P sc=e_):dO N P sc:=by
 unfold fnB at h;simp only [on,decide_eq_true_eq,Lm] at h;exact ⟨h.1.1.1.1.1.1,h.1.1.1.1.1.2,h.1.1.1.1.2,jt h.1.1.1.2,h.1.1.2,fun x hx=>fZ (Kj.1 h.1.2 x hx),h.2⟩
section
variable {P:rl} {w:C_} {K:f_} {mg:Str→Option g_} {base:H_} {h:H_} {k:Nat} {x:Str} {st:Ky} {f:k_} {F:List Dv→Option (Rs Dv)}
def Gz (x:Str) (st:Ky) (ps:List Str):Prop:=∀ (kV doc pm:g_) (an:Option k_) (cdv ct:g_) (us:List g_),us.length=ps.length→O2 (LK x x (iQ st) (cM st) (aF st) .none kV doc pm an cdv ct) ⟨us,[]⟩=pure (ps.zip us)
theorem aP (XI:K.In h) (Gn:h.Ns y_ mg) (N ps:List Str) (fb:FnS) (A:Af K x st f) (hbd:Gz x st ps)
 (hb:∀ (cdv:g_) (A:D_) (outer:List Env) (s:h_) (H:Hp) (E:XK),Room k (A.deeper (LN x (aF st) s.heap.objs.size f cdv))→FSs (kU CX0 P w K mg base N x (aF st) f cdv A outer s H E).nox (cM st) fb) (hF:F=bp N.length fb:=by kernel_rfl) (hs:fnB N ps (aF st)=e_:=by kernel_rfl):Has P w K mg base x (k + 1) ps F :=
 let ⟨_,Fn⟩:=A.F
 ⟨_,_,BF N ps fb hF rfl Fn (CS hs) hb,LU XI Gn A.a,A.k,Fn.binds hbd⟩
theorem ci (XI:K.In h) (Gn:h.Ns y_ mg) (N ps:List Str) (fb:FnS) (A:Af K x st f) (hbd:Gz x st ps)
 (hb:∀ (cdv:g_) (A:D_) (outer:List Env) (s:h_) (H:Hp) (E:XK),Room k (A.deeper (LN x (aF st) s.heap.objs.size f cdv))→FSs (kU (CXE P w) P w K mg base N x (aF st) f cdv A outer s H E) (cM st) fb) (hF:F=eE N.length fb:=by kernel_rfl) (hs:fnB N ps (aF st)=e_:=by kernel_rfl):Ey P w K mg base x (k + 1) ps F :=
 let ⟨_,Fn⟩:=A.F
 ⟨_,_,Cd N ps fb hF rfl Fn (CS hs) hb,LU XI Gn A.a,A.k,Fn.binds hbd⟩
end
section
end
end FD
namespace TS
open PySem PySem.Spec PyProof.Rows L2 FD
def GA (p q:g_) (e l:Bool):Prop:=∀ (prog:rl) (w:C_) (A:D_) (E:g_→h_→Prop) (s:h_),
 (∀ Q:Bool→h_→Prop,Q e s→uk (z_ prog w) A (eqBool p q) Q E s)∧(∀ Q:g_→h_→Prop,Q (.bool l) s→uk (z_ prog w) A (richCompare .Gt p q) Q E s)
inductive tY:List (g_×g_)→List (Bool×Bool)→Prop
 | nil:tY [] []
 | cons {p q:g_} {e l:Bool} {ps:List (g_×g_)} {rs:List (Bool×Bool)}:GA p q e l→tY ps rs→tY ((p,q) :: ps) ((e,l) :: rs)
section
open PySem.SeqAt
open PySem.AutoSeq1 (wpAny_loadPart')
open PySem.MeetsSeq PySem.MeetsSeq2 PySem.MeetsSeq3
end
end TS
namespace FD
open PySem PySem.Spec PyProof.Rows L2 TS
section
variable {X:Cx}
end
end FD
namespace TS
open PySem PyProof.Rows FD
section
variable {prog:rl} {w:C_} {A:D_} {E:g_→h_→Prop} {s:h_} {blt:Nat→Nat→Bool}
theorem GB {a kS:k_} {e1 c:Nat} {its vs:List g_} {ks:List Int} {P:QD→h_→Prop} (hk:s.heap.get? kS=a_ (Ki "list" its.toArray c)) (ha:s.heap.get? a=a_ (Ki "list" #[] e1)) (hne:kS≠a) (hlen:its.length=vs.length) (h64:vs.length < 64) (O:Od blt)
 (hI:OC its ks) (hB:∀ i j x y,ks[i]?=a_ x→ks[j]?=a_ y→blt i j=u_ (x < y))
 (h:∀ (p:Nat→Nat) (out:Array g_) (tk:Nat),out.size=vs.length→(∀ k,k < vs.length→out[k]?=vs[p k]?)→(pi vs.length).map p=fu (fun i j=>!blt j i) (pi vs.length)→(∀ k,k < vs.length→p k < vs.length) →
   P (.done (.ret .none)) { s with heap:=(s.heap.update kS (JD fun _=>#[])).update a (JD fun _=>out),toks:=tk }) :
 uk (z_ prog w) A (ksk_end a d_ vs.toArray e1 (.ref kS) its.toArray) P E s:=by
 unfold ksk_end;simp only [p_,if_false];have hz:its.toArray.size≤sizeLine:=hU (by simp; omega);have pz:(its.toArray.zip vs.toArray).size=vs.length:=by simp [hlen]
 have pat:∀ k,k < vs.length→(its.toArray.zip vs.toArray)[k]?=a_ (its.getD k .none,vs.getD k .none):=fun k hk=>by
  have:k < its.length:=by omega
  have hz':k < (its.zip vs).length:=by simp; omega
  have e:(its.zip vs)[k]?=a_ (its[k],vs[k]):=by rw [B_ hz',List.getElem_zip]
  simp [hk,this,MG,e]
 have hsz:vs.toArray.size=vs.length:=by simp
 by_cases h2:vs.toArray.size < 2
 · rw [if_pos h2,if_pos h2];refine c_ (j_ ?_);rw [QS];refine c_ (j_ ?_);dsimp only;refine xD (st:=SortSt.mk' general' (its.toArray.zip vs.toArray) #[] 7 ck) hk ha hne hz (hU (by rw [pz]; exact h64)) rfl ?_;have:=h id ((its.toArray.zip vs.toArray).map (·.2)) s.toks (by rw [LD,pz]) (fun k hk=>by
    rw [P9,pat k hk];simp [hk,MG]) (mv O (fun k hk=>hk) (fun _ _ _ _ e=>e) (fun x y hxy hy=>by rw [hsz] at h2; omega)) (fun k hk=>hk)
   exact this
 · rw [if_neg h2,if_neg h2];rw [hsz] at h2;have ekk:keyKind' its.toArray=pure oneType':=by
    match its,hI,hlen with
    | [],_,hl=>simp at hl; omega
    | [v],_,hl=>simp at hl; omega
    | v1 :: v2 :: r,hI,_=>exact keyKind_ints hI
   rw [ekk];refine c_ (j_ ?_);refine c_ (JC (CK (J:=JT s s.heap) (E:=E) (Q:=fun _ st'=>∃ p',Gm (its.toArray.zip vs.toArray) blt p' (Nu st')∧Qh st'=ck) (p:=id) O
    (fun i j x y s1 E' ex ey J1=>?_)
    (st:=SortSt.mk' oneType' (its.toArray.zip vs.toArray) #[] 7 ck) ⟨rfl,fun _ _=>rfl,fun _ h=>h,fun _ _ _ _ e=>e,rfl,rfl,rfl⟩ (fun _ _=>rfl) (by rw [pz]; omega) (by rw [pz]; exact h64) (fun p' st' a1 a2=>⟨p',a1,a2⟩) s ⟨s.toks,r_ _,rfl⟩) ?_ fun _ _ e=>e)
   · have at1:∀ (k:Nat) (z:Qi),(its.toArray.zip vs.toArray)[k]?=a_ z→its[k]?=a_ z.1:=fun k z hz=>by
      have hk:k < vs.length:=by
       have:=(JR.mp hz).1
       rwa [pz] at this
      rw [pat k hk] at hz;cases hz;have:k < its.length:=by omega
      simp [this,MG]
     have gi:=at1 i x ex;have gj:=at1 j y ey;have li:i < ks.length:=by have:=(Jm.mp gi).1; have:=hI.length; omega
     have lj:j < ks.length:=by have:=(Jm.mp gj).1; have:=hI.length; omega
     obtain ⟨t,ht⟩:=hI.get i ks[i] (B_ li);obtain ⟨u,hu⟩:=hI.get j ks[j] (B_ lj);rw [ht] at gi;rw [hu] at gj;have e1:=Jp gi;have e2:=Jp gj;rw [keyLt'_oneType,← e1,← e2];exact oneLt_int ⟨J1,(hB i j _ _ (B_ li) (B_ lj)).symm⟩
   · rintro ⟨⟨⟩,st'⟩ s' ⟨⟨tk,_,rfl⟩,p',F,hfl⟩;dsimp only;have Fl:=F.lt;have Fi:=F.inj;have Fs:=F.so;rw [pz] at Fl Fi Fs;refine xD (s:={ s with heap:=s.heap,toks:=tk }) hk ha hne hz (by rw [F.sz,pz]; exact hU h64) hfl ?_;refine h p' ((Nu st').map (·.2)) tk (by rw [LD,F.sz,pz]) (fun k hk=>?_) (mv O Fl Fi Fs) Fl;rw [P9,F.at' k (by rw [pz]; exact hk),pat _ (Fl k hk)];simp [Fl k hk,MG]
end
end TS
namespace FD
open PySem PySem.Spec PyProof.Rows L2 TS
def gp (F:List Dv→Option (Rs Dv)):List Dv→Option (List Int)
 | []=>a_ []
 | d :: r=>match F [d],gp F r with
  | some (.ok (.int k)),a_ ks=>a_ (k :: ks)
  | _,_=>ck
def ie (ks:List Int) (ds:List Dv):List Dv:=(fu (fun a b=>!u_ (b.1 < a.1)) (ks.zip ds)).map Prod.snd
def qA (F:List Dv→Option (Rs Dv)):List Dv→Option (Rs Dv)
 | [.lst ds]=>match gp F ds with
  | some ks=>if ks.length < 64∧imms ds=e_ then a_ (.ok (.lst (ie ks ds))) else ck
  | none=>ck
 | _=>ck
theorem iV {F:List Dv→Option (Rs Dv)}:∀ {ds:List Dv} {ks:List Int},gp F ds=a_ ks→ks.length=ds.length∧∀ (i:Nat) (d:Dv),ds[i]?=a_ d→∃ k,ks[i]?=a_ k∧F [d]=a_ (.ok (.int k))
 | [],ks,h=>by cases h; exact ⟨rfl,fun i d e=>by simp at e⟩
 | d :: ds,ks,h=>by
  unfold gp at h;split at h
  · rename_i k rs h1 h2;cases h;obtain ⟨g1,g2⟩:=iV h2;refine ⟨by simp [g1],fun i d' e=>?_⟩;cases i with
    | zero=>simp at e; subst e; exact ⟨k,rfl,h1⟩
    | succ i=>exact g2 i d' (by simpa using e)
  · cases h
def uW (ks:List Int) (i j:Nat):Bool:=u_ (ks.getD i 0 < ks.getD j 0)
theorem zo (ks:List Int):Od (uW ks) where
 ir:=fun a=>by simp [uW]
 tr:=fun a b c h h'=>by simp only [uW,decide_eq_true_eq] at *; omega
 nt:=fun a b c h=>by simp only [uW,decide_eq_true_eq] at *; omega
theorem qB {ks:List Int} {ds:List Dv} (hl:ks.length=ds.length):(fu (fun i j=>!uW ks j i) (pi ds.length)).map (fun i=>ds.getD i .non)=ie ks ds:=by
 have e:(pi ds.length).map (fun i=>(ks.getD i 0,ds.getD i .non))=ks.zip ds:=by
  apply List.ext_getElem
  · simp [hl]
  · intro i h1 h2;simp only [Jo,MZ] at h1;have h1':i < ks.length:=by omega
    simp [MG,h1,h1']
 unfold ie;rw [← e,← ll (le:=fun i j=>!uW ks j i) (fun i=>(ks.getD i 0,ds.getD i .non)) _ fun x _ y _=>rfl,NB];rfl
structure EC (X:Cx) (A':D_) (f:k_) (pn:List (k_×Obj)) (H0:Hp) (F:List Dv→Option (Rs Dv)):Prop where
 run:∀ (j':List (k_×Obj)) (σ:L2.St) (H:Hp) (s:h_) (v:V) (u:g_) (d d':Dv) (E:g_→h_→Prop),(∀ p∈pn,p∈j')→Same H0 H→Inv X j' σ H s→RelV v u→Rep X.K H d v→F [d]=a_ (.ok d') →
  uk (z_ X.prog X.w) A' (call (.ref f) [u]) (EP X j' σ fun v' H'=>Same H H'∧Rep X.K H' d' v') E s
theorem kA:∀ l:List Int,imms (l.map Dv.int)=e_
 | []=>rfl
 | i :: l=>by show (imm (.int i) && imms (l.map Dv.int))=e_; rw [kA l]; rfl
theorem jW:∀ l:List Int,g7 (l.map Dv.int)=a_ l
 | []=>rfl
 | i :: l=>by
  show (g7 (l.map Dv.int)).map (i :: ·)=_;rw [jW l];rfl
section
variable {X:Cx} {j' pn:List (k_×Obj)} {σ:L2.St} {H H0:Hp} {s:h_} {f:k_} {F:List Dv→Option (Rs Dv)} {A':D_} {E:g_→h_→Prop}
theorem CU {a kS:k_} {e1:Nat} {vs:List g_} {ws:List V} {ds:List Dv} {ks:List Int} {P:QD→h_→Prop} (R:EC X A' f pn H0 F) (hpn:∀ p∈pn,p∈j') (hS:∀ b u,b≠kS→H0 b=a_ u→H b=a_ u) (h0k:H0 kS=ck)
 (I:Inv X (j' ++ [(a,Ki "list" #[] e1)]) σ H s) (hk:H kS=a_ (.lst [])) (hne:kS≠a) (rv:Vals ws vs) (rw':Reps X.K H ds ws) (im:imms ds=e_)
 (hkey:∀ (i:Nat) (d:Dv),ds[i]?=a_ d→∃ k,ks[i]?=a_ k∧F [d]=a_ (.ok (.int k))) (hlen:ks.length=ds.length) (hok:ks.length < 64) (fpa:∀ H',H' a=ck→ni X j' H' a)
 (h:∀ (s':h_) (H':Hp) (p:Nat→Nat) (out:Array g_) (c:Nat),Inv X j' σ H' s'→H' a=ck→(∀ b u,b≠kS→H b=a_ u→H' b=a_ u)→s'.heap.get? a=a_ (Ki "list" out c)→out.size=vs.length→(∀ k,k < vs.length→out[k]?=vs[p k]?) →
   (pi vs.length).map p=fu (fun i j=>!uW ks j i) (pi vs.length)→(∀ k,k < vs.length→p k < vs.length)→P (.done (.ret .none)) s') :
 uk (z_ X.prog X.w) A' (ksk_rest a (.ref f) d_ vs.toArray e1 (.ref kS)) P E s:=by
 have hl2:ds.length=vs.length:=by have g1:=fJ rw'; have g2:=rv.length; omega
 have h64:vs.length < 64:=by omega
 have imk:=kA ks;unfold ksk_rest;refine c_ (M4 ?_)
 first
  | rw [List.forIn_toArray]
  | (rw [← La]; simp only [PC])
  | rw [← La]
 refine c_ (ksk_fold (fun i s'=>∃ H' zs,Inv X (j' ++ [(a,Ki "list" #[] e1)]) σ H' s'∧H' kS=a_ (.lst zs)∧(∀ b u,b≠kS→H b=a_ u→H' b=a_ u)∧Reps X.K H' ((ks.map Dv.int).take i) zs) vs 0 s ⟨H,[],I,hk,fun _ _ _ e=>e,rfl⟩ ?step ?done)
 case step =>
  rintro j x s' hx ⟨H',zs,I',hk',sm,rz⟩;simp only [Mf] at rz ⊢;have hj:j < vs.length:=(Jm.mp hx).1;have hjd:ds[j]?=a_ (ds[j]'(by omega)):=B_ (by omega);obtain ⟨es,er,eF⟩:=hkey j _ hjd;have hjw:ws[j]?=a_ (ws[j]'(by have:=rv.length; omega)):=B_ (by have:=rv.length; omega);have hjl:j < ws.length:=by have:=rv.length; omega
  have hjl2:j < ds.length:=by omega
  obtain ⟨u,eu,ru⟩:=rv.get hjw;rw [hx] at eu;cases eu;have tupk:∀ b ys,H b=a_ (.tup ys)→H' b=a_ (.tup ys):=fun b ys q=>sm b _ (fun z=>by rw [z,hk] at q; cases q) q;have rd:Rep X.K H' ds[j] ws[j]:=Rep.tups tupk _ _ (lc im hjd) (nX rw' j _ _ hjd hjw);have hS':Same H0 H':=fun b u q=>sm b u (fun z=>by rw [z,h0k] at q; cases q) (hS b u (fun z=>by rw [z,h0k] at q; cases q) q);refine c_ (N7 (JC (R.run _ _ _ _ _ _ _ _ (fun _ _=>False) (fun p hp=>A_ _ (hpn p hp)) hS' I' ru rd eF) (fun u' s2 he=>?_) fun _ _ z=>z.elim));obtain ⟨v',H2,I2,rv2,sm2,rp2⟩:=he;dsimp only;have hk2:H2 kS=a_ (.lst zs):=sm2 _ _ hk';obtain ⟨z,its,n,rvk,hlk,ek⟩:=I2.lstM hk2;have hzl:zs.length≤62:=by have:=fJ rz; simp at this; omega
  have hil:its.length≤62:=by have:=rvk.length; omega
  refine c_ (Nc ek rfl ?_ (by simp; exact hU (by omega)) (by simp; omega));have tup2:∀ b ys,H2 b=a_ (.tup ys)→(upd H2 kS (.lst (zs ++ [v']))) b=a_ (.tup ys):=fun b ys q=>by
   rw [av (fun z=>by rw [z,hk2] at q; cases q)]; exact q
  obtain ⟨n2,ek2⟩:∃ n2,(s2.heap.update kS (JD (·.push u'))).get? kS=a_ (Ki "list" (its.toArray.push u') n2):=⟨_,Mu (c:="list") ek (·.push u')⟩;refine j_ ⟨rfl,upd H2 kS (.lst (zs ++ [v'])),zs ++ [v'],?_,ax,fun b u hb q=>?_,?_⟩
  · refine I2.write (t':=s2.toks) (x:=kS) (e:=kS) (o:=.lst (zs ++ [v'])) (by rw [hk2]; trivial) (.inl rfl) (fun b u hb q=>?_) ⟨_,ek2⟩ ?_
    · rw [KF _ _ _ _ hb]; exact q
    · refine ⟨by simp; exact hU (by omega),its ++ [u'],n2,rvk.append (.cons rv2 .nil),?_⟩;simpa [Ki] using ek2
  · rw [av hb];exact sm2 _ _ (sm b u hb q)
  · have hrow:(ks.map Dv.int).take (j + 1)=(ks.map Dv.int).take j ++ [.int es]:=by
     rw [List.take_add_one,JG,er];rfl
    rw [hrow];have g1:Reps X.K (upd H2 kS (.lst (zs ++ [v']))) ((ks.map Dv.int).take j) zs:=Reps.tups tup2 _ _ (mw j imk) (Reps.mono sm2 _ _ rz);exact g1.append ⟨v',[],rfl,Rep.tups tup2 _ _ rfl rp2,rfl⟩
 case done =>
  rintro s' ⟨H',zs,I',hk',sm,rz⟩;have rz':Reps X.K H' (ks.map Dv.int) zs:=by
   rw [MX (by simp; omega)] at rz;exact rz
  obtain ⟨z,its,n,rvk,hlk,ek⟩:=I'.lstM hk';have hzl:zs.length=vs.length:=by have:=fJ rz'; simp at this; omega
  have hil:its.length=vs.length:=by have:=rvk.length; omega
  refine c_ (OB ek rfl ?_);have hpa:=I'.pin (a,Ki "list" #[] e1) (by simp);refine GB (blt:=uW ks) (c:=n) ek hpa.1 hne hil h64 (zo ks) (lh (jW ks) rz' rvk) (fun i j x y ex ey=>?_) fun p out tk o1 o2 o3 o4=>?_
  · simp [uW,MG,ex,ey]
  · obtain ⟨n2,ek2⟩:∃ n2,(s'.heap.update kS (JD fun _=>#[])).get? kS=a_ (Ki "list" #[] n2):=⟨_,Mu (c:="list") ek (fun _=>(#[]:Array g_))⟩;have W:=I'.write (t':=tk) (h':=s'.heap.update kS (JD fun _=>#[])) (x:=kS) (e:=kS) (o:=.lst []) (by rw [hk']; trivial) (.inl rfl) (fun b u hb q=>by rw [KF _ _ _ _ hb]; exact q) ⟨_,ek2⟩ ⟨JA _,[],n2,.nil,by simpa [Ki] using ek2⟩;have W2:=W.unpinned;have hna:upd H' kS (.lst []) a=ck:=by rw [av hne.symm]; exact hpa.2.1
    have ha2:(s'.heap.update kS (JD fun _=>#[])).get? a=a_ (Ki "list" #[] e1):=by rw [KF _ _ _ _ hne.symm]; exact hpa.1
    obtain ⟨g0,g1,g2,g3⟩:=fpa _ hna;have T:=W2.turned (t':=tk) (h':=(s'.heap.update kS (JD fun _=>#[])).update a (JD fun _=>out)) (it:=a) (fun b o hb q=>by rw [KF _ _ _ _ hb]; exact q) g0 g1 g3.1 g3.2.1 g3.2.2;exact h _ _ p out _ T hna (fun b u hb q=>by rw [av hb]; exact sm b u hb q) (Mu ha2 fun _=>out) o1 o2 o3 o4
end
section
variable {X:Cx} {j' pn:List (k_×Obj)} {σ:L2.St} {H H0:Hp} {s:h_} {f:k_} {F:List Dv→Option (Rs Dv)} {A':D_} {E:g_→h_→Prop}
theorem CV {a:k_} {n:Nat} {vs:List g_} {ws:List V} {ds:List Dv} {ks:List Int} {P:QD→h_→Prop}
 (R:EC X A' f pn H0 F) (hpn:∀ p∈pn,p∈j') (hS:Same H0 H)
 (I:Inv X j' σ H s) (ho:s.heap.get? a=a_ (Ki "list" vs.toArray n)) (hna:H a=ck) (fpa:∀ H',H' a=ck→ni X j' H' a) (rv:Vals ws vs) (rw':Reps X.K H ds ws) (im:imms ds=e_)
 (hkey:∀ (i:Nat) (d:Dv),ds[i]?=a_ d→∃ k,ks[i]?=a_ k∧F [d]=a_ (.ok (.int k))) (hlen:ks.length=ds.length) (hok:ks.length < 64)
 (h:∀ (s':h_) (H':Hp) (p:Nat→Nat) (out:Array g_) (c:Nat),Inv X j' σ H' s'→H' a=ck→Same H H'→s'.heap.get? a=a_ (Ki "list" out c)→out.size=vs.length→(∀ k,k < vs.length→out[k]?=vs[p k]?) →
   (pi vs.length).map p=fu (fun i j=>!uW ks j i) (pi vs.length)→(∀ k,k < vs.length→p k < vs.length)→P (.done (.ret .none)) s') :
 uk (z_ X.prog X.w) A' (ksk_tree a (.ref f) d_) P E s:=by
 have h64:vs.length < 64:=by
  have g1:=fJ rw'; have g2:=rv.length;omega
 have ha:a < s.heap.objs.size:=v_ ho;obtain ⟨g0,g1,g2,g3⟩:=fpa _ hna;unfold ksk_tree;refine c_ (OB ho rfl ?_);refine c_ (Nc ho rfl ?_ (hU (by simpa using h64)));obtain ⟨e1,ho1⟩:∃ e1,(s.heap.update a (JD fun _=>(#[]:Array g_))).get? a=a_ (Ki "list" #[] e1):=⟨_,Mu ho fun _=>#[]⟩;have I1:=I.turned (t':=s.toks) (h':=s.heap.update a (JD fun _=>(#[]:Array g_))) (it:=a) (fun b o hb q=>by rw [KF _ _ _ _ hb]; exact q) g0 g1 g3.1 g3.2.1 g3.2.2;refine c_ (seqEpoch_at ho1 rfl ?_);refine c_ (wpAny_newTuple ?_ (hU (by simpa using h64)));refine c_ (PH ?_);refine JY ?_;have I2:=I1.kept (t':=s.toks) (h':=(s.heap.update a (JD fun _=>(#[]:Array g_))).push (Ki "tuple" vs.toArray 0)) fun b u q=>i_ _ q;have sz2:((s.heap.update a (JD fun _=>(#[]:Array g_))).push (Ki "tuple" vs.toArray 0)).objs.size=s.heap.objs.size + 1:=by rw [size_push',QC]
 have fr:H ((s.heap.update a (JD fun _=>(#[]:Array g_))).push (Ki "tuple" vs.toArray 0)).objs.size=ck:=I2.hok.fresh (r_ _);have I3:=I2.laid (t':=s.toks) (h':=((s.heap.update a (JD fun _=>(#[]:Array g_))).push (Ki "tuple" vs.toArray 0)).push (Ki "list" #[] 0)) (o:=.lst []) (fun b u q=>i_ _ q) (r_ _) ⟨JA _,[],0,.nil,s_ _ rfl⟩;have ho3:(((s.heap.update a (JD fun _=>(#[]:Array g_))).push (Ki "tuple" vs.toArray 0)).push (Ki "list" #[] 0)).get? a=a_ (Ki "list" #[] e1):=i_ _ (i_ _ ho1);have hne:((s.heap.update a (JD fun _=>(#[]:Array g_))).push (Ki "tuple" vs.toArray 0)).objs.size≠a:=by rw [sz2]; exact LO (L6 ha)
 have I4:=I3.pinned (fp:=[a]) (fun b hb=>by
  have:b=a:=by simpa using hb
  subst this;exact fpa _ (by rw [av hne.symm]; exact hna)) (fun b hb=>by
  have:b=a:=by simpa using hb
  subst this;exact ⟨_,ho3,fun v z=>by cases z⟩)
 rw [nY ho3] at I4;refine CU R hpn (fun b u hb q=>by rw [av hb]; exact hS b u q) (hS.free fr) I4 ax hne rv (Reps.mono (aG fr _) _ _ rw') im hkey hlen hok fpa fun s' H' p out c J ja sm e o1 o2 o3 o4=>h s' H' p out c J ja (fun b u q=>sm b u (fun z=>?_) ?_) e o1 o2 o3 o4
 · rw [z,fr] at q; cases q
 · rw [av (fun z=>by rw [z,fr] at q; cases q)]; exact q
theorem wa {l:k_} {vs:List g_} {ws:List V} {ds:List Dv} {ks:List Int} {Q:VK}
 (R:EC X X.A.in1.in1 f pn H0 F) (hpn:∀ p∈pn,p∈j') (hS:Same H0 H)
 (I:Inv X j' σ H s) (hcol:∀ Q':List g_→h_→Prop,(∀ h' tk,(∀ b o,s.heap.get? b=a_ o→h'.get? b=a_ o)→s.heap.objs.size≤h'.objs.size→Q' vs { s with heap:=h',toks:=tk })→uk (z_ X.prog X.w) X.A.in1 (collect (.ref l)) Q' E s) (rv:Vals ws vs) (rw':Reps X.K H ds ws)
 (hkr:gp F ds=a_ ks) (hok:ks.length < 64) (im:imms ds=e_)
 (q:∀ (L:k_) (ws':List V) (H':Hp),Same H H'→H' L=a_ (.lst ws')→Reps X.K H' (ie ks ds) ws'→Q (.ref L) H') :
 uk (z_ X.prog X.w) X.A (call (.builtin "sorted") [.ref l] [(b_ "key",.ref f)]) (EP X j' σ Q) E s:=by
 obtain ⟨hlen,hkey⟩:=iV hkr;have hws:ds.length=ws.length:=fJ rw';have hvs:ws.length=vs.length:=rv.length;have h64:vs.length < 64:=by
  omega
 refine call_function_entry_kw kind_sorted plain_sorted entry_sorted (ksk_s1 _ _) ?_;unfold Me.«sorted»;refine c_ (m:=checkCount "sorted" 1 1 _) (j_ ?_);refine c_ (hcol _ fun h1' tk1 up gr=>?_);refine c_ (PH ?_ (hU h64));have I1:=I.kept (t':=tk1) (h':=h1'.push (Ki "list" vs.toArray 0)) fun b u z=>i_ _ (up b u z);have hoL:(h1'.push (Ki "list" vs.toArray 0)).get? h1'.objs.size=a_ (Ki "list" vs.toArray 0):=s_ _ rfl;have hfr:H h1'.objs.size=ck:=I.hok.fresh (gr);have fpa:∀ H',H' h1'.objs.size=ck→ni X j' H' h1'.objs.size:=fun H' hn=>I.fpOk (gr) hn;refine c_ (JY (wpAny_call_entry_kw slot_list_sort ⟨_,hoL,rfl⟩ entry_list_sort ?body (ksk_l1 _ _)))
 case body =>
  show uk (z_ X.prog X.w) X.A.in1.in1 (Me.«list.sort» ⟨[.ref h1'.objs.size],[(b_ "key",.ref f)]⟩) _ _ _;rw [ksk_t1];refine CV (s:={ s with heap:=h1'.push (Ki "list" vs.toArray 0),toks:=tk1 }) R hpn hS I1 hoL hfr fpa rv rw' im hkey hlen hok fun s' H' p out cc J ja sm e o1 o2 o3 o4=>⟨_,rfl,?_⟩;refine j_ ⟨_,rfl,?_⟩;obtain ⟨g0,g1,g2,g3,g4,g5⟩:=fpa _ ja;have J2:=J.pinned (fp:=[h1'.objs.size]) (fun b hb'=>by
   have:b=h1'.objs.size:=by simpa using hb'
   subst this;exact fpa _ ja) (fun b hb'=>by
   have:b=h1'.objs.size:=by simpa using hb'
   subst this;exact ⟨_,e,fun v z=>by cases z⟩)
  rw [nY e] at J2;have hV:Vals ((pi vs.length).map fun k=>ws.getD (p k) .non) out.toList:=by
   refine qz (by simp [o1]) fun i v u ev eu=>?_;have hi:i < vs.length:=by
    have:=(Jm.mp eu).1;simp [o1] at this;omega
   have eu':out[i]?=a_ u:=by simpa using eu
   rw [o2 i hi] at eu';rw [JG,Mn hi] at ev;simp only [LQ,Li] at ev;have hp:p i < ws.length:=by rw [hvs]; exact o4 i hi
   have e1:ws[p i]?=a_ v:=by rw [B_ hp,← ev]; simp [MG,hp]
   obtain ⟨u',e2,r2⟩:=rv.get e1;rw [e2] at eu';cases eu';exact r2
  have hR:Reps X.K H' (ie ks ds) ((pi vs.length).map fun k=>ws.getD (p k) .non):=by
   have hn:vs.length=ds.length:=by omega
   rw [← qB hlen,← hn,← o3,NB];refine qw (by simp) fun i d v ed ev=>?_;have hi:i < vs.length:=by
    have:=(Jm.mp ed).1;simpa using this
   rw [JG,Mn hi] at ed ev;simp only [LQ,Li,Rl] at ed ev;have hp:p i < ws.length:=by rw [hvs]; exact o4 i hi
   have hp':p i < ds.length:=by omega
   refine nX (Reps.mono sm _ _ rw') (p i) d v ?_ ?_
   · rw [B_ hp',← ed]; simp [MG,hp']
   · rw [B_ hp,← ev]; simp [MG,hp]
  have e':(h1'.objs.size,Ki "list" out cc)=(h1'.objs.size,yO out.toList cc):=by simp [Ki,yO]
  rw [e'] at J2;obtain ⟨ha',J3⟩:=Inv.retrack J2 hV (hU (by simp; omega)) (fun o' z=>by
   exfalso;rcases g3 with g3 | g3
   · exact absurd (I.ok) (fun _=>by
      have:=Nf (h:=X.s₀.heap) (a:=h1'.objs.size) (Jy I.sz (gr));rw [this] at z;cases z)
   · have:=Nf (h:=X.s₀.heap) (a:=h1'.objs.size) g3;rw [this] at z;cases z) g5
  refine ⟨.ref h1'.objs.size,_,J3,rfl,q _ _ _ (fun b u z=>?_) ax (Reps.mono (aG ja _) _ _ hR)⟩;exact aG ja _ b u (sm b u z)
end
theorem pM {a b:Int} {t u:Tok} {c:g_}:∀ (l:List g_),Qv l→Qv (l ++ [.int a t,.int b u,c])
 | [],_=>trivial
 | .int _ _ :: .int _ _ :: _ :: rest,h=>pM rest h
theorem mz {pos:Pos} {v c:g_} {a b:Int} {t u:Tok}:∀ (l:List g_),Qv l→Oe pos (l ++ [.int a t,.int b u,c])=a_ v→Oe pos l=a_ v∨v=c
 | [],_,h=>by
  simp only [QX,Oe] at h;split at h
  · cases h; exact .inr rfl
  · cases h
 | .int x _ :: .int y _ :: z :: rest,hl,h=>by
  simp only [List.cons_append,Oe] at h ⊢;split at h
  · rename_i hc;rw [if_pos hc];exact .inl h
  · rename_i hc;rw [if_neg hc];exact mz rest hl h
def TBL (P:k_) (q:Str) (H:Hp):Prop:=∃ ps t,H P=a_ (.tbl ps)∧ps[0]?=a_ (.str q t)
def CW (oc:Obj) (q:Str):Prop:=∃ vs t,oc.data=.fields vs∧vs[1]?=a_ (.str q t)
abbrev FZ (oc:Obj):HO:=.frz oc (.ext fun _=>True)
def mB (K:f_) (cd:g_) (P:k_):Prop:=∃ cc o vs file tf flags tg inF text tt,cd=.ref cc∧K.lookup cc=a_ o∧o.cls=.type "code"∧o.data=.fields vs∧vs[11]?=a_ (.ref P)∧vs.getD 11 .none=.ref P∧vs.getD 18 .none=.str file tf ∧
 vs.getD 7 .none=.int flags tg∧vs.getD 9 .none=.bool inF∧vs.getD 10 .none=.int text tt∧cc≠P
def CY (K:f_) (mg:Str→Option g_):Prop:=∃ bm o,mg "__builtins__"=a_ (.ref bm)∧bm≠builtinsNs∧bm≠y_∧K.lookup bm=a_ o∧o.cls=.type "module"∧o.dict=a_ builtinsNs∧o.data=.plain
section
variable {X:Cx} {j':List (k_×Obj)} {σ:L2.St} {H:Hp} {s:h_} {P:k_} {q:Str}
theorem TBL.now (h:TBL P q X.H₀) (I:Inv X j' σ H s):TBL P q H:=by
 obtain ⟨ps,t,h1,h2⟩:=h;obtain ⟨more,e⟩:=I.base.tbls P ps h1;refine ⟨ps ++ more,t,e,?_⟩;have:0 < ps.size:=(JR.mp h2).1;rw [Array.getElem?_append_left this];exact h2
theorem zp {c:k_} {ps:Array g_} {oc:Obj} {t':Nat} {h':H_} (I:Inv X j' σ H s) (hP:H P=a_ (.tbl ps)) (hx:∀ b o,b≠P→s.heap.get? b=a_ o→h'.get? b=a_ o) (hc:s.heap.objs.size≤c) (hoc:h'.get? c=a_ oc) (new:ObjOk X.prog X.w (upd H c (FZ oc)) h' P (.tbl ps)) :
 Inv X j' σ (upd H c (FZ oc)) { s with heap:=h',toks:=t' }:=by
 have fr:H c=ck:=I.hok.fresh hc;have nP:∀ b,H b=ck→b≠P:=fun b n z=>by rw [z,hP] at n; cases n
 have nc:∀ b o,s.heap.get? b=a_ o→b≠c:=fun b o e=>I_ (G_ (v_ e) hc);refine I.step (g':=s.gens) (d':=s.drawn) (ch:=[]) (fun _ z=>nomatch z) (fun b o _ _ _ e n=>hx b o (nP b n) e) (fun b o _ _ _ e n=>⟨o.slots,hx b o (nP b n) e⟩) (fun b o _ e n=>by rw [av (nc b o e)]; exact n) (fun b o _ e=>?_)
  (fun b xs e=>by rw [av (aq e fr)]; exact e) (fun b o u e=>by rw [av (aq e fr)]; exact e) (fun b qs e=>⟨#[],by rw [av (aq e fr),e]; simp⟩) (fun m hm=>?_) (fun b u e=>?_) I.bare
 · by_cases hb:b=P
   · obtain ⟨qs,e2,_⟩:=new;exact ⟨_,by rw [hb]; exact e2⟩
   · exact ⟨o,hx b o hb e⟩
 · obtain ⟨o,es,ep,ho,r⟩:=hm;exact ⟨o,es,ep,hx _ o (nP _ I.free) ho,r⟩
 · by_cases hb:b=c
   · subst hb;rw [ax] at e;cases e;exact ⟨hoc,trivial,⟨oc,hoc⟩,fun _ _ _ _=>trivial⟩
   · rw [av hb] at e;by_cases hbP:b=P
     · subst hbP;rw [hP] at e;cases e;exact new
     · refine (I.hok b u e).stay (fun d v hd z=>hx d v ?_ z) (fun d z=>by rw [av (aq z fr)]; exact z) fun d xs z=>by rw [av (aq z fr)]; exact z
       rcases hd with z | z
       · rw [z]; exact hbP
       · intro z2;rw [z2,hP] at z;cases z
theorem CZ {E:g_→h_→Prop} {Q:g_→h_→Prop} {args:Arguments} {body:F_} {scope:Kz} {lpos:Pos} (I:Inv X j' σ H s) (hT:TBL P q X.H₀) (hC:mB X.K X.env.code P) (hB:CY X.K X.mg) (hcl:LH scope X.env=pure []) (hdef:defaultsOf args X.env=([],[])) (hq:X.env.qual ++ "<lambda>"=q)
 (h:∀ f c oc ctv pm H' s',Inv X j' σ H' s'→Same H H'→H' c=a_ (FZ oc)→CW oc q→s'.heap.get? f=a_ (LP "<lambda>" q args body scope [] pm c ctv)→ni X j' H' f→Q (.ref f) s') :
 uk (z_ X.prog X.w) X.A (eval (.Lambda args body scope lpos) X.env) Q E s:=by
 refine PySem.W.kla_eval hdef ?_;rw [hq];obtain ⟨ps,t0,hP,hp0⟩:=hT.now I;obtain ⟨qs,e,tr,ch⟩:=I.hok P _ hP;have KX:=I.kIn;obtain ⟨cc,o,vs,file,tf,flags,tg,inF,text,tt,ecd,lk,c1,c2,c3,c4,c5,c6,c7,c8,c9⟩:=hC;have C:PySem.W.CodeHd s.heap cc P:=⟨o,vs,file,tf,flags,tg,inF,text,tt,KX _ _ lk,c1,c2,c3,c4,c5,c6,c7,c8,c9⟩;have hg:s.heap.Ns y_ X.mg:=I.mod.glob.keeps I.bk;obtain ⟨bm,ob,b1,b2,b3,b4,b5,b6,b7⟩:=hB;have hgP:y_≠P:=fun z=>by
  obtain ⟨o,es,ep,e',hd,_⟩:=hg;rw [z,e] at e'; cases e'; cases hd
 have hbP:bm≠P:=fun z=>by
  have e':=KX _ _ b4;rw [z,e] at e'; cases e'; cases b5
 have hb:s.heap.BuiltinsAt X.mg P:=⟨bm,ob,b1,b2,b3,hbP,KX _ _ b4,b5,b6,b7⟩;cases hf:Oe lpos qs.toList with
 | none =>
  refine PySem.W.kla_makeFunction (mg:=X.mg) hcl I.ok.glob hg ecd C e tr hf hgP hb fun c' ctv h' tk hx hge hlt hrec htb=>?_;obtain ⟨c2',oc,vs2,t,e2,hoc,hd,hv⟩:=hrec;cases e2;have fr:H c'=ck:=I.hok.fresh hge;have hl:(qs ++ #[Ot lpos.line,Ot lpos.col,q_ c']).toList=qs.toList ++ [Ot lpos.line,Ot lpos.col,.ref c']:=by simp
  have new:ObjOk X.prog X.w (upd H c' (FZ oc)) h' P (.tbl ps):=⟨_,htb,by rw [hl]; exact pM _ tr,fun pos v hv'=>by
   rw [hl] at hv';rcases mz _ tr hv' with z | z
   · obtain ⟨c3',oc3,vs3,q3,t3,t3',r1,r2,r3⟩:=ch pos v z;exact ⟨c3',oc3,vs3,q3,t3,t3',r1,by rw [av (aq r2 fr)]; exact r2,r3⟩
   · exact ⟨c',oc,vs2,q,t,t0,z,ax,hd,hv,hp0⟩⟩
  have I':=zp (t':=tk) I hP (fun b o hb' q'=>hx b o hb' q') hge hoc new;have I2:=I'.kept (t':=tk) (h':=h'.push (LP "<lambda>" q args body scope [] ((X.mg "__name__").getD .none) c' ctv)) fun b u z=>i_ _ z;exact h h'.objs.size c' oc ctv _ _ _ I2 (aG fr _) ax ⟨vs2,t,hd,hv⟩ (s_ _ rfl) (I'.fpOk (r_ _) (I'.hok.fresh (r_ _)))
 | some v =>
  obtain ⟨c3',oc3,vs3,q3,t3,t3',r1,r2,r3,r4,r5⟩:=ch lpos v hf;subst r1;rw [hp0] at r5;cases r5;refine PySem.W.kla_makeFunctionHit (mg:=X.mg) hcl I.ok.glob hg ecd C e tr hf hb fun ctv h' tk hk hsz=>?_;have I1:=I.kept (t':=tk) (h':=h') hk;have I2:=I1.kept (t':=tk) (h':=h'.push (LP "<lambda>" q args body scope [] ((X.mg "__name__").getD .none) c3' ctv)) fun b u z=>i_ _ z;exact h h'.objs.size c3' oc3 ctv _ _ _ I2 (.refl H) r2 ⟨vs3,t3,r3,r4⟩ (s_ _ rfl) (I1.fpOk (r_ _) (I1.hok.fresh (r_ _)))
theorem zq {A':D_} {k:Nat} {f c:k_} {oc:Obj} {H0:Hp} {N ps:List Str} {args:Arguments} {body:F_} {scope:Kz} {pm ctv:g_} {fb:FnE} {F:List Dv→Option (Rs Dv)} (hr:Room (k + 1) A') (hfr:A'.frames=X.A.frames) (S:dO N ps scope) (hps:ps.length=1)
 (hbd:∀ (pm ctv:g_) (c:k_) (u:g_),O2 (O4 "<lambda>" q args body scope [] pm (.ref c) ctv) ⟨[u],[]⟩=pure (ps.zip [u])) (hc:H0 c=a_ (FZ oc)) (hrec:CW oc q)
 (hb:∀ (A:D_) (outer:List Env) (s:h_) (H:Hp) (E:XK),Room k (A.deeper (LN q scope s.heap.objs.size f (.ref c)))→FE (kU CX0 X.prog X.w X.K X.mg X.base N q scope f (.ref c) A outer s H E) body fb)
 (hF:F=fun ds=>fb (ds.map a_ ++ Jj (N.length - ds.length) ck)):EC X A' f [(f,LP "<lambda>" q args body scope [] pm c ctv)] H0 F:=by
 refine ⟨fun j' σ H s v u d d' E hpn hS I ru rd eF=>?_⟩;have e0:=I.env0;have e1:Env0 X.prog X.w X.K X.mg X.base A' X.stack s H:=⟨hfr.trans e0.frames,e0.mod,e0.bs,e0.bsz,e0.funs,e0.frf,e0.hok,e0.bare⟩;have hfo:=(I.pin (f,LP "<lambda>" q args body scope [] pm c ctv) (m_ _ (hpn _ (by simp)))).1;have hoc:s.heap.get? c=a_ oc:=(I.hok c _ (hS _ _ hc)).1;obtain ⟨vs,t,hd,hv⟩:=hrec;have lim:s.heap.NoLimit:=I.nolimit;have hkind:∀ y∈ps.zip [u],scope.names.lookup y.1=a_ .local∨(scope.names.lookup y.1=a_ .cell∧((JM (s.heap.objs.size + 1) scope.names []).lookup y.1).isSome=e_):=fun ⟨n,v⟩ hy=>by
  rcases S.par n (Nr hy).1 with q | q
  · exact .inl q
  · exact .inr ⟨q,MO _ _ _ (.inl q)⟩
 refine PU (LG (R:=CR CX0 X.stack X.prog X.w H s (fun v' H'=>Same H H'∧Rep X.K H' d' v') E0) ?_ fun r s' hq=>?_)
 · refine PySem.W.kla_callFunE hr.depth hfo rfl S.co S.gen rfl ⟨c,oc,vs,t,rfl,hoc,hd,hv⟩ ?_;rw [hbd];refine j_ (NH S.kind hkind fun env he s1 x=>?_);subst he;refine ⟨lim.keeps x.toInCall.keep,PySem.W.kla_codeExpr ?_⟩;have I1:Inv (kU CX0 X.prog X.w X.K X.mg X.base N q scope f (.ref c) A' X.stack s H E0) [] (start N [v]) H s1:=lU S hr.hd e1 (by simp [hps]) (.cons ru .nil) x;refine JC ((hb A' X.stack s H E0 (hr.deeper _)).h [] s1 (start N [v]) H (fun v' H'=>Same H H'∧Rep X.K H' d' v') I1 ⟨_,fj (ds:=[d]) ⟨v,[],rfl,rd,rfl⟩,?_⟩) (fun v' s' hs=>?_) fun e s' hs=>hs
   · rw [hF] at eF;have eF':fb (List.map a_ [d] ++ Jj (N.length - [d].length) ck)=a_ (.ok d'):=eF;rw [eF'];exact fun v H' e r=>⟨e,r⟩
   · obtain ⟨v2,H2,J,rv2,q2⟩:=hs;exact ⟨v2,H2,J.os,J.bare,J.base,J.hok,rv2,q2⟩
 · cases r with
   | error e=>exact hq.elim
   | ok fl =>
    cases fl with
    | ret u=>exact I.after hq
    | next=>exact JK hq
    | brk=>exact JK hq
    | cont=>exact JK hq
end
section
variable {X:Cx} {k' k:Nat} {p kp pos lpos:Pos} {e:F_} {g:FnA} {P:k_} {q:Str} {N ps:List Str} {args:Arguments} {body:F_} {scope:Kz} {fb:FnE}
def Ay (n:Nat) (fb:FnE):List Dv→Option (Rs Dv):=fun ds=>fb (ds.map a_ ++ Jj (n - ds.length) ck)
theorem wb (hT:TBL P q X.H₀) (hC:mB X.K X.env.code P) (hB:CY X.K X.mg) (hr:Room k' X.A) (hk:k + 3≤k') (hg:Gl X "sorted") (hm:X.mg "sorted"=ck) (ha:FA X [e] g) (S:dO N ps scope) (hps:ps.length=1) (hN:N.length=1)
 (hb:∀ (f c:k_) (A:D_) (outer:List Env) (s:h_) (H:Hp) (E:XK),Room k (A.deeper (LN q scope s.heap.objs.size f (.ref c)))→FE (kU CX0 X.prog X.w X.K X.mg X.base N q scope f (.ref c) A outer s H E) body fb)
 (hbd:∀ (pm ctv:g_) (c:k_) (u:g_),O2 (O4 "<lambda>" q args body scope [] pm (.ref c) ctv) ⟨[u],[]⟩=pure (ps.zip [u])) (hcl:LH scope X.env=pure []) (hdef:defaultsOf args X.env=([],[])) (hq:X.env.qual ++ "<lambda>"=q)
 (he:JV pos (l_ [e] X.env)=(d_,eval e X.env) :: JV pos (l_ [] X.env):=by kernel_rfl)
 (hplain:(JV pos (l_ [e] X.env)).any (·.1)=d_:=by kernel_rfl)
 (hall:(L8 pos (KQ [⟨a_ "key",.Lambda args body scope lpos,kp⟩] X.env)).all (·.1.isSome)=e_:=by kernel_rfl)
 (hkw:(L8 pos (KQ [⟨a_ "key",.Lambda args body scope lpos,kp⟩] X.env)).any (·.1.isNone)=d_:=by kernel_rfl)
 (hnm:(L8 pos (KQ [⟨a_ "key",.Lambda args body scope lpos,kp⟩] X.env)).filterMap (·.1)=[b_ "key"]:=by kernel_rfl) :
 FE X (.Call (.Name "sorted" p) [e] [⟨a_ "key",.Lambda args body scope lpos,kp⟩] pos) (fB1 (qA (Ay 1 fb)) g):=⟨fun j' s σ H Q I ⟨ρ,E,o⟩=>by
 refine K4 (gY I hg hm (u:=.builtin "sorted") (by decide +kernel) ?_ (by decide) (by decide));refine callWith_kw (thn (ha.h pos j' s σ H _ I ⟨ρ,E,OutA.bind o fun ds vs H1 e1 rs o1=>(show ∃ ds,Reps X.K H1 ds vs∧Out X H1 (qA (Ay 1 fb) ds) Q from ⟨ds,rs,o1⟩)⟩) fun us s1 ⟨vs,H1,I1,r1,ds,rs,o1⟩=>?_) he hplain hall hkw;refine kws_cons (CZ I1 hT hC hB hcl hdef hq fun f c oc ctv pm H2 s2 I2 sm hc hrec hfo hfp=>kws_nil ?_);rw [hnm];show uk _ _ (call (.builtin "sorted") us [(b_ "key",.ref f)]) _ _ s2;unfold qA at o1;split at o1
 · rename_i es;obtain ⟨v,rfl,r⟩:=dz rs;obtain ⟨l,xs,rfl,hl,rx⟩:=r.lstE;obtain ⟨u,rfl,ru⟩:=fg r1;cases (show u=q_ l from ru);split at o1
   · rename_i ks hks;split at o1
     · rename_i hcond;obtain ⟨z,its,n,rv,hz,eh⟩:=I2.lstM (sm _ _ hl);have Ip:=I2.pinned (fp:=[f]) (fun b hb'=>by
        have:b=f:=by simpa using hb'
        subst this;exact hfp) (fun b hb'=>by
        have:b=f:=by simpa using hb'
        subst this;exact ⟨_,hfo,fun v z=>by cases z⟩)
       rw [nY hfo] at Ip;have hin:Room (k + 1) X.A.in1.in1:=(hr.mono hk).in1.in1;have R:=zq (X:=X) (A':=X.A.in1.in1) (H0:=H2) (N:=N) (ps:=ps) (args:=args) (body:=body) (scope:=scope) (pm:=pm) (ctv:=ctv) (fb:=fb) (F:=Ay 1 fb) hin rfl S hps hbd hc hrec (hb f c) (by rw [hN]; rfl);have hlen:its.length < 64:=by
        obtain ⟨g1,_⟩:=iV hks;have g2:=fJ rx;have g3:=rv.length;omega
       refine thn (wa (Q:=Q) R (fun p hp=>by
        have:p=(f,LP "<lambda>" q args body scope [] pm c ctv):=by simpa using hp
        subst this;simp) (.refl H2) Ip (fun Q' hQ=>nZ (M:=z_ X.prog X.w) eh rfl rfl rfl (fun h' up gr=>hQ h' s2.toks up (Mg gr)) (hU hlen)) rv (Reps.mono sm _ _ rx) hks hcond.1 hcond.2 fun L ws' H' sm' hL rw'=>o1 _ _ (sm.trans sm') ⟨L,ws',rfl,hL,rw'⟩) fun u s3 ⟨v,H3,I3,rv3,q3⟩=>⟨v,H3,I3.unpinned,rv3,q3⟩
     · exact o1.elim
   · exact o1.elim
 · exact o1.elim⟩
end
def spT (Pt:k_) (q:Str) (K:f_) (F:List Dv→Option (Rs Dv)) (n:Nat):Sp:=fun vs H Q E=>TBL Pt q H∧spF K F n vs H Q E
def IG (P:rl) (w:C_) (K:f_) (mg:Str→Option g_) (base:H_) (Pt:k_) (q:Str) (x:Str) (k:Nat) (ps:List Str) (F:List Dv→Option (Rs Dv)):Prop :=
 ∃ f fd,FnOk P w K mg base CX0 k f fd ps (spT Pt q K F ps.length)∧mg x=a_ (.ref f)∧Ka K (.ref f)=e_∧Binds K fd ps []
structure HAT (P:rl) (w:C_) (K:f_) (mg:Str→Option g_) (base:H_) (Pt:k_) (q:Str) (T:bT):Prop where
 h:∀ x e,T.lookup x=a_ e→IG P w K mg base Pt q x e.1 e.2.1 e.2.2
section
variable {P:rl} {w:C_} {K:f_} {mg:Str→Option g_} {base h:H_} {Pt:k_} {q:Str} {T:bT} {y x:Str} {k n:Nat} {ps:List Str} {F:List Dv→Option (Rs Dv)} {st:Ky} {f:k_}
theorem zr:HAT P w K mg base Pt q []:=⟨fun _ _ h=>by cases h⟩
theorem TBL.mono {H H':Hp} (e:Same H H') (h:TBL Pt q H):TBL Pt q H':=let ⟨ps,t,h1,h2⟩:=h; ⟨ps,t,e _ _ h1,h2⟩
theorem C0 {fd:JZ} {qual:Str} {CT:g_→Prop} (N ps:List Str) (fb:FnS) (hF:F=bp N.length fb) (hn:n=ps.length) (Fn:Fun K x qual st f fd) (S:dO N ps (aF st)) (hct:CT fd.code)
 (hb:∀ (cdv:g_) (A:D_) (outer:List Env) (s:h_) (H:Hp) (E:XK),CT cdv→TBL Pt q H→Room k (A.deeper (LN qual (aF st) s.heap.objs.size f cdv))→FSs (kU CX0 P w K mg base N qual (aF st) f cdv A outer s H E).nox (cM st) fb) :
 FnOk P w K mg base CX0 (k + 1) f fd ps (spT Pt q K F n):=by
 subst hF hn;obtain ⟨oc,od,kV,doc,pm,an,cdv,ct,osl,rfl,lk,hcd⟩:=Fn.ex;refine vd lk hcd S (fun vs H Q E h=>?_) fun A outer s H vs Q E hr h=>?_
 · obtain ⟨_,ds,r,hl,_⟩:=h;rw [r.length,hl]
 · obtain ⟨ht,ds,r,hl,z⟩:=h;refine ⟨_,(hb cdv A outer s H E hct ht hr).h.nox,ds.map a_ ++ Jj (N.length - ds.length) ck,fj r,?_⟩;unfold bp at z
   match hf:fb (ds.map a_ ++ Jj (N.length - ds.length) ck) with
   | none=>rw [hf] at z; exact z.elim
   | some (.exc c)=>rw [hf] at z; exact z.elim
   | some (.rt d)=>rw [hf] at z; exact fun v H' e r'=>z v H' e r'
   | some (.nx ρ)=>rw [hf] at z; exact fun σ' H' e _=>z .non H' e rfl
def ctB (K:f_) (f Pt:k_):Bool:=match K.lookup f with
 | some ⟨_,_,.func fd,_⟩=>(match fd.code with
  | .ref cc=>(match K.lookup cc with
   | some ⟨.type "code",_,.fields vs,_⟩=>(match (vs[11]?:Option g_),vs.getD 11 .none,vs.getD 18 .none,vs.getD 7 .none,vs.getD 9 .none,vs.getD 10 .none with
    | some (.ref p),.ref p',.str _ _,.int _ _,.bool _,.int _ _=>Mv p Pt && Mv p' Pt && !Mv cc Pt
    | _,_,_,_,_,_=>d_)
   | _=>d_)
  | _=>d_)
 | _=>d_
theorem GC {fd:JZ} (h:ctB K f Pt=e_) (Fn:Fun K x x st f fd):mB K fd.code Pt:=by
 obtain ⟨oc,od,kV,doc,pm,an,cdv,ct,osl,e,lk,hcd⟩:=Fn.ex;unfold ctB at h;rw [lk] at h;dsimp only at h;split at h
 · rename_i cc hcc;split at h
   · rename_i dd vs sl hlk;split at h
     · rename_i p p' a1 a2 a3 a4 a5 a6 a7 e1 e2 e3 e4 e5 e6;simp only [on,Lm] at h;have h1:p=Pt:=JU h.1.1;have h2:p'=Pt:=JU h.1.2;subst h1;subst h2;exact ⟨cc,_,vs,_,_,_,_,_,_,_,hcc,hlk,rfl,rfl,e1,e2,e3,e4,e5,e6,K1 h.2⟩
     · cases h
   · cases h
 · cases h
theorem ctB_tab {h:H_} (XI:K.In h) (hc:ctB K f Pt=e_):OY h Pt:=by
 unfold ctB at hc;split at hc
 · split at hc
   · rename_i cc hcc;split at hc
     · rename_i dd vs sl hlk;split at hc
       · rename_i p p' a1 a2 a3 a4 a5 a6 a7 e1 e2 e3 e4 e5 e6;simp only [on,Lm] at hc;have h1:p=Pt:=JU hc.1.1;subst h1;exact ⟨cc,_,vs,XI _ _ hlk,rfl,rfl,e1⟩
       · cases hc
     · cases hc
   · cases hc
 · cases hc
def bmB (K:f_):Bool:=match KN K y_ "__builtins__" with
 | some (a_ (.ref bm))=>(match K.lookup bm with
  | some ⟨.type "module",a_ d,.plain,_⟩=>Mv d builtinsNs && !Mv bm builtinsNs && !Mv bm y_
  | _=>d_)
 | _=>d_
theorem GD (XI:K.In h) (Gn:h.Ns y_ mg) (hb:bmB K=e_):CY K mg:=by
 unfold bmB at hb;split at hb
 · rename_i bm e1;split at hb
   · rename_i d sl e2;simp only [on,Lm] at hb;have h1:d=builtinsNs:=JU hb.1.1;subst h1;exact ⟨bm,_,LU XI Gn e1,K1 hb.1.2,K1 hb.2,e2,rfl,rfl,rfl⟩
   · cases hb
 · cases hb
end
section
variable {X:Cx} {T:bT} {C:Aw} {k' n:Nat} {Pt:k_} {q x:Str} {p pos kp lpos:Pos} {e:F_} {es:List F_} {F:List Dv→Option (Rs Dv)} {g:FnA} {N ps:List Str} {args:Arguments} {body:F_} {scope:Kz} {fb:FnE}
theorem tZ (hT:TBL Pt q X.H₀) (hC:mB X.K X.env.code Pt) (hB:CY X.K X.mg) (hM:MA X.mg C) (hr:Room k' X.A) (ha:FA X [e] g)
 (hb:∀ (f c:k_) (A:D_) (outer:List Env) (s:h_) (H:Hp) (E:XK),Room 1 (A.deeper (LN q scope s.heap.objs.size f (.ref c)))→FE (kU CX0 X.prog X.w X.K X.mg X.base N q scope f (.ref c) A outer s H E) body fb)
 (hk:Rr 4 k'=e_:=by kernel_rfl) (hg:X.env.kindOf (b_ "sorted")=a_ .globalImplicit:=by kernel_rfl) (hm:C.lookup (b_ "sorted")=a_ ck:=by kernel_rfl) (hs:fnB N N scope=e_:=by kernel_rfl) (hN:Mv N.length 1=e_:=by kernel_rfl)
 (hbd:∀ (pm ctv:g_) (c:k_) (u:g_),O2 (O4 "<lambda>" q args body scope [] pm (.ref c) ctv) ⟨[u],[]⟩=pure (N.zip [u]):=by intros; kernel_rfl) (hcl:LH scope X.env=pure []:=by kernel_rfl) (hdef:defaultsOf args X.env=([],[]):=by kernel_rfl) (hq:X.env.qual ++ "<lambda>"=q:=by kernel_rfl)
 (he:JV pos (l_ [e] X.env)=(d_,eval e X.env) :: JV pos (l_ [] X.env):=by kernel_rfl)
 (hplain:(JV pos (l_ [e] X.env)).any (·.1)=d_:=by kernel_rfl)
 (hall:(L8 pos (KQ [⟨a_ "key",.Lambda args body scope lpos,kp⟩] X.env)).all (·.1.isSome)=e_:=by kernel_rfl)
 (hkw:(L8 pos (KQ [⟨a_ "key",.Lambda args body scope lpos,kp⟩] X.env)).any (·.1.isNone)=d_:=by kernel_rfl)
 (hnm:(L8 pos (KQ [⟨a_ "key",.Lambda args body scope lpos,kp⟩] X.env)).filterMap (·.1)=[b_ "key"]:=by kernel_rfl) :
 FE X (.Call (.Name "sorted" p) [e] [⟨a_ "key",.Lambda args body scope lpos,kp⟩] pos) (fB1 (qA (Ay 1 fb)) g) :=
 wb hT hC hB hr (LZ hk) hg (hM.no hm) ha (CS hs) (JU hN) (JU hN) hb hbd hcl hdef hq he hplain hall hkw hnm
end
def GE (Pt:k_) (q:Str) (K:f_) (F:List Dv→Option (Rs Dv)) (n:Nat):Sp:=fun vs H Q E=>TBL Pt q H∧spE K F n vs H Q E
def wc (P:rl) (w:C_) (K:f_) (mg:Str→Option g_) (base:H_) (Pt:k_) (q:Str) (x:Str) (k:Nat) (ps:List Str) (F:List Dv→Option (Rs Dv)):Prop :=
 ∃ f fd,FnOk P w K mg base (CXE P w) k f fd ps (GE Pt q K F ps.length)∧mg x=a_ (.ref f)∧Ka K (.ref f)=e_∧Binds K fd ps []
structure xF (P:rl) (w:C_) (K:f_) (mg:Str→Option g_) (base:H_) (Pt:k_) (q:Str) (T:bT):Prop where
 h:∀ x e,T.lookup x=a_ e→wc P w K mg base Pt q x e.1 e.2.1 e.2.2
section
variable {P:rl} {w:C_} {K:f_} {mg:Str→Option g_} {base h:H_} {Pt:k_} {q:Str} {T:bT} {y x:Str} {k n:Nat} {ps:List Str} {F:List Dv→Option (Rs Dv)} {st:Ky} {f:k_}
theorem we:xF P w K mg base Pt q []:=⟨fun _ _ h=>by cases h⟩
theorem ua (h:wc P w K mg base Pt q y k ps F) (t:xF P w K mg base Pt q T):xF P w K mg base Pt q ((y,k,ps,F) :: T):=⟨fun x e z=>by
 rcases iE z with ⟨rfl,rfl⟩ | z
 · exact h
 · exact t.h x e z⟩
theorem zu {fd:JZ} {qual:Str} {CT:g_→Prop} (N ps:List Str) (fb:FnS) (hF:F=eE N.length fb) (hn:n=ps.length) (Fn:Fun K x qual st f fd) (S:dO N ps (aF st)) (hct:CT fd.code)
 (hb:∀ (cdv:g_) (A:D_) (outer:List Env) (s:h_) (H:Hp) (E:XK),CT cdv→TBL Pt q H→Room k (A.deeper (LN qual (aF st) s.heap.objs.size f cdv))→FSs (kU (CXE P w) P w K mg base N qual (aF st) f cdv A outer s H E) (cM st) fb) :
 FnOk P w K mg base (CXE P w) (k + 1) f fd ps (GE Pt q K F n):=by
 subst hF hn;obtain ⟨oc,od,kV,doc,pm,an,cdv,ct,osl,rfl,lk,hcd⟩:=Fn.ex;refine vd lk hcd S (fun vs H Q E h=>?_) fun A outer s H vs Q E hr h=>?_
 · obtain ⟨_,ds,r,hl,_⟩:=h;rw [r.length,hl]
 · obtain ⟨ht,ds,r,hl,q⟩:=h;refine ⟨_,(hb cdv A outer s H E hct ht hr).h,ds.map a_ ++ Jj (N.length - ds.length) ck,fj r,?_⟩;unfold eE at q
   match hf:fb (ds.map a_ ++ Jj (N.length - ds.length) ck) with
   | none=>rw [hf] at q; exact q.elim
   | some (.exc c)=>rw [hf] at q; exact Cc q
   | some (.rt d)=>rw [hf] at q; exact fun v H' e r'=>q v H' e r'
   | some (.nx ρ)=>rw [hf] at q; exact fun σ' H' e _=>q .non H' e rfl
theorem wf {CT:g_→Prop} (XI:K.In h) (Gn:h.Ns y_ mg) (N ps:List Str) (fb:FnS) (A:Af K x st f) (hbd:Gz x st ps) (hct:∀ fd,Fun K x x st f fd→CT fd.code)
 (hb:∀ (cdv:g_) (A:D_) (outer:List Env) (s:h_) (H:Hp) (E:XK),CT cdv→TBL Pt q H→Room k (A.deeper (LN x (aF st) s.heap.objs.size f cdv))→FSs (kU (CXE P w) P w K mg base N x (aF st) f cdv A outer s H E) (cM st) fb) (hF:F=eE N.length fb:=by kernel_rfl) (hs:fnB N ps (aF st)=e_:=by kernel_rfl):wc P w K mg base Pt q x (k + 1) ps F :=
 let ⟨_,Fn⟩:=A.F
 ⟨_,_,zu N ps fb hF rfl Fn (CS hs) (hct _ Fn) hb,LU XI Gn A.a,A.k,Fn.binds hbd⟩
end
section
variable {X:Cx} {T:bT} {k' n:Nat} {Pt:k_} {q x:Str} {p pos:Pos} {e:F_} {es:List F_} {F:List Dv→Option (Rs Dv)} {g:FnA}
theorem qC (k:Nat) (ps:List Str) (F:List Dv→Option (Rs Dv)) (h:wc X.prog X.w X.K X.mg X.base Pt q x k ps F) (hT:TBL Pt q X.H₀) (hr:Room k' X.A) (hk:k≤k') (hex:X.ex=[]) (hg:Gl X x) (ha:FA X (e :: es) g) (hn:n=ps.length:=by kernel_rfl) (hdb:(x == ("__debug__":Str))=d_:=by kernel_rfl)
 (he:l_ (e :: es) X.env=(d_,eval e X.env) :: l_ es X.env:=by kernel_rfl) (hpl:(JV pos (l_ es X.env)).any (·.1)=d_:=by kernel_rfl) :
 FE X (.Call (.Name x p) (e :: es) [] pos) (al F n g):=by
 subst hn;obtain ⟨f,fd,G,hm,hkp,hb⟩:=h;refine ⟨fun j' s σ H Q I ⟨ρ,E,o⟩=>nv (G.mono hk) hr hg hm hkp hb .nil (Cb hex) ha.h hdb he hpl j' s σ H Q I ⟨ρ,E,OutA.bind o fun ds vs H' e rs o1=>?_⟩⟩;show GE Pt q X.K F ps.length (vs ++ []) H' Q (EX X);rw [My];refine ⟨(hT.now I).mono e,?_⟩;by_cases hl:ds.length=ps.length
 · rw [if_pos hl] at o1;refine ⟨ds,rs,hl,?_⟩
   match hF:F ds with
   | none=>rw [hF] at o1; exact o1.elim
   | some (.ok d)=>rw [hF] at o1; exact o1
   | some (.exc c)=>rw [hF] at o1; exact fun C H1 hC e1=>⟨c,C,rfl,hC,XW.mono o1 e1⟩
 · rw [if_neg hl] at o1;exact o1.elim
theorem kB (hT:xF X.prog X.w X.K X.mg X.base Pt q T) (hB:TBL Pt q X.H₀) (hr:Room k' X.A) (hF:(T.lookup x).map (fun q=>q.2.2)=a_ F) (hex:X.ex=[]) (ha:FA X (e :: es) g) (hk:((T.lookup x).all fun q=>Rr q.1 k' && Mv n q.2.1.length)=e_:=by kernel_rfl) (hg:X.env.kindOf x=a_ .globalImplicit:=by kernel_rfl) (hdb:(x == ("__debug__":Str))=d_:=by kernel_rfl)
 (he:l_ (e :: es) X.env=(d_,eval e X.env) :: l_ es X.env:=by kernel_rfl) (hpl:(JV pos (l_ es X.env)).any (·.1)=d_:=by kernel_rfl) :
 FE X (.Call (.Name x p) (e :: es) [] pos) (al F n g):=by
 cases hq:T.lookup x with
 | none=>rw [hq] at hF; cases hF
 | some q =>
  rw [hq] at hF hk;cases hF;rw [OL,on] at hk;exact qC q.1 q.2.1 q.2.2 (hT.h x q hq) hB hr (LZ hk.1) hex hg ha (JU hk.2) hdb he hpl
end
section
variable {X:Cx} {T:bT} {k' n:Nat} {Pt:k_} {q x1 x2 x3:Str} {p1 p2 p3 lp sp pos:Pos} {ix e:F_} {es:List F_} {F1 F2 F3:List Dv→Option (Rs Dv)} {fi:FnE} {g:FnA}
end
end FD
namespace FD
open PySem PySem.Spec PyProof.Rows L2
section
variable {X:Cx} {Pt:k_} {q x:Str} {elt iter:F_} {ifs:List F_} {scope:Kz} {pos px:Pos} {src:FnA} {tst:Option FnB} {fe:FnE} {cs:List (Str×Nat)}
end
end FD
namespace SM
open PySem PySem.SetTable
abbrev Mx:=Option (Int ⊕ Str)
def bi (b:Bool):Int:=if b then 1 else 0
def mxIs:Mx→g_→Bool
 | none,.none=>e_
 | some (.inl i),.int j _=>j == i
 | some (.inl i),.bool b=>bi b == i
 | some (.inr x),.str y _=>y == x
 | _,_=>d_
def Sc (v:g_):Prop:=v=.none∨(∃ b,v=.bool b)∨(∃ i t,v=.int i t)∨∃ x t,v=.str x t
theorem eP {k:Mx} {v:g_} (h:mxIs k v=e_):(k=ck∧v=.none)∨(∃ b,k=a_ (.inl (bi b))∧v=.bool b)∨(∃ i t,k=a_ (.inl i)∧v=.int i t)∨∃ x t,k=a_ (.inr x)∧v=.str x t:=by
 unfold mxIs at h;split at h
 · exact .inl ⟨rfl,rfl⟩
 · rename_i i j t; have e:j=i:=by simpa using h
   subst e; exact .inr (.inr (.inl ⟨_,_,rfl,rfl⟩))
 · rename_i i b; have e:bi b=i:=by simpa using h
   subst e; exact .inr (.inl ⟨_,rfl,rfl⟩)
 · rename_i x y t; have e:y=x:=by simpa using h
   subst e; exact .inr (.inr (.inr ⟨_,_,rfl,rfl⟩))
 · cases h
def C7 (w:C_):Mx→Int
 | none=>reduceHash 0xFCA86420
 | some (.inl i)=>hashInt i
 | some (.inr x)=>hashStr w x
def mxKind (prog:rl) (w:C_):KeyKind prog w Mx where
 is:=mxIs
 hash:=C7 w
 inj:=fun v a b ha hb=>by
  rcases eP ha with ⟨rfl,rfl⟩ | ⟨c,rfl,rfl⟩ | ⟨i,t,rfl,rfl⟩ | ⟨x,t,rfl,rfl⟩ <;> rcases eP hb with ⟨rfl,h⟩ | ⟨c',rfl,h⟩ | ⟨i',t',rfl,h⟩ | ⟨x',t',rfl,h⟩ <;> first | rfl | (cases h; rfl) | cases h
 byValue:=fun k v h=>by
  rcases eP h with ⟨rfl,rfl⟩ | ⟨c,rfl,rfl⟩ | ⟨i,t,rfl,rfl⟩ | ⟨x,t,rfl,rfl⟩ <;> rfl
 pyHash:=fun {A E s k v Q} hv h=>by
  rcases eP hv with ⟨rfl,rfl⟩ | ⟨c,rfl,rfl⟩ | ⟨i,t,rfl,rfl⟩ | ⟨x,t,rfl,rfl⟩
  · exact Pn (T:="NoneType") rfl F.slot_NoneType_hash F.entry_NoneType_hash (F.args_NoneType_hash_1 _) (beq_builtin_none _) (.inl rfl) (c_ (j_ (c_ (QM (j_ ⟨_,_,rfl,h⟩)))))
  · refine Pn (T:="bool") rfl F.slot_bool_hash entry_int_hash (args_int_hash _) (beq_builtin_none _) (.inl rfl) ?_;cases c
    · exact (show uk _ _ (do ret (← mkInt 0)) _ _ s from c_ (QM (j_ ⟨_,_,rfl,(show reduceHash 0=hashInt (bi d_) by kernel_rfl) ▸ h⟩)))
    · exact (show uk _ _ (do ret (← mkInt 1)) _ _ s from c_ (QM (j_ ⟨_,_,rfl,(show reduceHash 1=hashInt (bi e_) by kernel_rfl) ▸ h⟩)))
  · exact wpAny_pyHash_int h
  · exact wpAny_pyHash_str h
 eqBool:=fun {A E s a b u v Q} hu hv h=>by
  rcases eP hu with ⟨rfl,rfl⟩ | ⟨c,rfl,rfl⟩ | ⟨i,t,rfl,rfl⟩ | ⟨x,t,rfl,rfl⟩ <;> rcases eP hv with ⟨rfl,rfl⟩ | ⟨c',rfl,rfl⟩ | ⟨i',t',rfl,rfl⟩ | ⟨x',t',rfl,rfl⟩
  · exact QV _ prog w E Q (by simpa using h)
  · exact O6 _ prog w E Q (by simpa using h)
  · exact Pu _ _ prog w E Q (by simpa using h)
  · exact Ps _ _ prog w E Q (by simpa using h)
  · exact O7 _ prog w E Q (by simpa using h)
  · exact O8 _ _ prog w E Q (by revert h; cases c <;> cases c' <;> exact id)
  · exact Py _ _ _ prog w E Q (by rw [show ((if c=e_ then 1 else 0) == i')=u_ ((a_ (.inl (bi c)):Mx)=a_ (.inl i')) from by simp [bi,L1]]; exact h)
  · exact Px _ _ _ prog w E Q (by simpa using h)
  · exact Pv _ _ prog w E Q (by simpa using h)
  · exact Pw _ _ _ prog w E Q (by rw [show (i == (if c'=e_ then 1 else 0))=u_ ((a_ (.inl i):Mx)=a_ (.inl (bi c'))) from by simp [bi,L1]]; exact h)
  · exact PY _ _ _ _ prog w E Q (by rw [show (i == i')=u_ ((a_ (.inl i):Mx)=a_ (.inl i')) from by simp [L1]]; exact h)
  · exact NM _ _ _ _ prog w E Q (by simpa using h)
  · exact Pq _ _ prog w E Q (by simpa using h)
  · exact Pr _ _ _ prog w E Q (by simpa using h)
  · exact NL _ _ _ _ prog w E Q (by simpa using h)
  · exact PX _ _ _ _ prog w E Q (by rw [show (x == x')=u_ ((a_ (.inr x):Mx)=a_ (.inr x')) from by simp [L1]]; exact h)
 «strs»:=fun k x t v h=>by
  rcases eP h with ⟨rfl,h2⟩ | ⟨c,rfl,h2⟩ | ⟨i,t,rfl,h2⟩ | ⟨x',t',rfl,h2⟩
  · cases h2
  · cases h2
  · cases h2
  · injection h2 with h1 _;subst h1;cases v <;> rfl
end SM
namespace SM
open PySem PySem.SetTable ST
section
variable {prog:rl} {w:C_} {A:D_} {E:g_→h_→Prop} {s:h_}
abbrev TK (prog:rl) (w:C_) (h:H_) (k:List Mx) (a:k_):Prop:=IsTupleKey (mxKind prog w) h k a
abbrev hsh (prog:rl) (w:C_) (k:List Mx):Int:=tupleKeyHash (mxKind prog w) k
theorem gl {k:List Mx} {vs:List g_} (h:ItemsAre (mxKind prog w) k vs):∀ v∈vs,Sc v:=by
 induction h with
 | nil=>intro v hv; simp at hv
 | @cons k' v' ks vs h1 _ ih =>
  intro v hv;rcases w_.mp hv with rfl | hv
  · rcases eP h1 with ⟨_,rfl⟩ | ⟨_,_,rfl⟩ | ⟨_,_,_,rfl⟩ | ⟨_,_,_,rfl⟩
    · exact .inl rfl
    · exact .inr (.inl ⟨_,rfl⟩)
    · exact .inr (.inr (.inl ⟨_,_,rfl⟩))
    · exact .inr (.inr (.inr ⟨_,_,rfl⟩))
  · exact ih v hv
theorem jQ {k:List Mx} {a:k_} {Q:Bool→h_→Prop} (hk:TK prog w s.heap k a) (h:Q d_ s):uk (z_ prog w) A (ML 8 (.ref a)) Q E s:=by
 have hT:=hk.typeIs;obtain ⟨o,items,n,ho,_,hd,hi⟩:=hk;unfold ML;refine c_ (MI hT ?_);show uk _ _ ((if ("tuple" == "tuple")=e_ then pure e_ else isSubtype (.type "tuple") (.type "tuple")) >>= _) _ _ s;rw [if_pos (by decide)];refine c_ (j_ ?_);simp only [Kn,p_,if_false];refine c_ (Kl ho hd ?_);refine c_ ?_;show uk _ _ (Rh items _ _) _ _ s;rw [← La];refine Lu _ (fun rest r s'=>r.1=ck∧s'=s∧∀ v∈rest,Sc v) _ ?_ ?_ _ _ ⟨rfl,rfl,gl hi⟩
 · rintro v rest r s' ⟨hr,rfl,hall⟩;rcases hall v n_ with rfl | ⟨_,rfl⟩ | ⟨_,_,rfl⟩ | ⟨_,_,rfl⟩
   all_goals
    refine c_ (j_ ?_);simp only [p_,if_false];exact j_ ⟨rfl,rfl,fun u hu'=>hall u (o_ _ hu')⟩
 · rintro ⟨r1,r2⟩ s' ⟨hr,rfl,_⟩;simp only at hr;subst hr;exact j_ h
theorem sZ {k:List Mx} {b:k_} (hk:TK prog w s.heap k b) {l:List g_} (hl:∀ v∈l,∃ k' a,v=.ref a∧TK prog w s.heap k' a) {Q:Bool→h_→Prop} (h:Q d_ s):uk (z_ prog w) A (MK (.ref b) l) Q E s:=by
 unfold MK;refine c_ ?_;refine Lu _ (fun rest r s'=>r.1=ck∧s'=s∧∀ v∈rest,∃ k' a,v=q_ a∧TK prog w s.heap k' a) _ ?_ ?_ _ _ ⟨rfl,rfl,hl⟩
 · rintro v rest r s' ⟨hr,rfl,hall⟩;obtain ⟨k',a,rfl,ha⟩:=hall v n_;have hrest:∀ v∈rest,∃ k' a,v=q_ a∧TK prog w s'.heap k' a:=fun u hu'=>hall u (o_ _ hu');dsimp only;split
   · exact j_ ⟨rfl,rfl,hrest⟩
   · refine c_ (LX hk ?_);simp only [Kn,p_,if_false];refine c_ (LX ha ?_);simp only [Kn,p_,if_false];refine c_ (jQ hk ?_);simp only [p_,if_false];refine c_ (jQ ha ?_);simp only [p_,if_false];exact j_ ⟨rfl,rfl,hrest⟩
 · rintro ⟨r1,r2⟩ s' ⟨hr,rfl,_⟩;simp only at hr;subst hr;exact j_ h
def Ent (prog:rl) (w:C_) (h:H_) (ks:List (List Mx)) (es:List (Int×g_)):Prop:=∀ e∈es,∃ k a,k∈ks∧e.2=.ref a∧TK prog w h k a
theorem fI {t:SetTable} {n:Nat} (T:Tb t n):t.fits n=e_:=by
 unfold Rk Oa;rw [T.size,T.dm];simp [T.room]
theorem jR {S b:k_} {o:Obj} {es:Array (Int×g_)} {ep:Nat} {t:SetTable} {ks:List (List Mx)} {k:List Mx} {h:Int} {adding:Bool} {Q:SetFound→h_→Prop} (hu:A.units < cLine)
 (ho:s.heap.get? S=a_ o) (hd:o.data=.set es ep t) (T:Tb t es.size) (hm:t.mask % 2=1) (hE:Ent prog w s.heap ks es.toList) (hx:TK prog w s.heap k b) (hk:k ∉ ks) :
 ∀ (N fuel:Nat) (st:Option Probe),(∀ p,st=a_ p→Vp t p)→N < fuel→t.slot (advN t N (st.getD (t.probeStart h))).j=.empty→(∀ m,m < N→t.slot (advN t m (st.getD (t.probeStart h))).j≠.empty)→N < 10 * OJ t.mask →
  (∀ j,Q (.free j d_) s)→uk (z_ prog w) A (Ln S (.ref b) h adding fuel st) Q E s:=by
 intro N
 induction N using Nat.strongRecOn with
 | _ N ih =>
  intro fuel st hv hf he hn hN hQ;cases fuel with
  | zero=>exact absurd hf (LR _)
  | succ fuel =>
   have hfit:=fI T;have v:Vp t (st.getD (t.probeStart h)):=by
    cases st with
    | none=>exact lf h
    | some p=>exact hv p rfl
   unfold Ln;refine c_ (Kb ho hd hfit ?_);dsimp only;have hgw:t.gaveWay=d_:=by unfold Qx; rw [hm]; rfl
   rw [hgw];simp only [p_,if_false];unfold Rb;rcases sV T _ h N _ (st.getD (t.probeStart h)) v hN he hn with q | ⟨m,i,hmN,q1,q2,q3,q5⟩
   · rw [q];dsimp only;exact j_ (hQ _)
   · rw [q5];dsimp only;have hi:i < es.size:=by
      have:=(JR.mp q2).1;rw [T.size] at this;exact this
     obtain ⟨k',a,hk',ea,ta⟩:=hE es[i] (Kg.mpr (Qo hi));have hg:es[i]?=a_ (es[i].1,.ref a):=by rw [N0 hi,← ea]
     have rest:uk (z_ prog w) A (do
      let a_ (_,y):=es[i]? | MB "internal:set-entry"
      let equal ← MM [y] (eqBool y (.ref b))
      let (es',_,t') ← setState S
      if (adding && equal)=e_ then return Re ck
      let a_ same:=t'.sameMemory t.moves t.mask | MB "set.changed-during-lookup:is-the-new-block-at-the-old-address"
      let still ← match (if same then t'.slot (advN t m (st.getD (t.probeStart h))).j else .empty) with
       | .live i'=>match es'[i']? with
        | some (_,y')=>do pure (if ← Q2 y' y then a_ i' else ck)
        | none=>pure ck
       | _=>pure ck
      match still with
      | none=>rule "set.search.anew"; Ln S (.ref b) h adding fuel ck
      | some i'=>if equal then return .there (a_ i') else Ln S (.ref b) h adding fuel (a_ (advN t (m + 1) (st.getD (t.probeStart h))))) Q E s:=by
      rw [hg];dsimp only;refine c_ (JY (wpAny_eqBool_tuple hu ta hx ?_));have hne:u_ (k'=k)=d_:=decide_eq_false fun z=>hk (z ▸ hk');rw [hne];refine c_ (Kb ho hd hfit ?_);dsimp only;rw [NX];simp only [p_,if_false];have hsm:t.sameMemory t.moves t.mask=a_ e_:=by unfold Pp; simp
      rw [hsm];dsimp only;rw [if_pos rfl,q1];dsimp only;rw [hg];dsimp only;have hsame:Q2 (q_ a) (q_ a)=pure e_:=by
       unfold Q2;dsimp only;rw [if_pos (by simp)]
      rw [hsame];refine c_ (c_ (j_ (j_ ?_)));rw [if_pos rfl];refine ih (N - (m + 1)) (by omega) fuel (a_ (advN t (m + 1) (st.getD (t.probeStart h)))) (fun p hp=>by cases hp; exact Vp.advN (m + 1) v) (by omega) ?_ ?_ (by omega) hQ
      · show t.slot (advN t (N - (m + 1)) (advN t (m + 1) (st.getD (t.probeStart h)))).j=.empty;rw [← fG,show m + 1 + (N - (m + 1))=N by omega];exact he
      · intro x hx';show t.slot (advN t x (advN t (m + 1) (st.getD (t.probeStart h)))).j≠.empty;rw [← fG];exact hn _ (by omega)
     by_cases hled:t.led=e_
     · rw [hled];simp only [Kn,p_,if_false];exact rest
     · have hled':t.led=d_:=by simpa using hled
       rw [hled'];simp only [KD,if_true];refine c_ (sZ hx (fun v hv=>?_) ?_)
       · obtain ⟨e,he',rfl⟩:=Jz.mp hv;have hem:e∈es.toList:=by
          have:=Kg.mp he';rw [QK] at this;exact Kg.mpr this.1
         obtain ⟨k2,a2,_,e2,t2⟩:=hE e hem;exact ⟨k2,a2,e2,t2⟩
       · simp only [p_,if_false];exact rest
end
section
variable {prog:rl} {w:C_} {A:D_} {E:g_→h_→Prop} {s:h_}
abbrev byT (w:C_):Bool:=w.params.followText "set-order"
def NE (_:List Mx):Prop:=False
def SetT (prog:rl) (w:C_) (h:H_) (S:k_) (ks:List (List Mx)) (vs:List g_) (n:Nat):Prop :=
 ∃ o es ep t,h.get? S=a_ o∧o.ExactSet∧o.data=.set es ep t∧es.size=n∧Tb t n∧((t.mask=7∧n≤4)∨(t.mask=31∧n≤18))∧Ent prog w h ks es.toList∧(es.toList.map (·.2)).Perm vs∧t.led=(!byT w)∧((∀ k∈ks,NE k)→n≠0→t.plain=d_)
theorem ib {k:List Mx} {a:k_} {Q:Bool→h_→Prop} (hk:TK prog w s.heap k a) (h:∀ b,(NE k→b=d_)→Q b s):uk (z_ prog w) A (OZ 8 (.ref a)) Q E s:=by
 have hT:=hk.typeIs;obtain ⟨o,items,n,ho,_,hd,hi⟩:=hk;unfold OZ;refine c_ (wpAny_specialOf hT F.slot_tuple_hash.lookup ?_);dsimp only;refine c_ (Kl ho hd ?_);refine c_ ?_;show uk _ _ (Rh items _ _) _ _ s;rw [← La];refine Lu _ (fun rest r s'=>r.1=ck∧s'=s∧(∀ v∈rest,Sc v)) _ ?_ ?_ _ _ ⟨rfl,rfl,gl hi⟩
 · rintro v rest r s' ⟨hr,rfl,hall⟩;have hr':∀ u∈rest,Sc u:=fun u hu'=>hall u (o_ _ hu');rcases hall v n_ with rfl | ⟨_,rfl⟩ | ⟨_,_,rfl⟩ | ⟨_,_,rfl⟩
   · refine c_ (j_ ?_);simp only [Kn,p_,if_false];exact j_ ⟨rfl,rfl,hr'⟩
   · refine c_ (j_ ?_);simp only [Kn,p_,if_false];exact j_ ⟨rfl,rfl,hr'⟩
   · refine c_ (j_ ?_);simp only [Kn,p_,if_false];exact j_ ⟨rfl,rfl,hr'⟩
   · refine c_ (j_ ?_);simp only [KD,if_true];refine j_ ?_;exact j_ (h _ fun z=>z.elim)
 · rintro ⟨r1,r2⟩ s' ⟨hr,rfl,_⟩;simp only at hr;subst hr;exact j_ (h _ fun z=>z.elim)
theorem TK.keeps {h h':H_} {k:List Mx} {a S:k_} {o:Obj} {es ep t} (x:TK prog w h k a) (ho:h.get? S=a_ o) (hd:o.data=.set es ep t) (hs:Lh S h h'):TK prog w h' k a:=by
 obtain ⟨o',items,n,ho',hc,hd',hi⟩:=x;have hne:a≠S:=by
  rintro rfl;obtain rfl:o'=o:=Jp (ho'.symm.trans ho);rw [hd] at hd'; exact nomatch hd'
 exact ⟨o',items,n,(hs.2 a hne).trans ho',hc,hd',hi⟩
theorem Ent.keeps {h h':H_} {ks:List (List Mx)} {l:List (Int×g_)} {S:k_} {o:Obj} {es ep t} (x:Ent prog w h ks l) (ho:h.get? S=a_ o) (hd:o.data=.set es ep t) (hs:Lh S h h'):Ent prog w h' ks l:=fun e he=>by
 obtain ⟨k,a,h1,h2,h3⟩:=x e he;exact ⟨k,a,h1,h2,h3.keeps ho hd hs⟩
theorem gm {h:H_} {S:k_} {o:Obj} {es es':Array (Int×g_)} {ep:Nat} {t t':SetTable} (ho:h.get? S=a_ o) (hd:o.data=.set es ep t):(h.update S (K5 es' t')).get? S=a_ { o with data:=.set es' (ep + 1) t' }:=by
 have:=LY (K5 es' t') ho (by rw [Qq es' t' hd]; rfl);rw [Qq es' t' hd] at this; exact this
theorem Ent.insert {h:H_} {ks:List (List Mx)} {es:Array (Int×g_)} {k:List Mx} {b:k_} {p:Nat} {x:Int} (hE:Ent prog w h ks es.toList) (hb:TK prog w h k b):Ent prog w h (k :: ks) (t_ es p (x,.ref b)).toList:=fun e he=>by
 have he':=(LL es p (x,q_ b)).mem_iff.mp he;rw [M0] at he';rcases Jn.mp he' with q | q
 · obtain ⟨k',a,h1,h2,h3⟩:=hE e q;exact ⟨k',a,o_ _ h1,h2,h3⟩
 · rw [Jk] at q;subst q;exact ⟨k,b,n_,rfl,hb⟩
theorem jS {t:SetTable} {n:Nat} (T:Tb t n):t.fill=n:=by unfold Oa; rw [T.size,T.dm]; simp
theorem fq {n:Nat} (h:n≤18):n≤sizeLine:=by rw [MD]; omega
theorem lg {α:Type} (es:Array α):(pi es.size).filterMap (fun i=>es[i]?)=es.toList:=by
 apply Qk;intro i;have:(pi es.size).filterMap (fun i=>es[i]?)=(pi es.size).pmap (fun i h=>es[i]) (fun i h=>JQ.mp h):=by
  rw [On,← OT]
  conv=>lhs; rw [← NC (pi es.size)]
  rw [Mz];congr 1;funext ⟨i,hi⟩;simp [JQ.mp hi]
 rw [this];simp [P7,Mn];by_cases hi:i < es.size
 · simp [hi]
 · simp [hi]
theorem nR {m finger moves:Nat} {led plain:Bool} {hs:Array Int} {t:SetTable} {order:Array Nat} (e:laid m finger moves led plain hs=a_ (t,order)):t.led=led∧t.plain=plain:=by
 unfold laid at e;cases hc:Rc m hs with
 | none=>rw [hc] at e; cases e
 | some o=>rw [hc] at e; cases e; exact ⟨rfl,rfl⟩
theorem td {S b:k_} {ks:List (List Mx)} {vs:List g_} {n:Nat} {k:List Mx} {Q:Bool→h_→Prop} (hu:A.units < cLine) (hS:SetT prog w s.heap S ks vs n) (hx:TK prog w s.heap k b) (hk:k ∉ ks) (hn:n + 1≤18)
 (h:∀ h',Lh S s.heap h'→SetT prog w h' S (k :: ks) (.ref b :: vs) (n + 1)→Q e_ { s with heap:=h' }):uk (z_ prog w) A (Os S (.ref b) (hsh prog w k)) Q E s:=by
 obtain ⟨o,es,ep,t,ho,hex,hd,hsz,T,hm,hE,hpm,hled,hpl0⟩:=hS;have hfit:=fI T;have hfit':t.fits es.size=e_:=by rw [hsz]; exact hfit
 have hodd:t.mask % 2=1:=by rcases hm with ⟨e,_⟩ | ⟨e,_⟩ <;> rw [e]
 have hroom:n + 1≤t.mask:=by rcases hm with ⟨e,q⟩ | ⟨e,q⟩ <;> omega
 unfold Os setAddHashedIn;refine JY (c_ (Kb ho hd hfit' ?_));dsimp only;have hbs:byScan (q_ b) es=d_:=by unfold byScan; rfl
 rw [hbs];simp only [p_,if_false];unfold setSearch;obtain ⟨N,h1,h2,h3⟩:=xz T (lf (t:=t) (hsh prog w k));have hmk:t.mask≤31:=by rcases hm with ⟨e,_⟩ | ⟨e,_⟩ <;> omega
 refine c_ (jR (ks:=ks) hu ho hd (by rw [hsz]; exact T) hodd hE hx hk N 100000 ck (fun p hp=>by cases hp) (by unfold OJ at h1; omega) h2 h3 h1 fun j=>?_);dsimp only;refine c_ (Kb ho hd hfit' ?_);dsimp only;obtain ⟨P1,P2,P3,P4,P5⟩:=xB T hroom j;have hpm1:((t_ es (t.put j).2 (hsh prog w k,q_ b)).toList.map (·.2)).Perm (.ref b :: vs):=by
  refine ((LL es (t.put j).2 (hsh prog w k,q_ b)).map (·.2)).trans ?_;rw [M0,KY];exact (hpm.append_right _).trans (Mb _ _)
 have go:∀ bv:Bool,((∀ x∈k :: ks,NE x)→(if bv then (t.put j).1 else { (t.put j).1 with plain:=d_ }).plain=d_)→uk (z_ prog w) A (do
  Q0 S (t_ es (t.put j).2 (hsh prog w k,.ref b)) (if bv then (t.put j).1 else { (t.put j).1 with plain:=d_ })
  if (!d_ && (if bv then (t.put j).1 else { (t.put j).1 with plain:=d_ }).tooFull)=e_ then Q1 S (L_ (es.size + 1))
  return e_) Q E s:=by
  intro bv hbv;have T2:∃ t2,(if bv then (t.put j).1 else { (t.put j).1 with plain:=d_ })=t2∧Tb t2 (n + 1)∧t2.mask=t.mask∧t2.led=t.led:=by
   cases bv with
   | true=>exact ⟨_,rfl,P1,P3,rfl⟩
   | false=>exact ⟨_,rfl,⟨P1.size,P1.dm,P1.cyc,P1.room⟩,P3,rfl⟩
  obtain ⟨t2,e2,T2,M2,L2⟩:=T2;rw [e2] at hbv ⊢;have hsz2:(t_ es (t.put j).2 (hsh prog w k,q_ b)).size=n + 1:=by
   rw [fH _ _ _ (by rw [hsz]; exact P2),hsz]
  refine c_ (MJ ho hd ?_ (by rw [hsz2]; exact fq hn));have hsb:=K0 s.heap S (K5 (t_ es (t.put j).2 (hsh prog w k,q_ b)) t2);have hg:=gm (es':=t_ es (t.put j).2 (hsh prog w k,q_ b)) (t':=t2) ho hd;have hE2:Ent prog w (s.heap.update S (K5 (t_ es (t.put j).2 (hsh prog w k,q_ b)) t2)) (k :: ks) (t_ es (t.put j).2 (hsh prog w k,q_ b)).toList:=(hE.insert hx).keeps ho hd hsb;by_cases hf:t2.tooFull=e_
  · rw [hf];simp only [KD,PR,if_true];have hfl:t2.fill * 5 ≥ t2.mask * 3:=by unfold M7 at hf; simpa using hf
    rw [jS T2,M2] at hfl;have h5:n + 1=5∧t.mask=7:=by rcases hm with ⟨e,q⟩ | ⟨e,q⟩ <;> rw [e] at hfl <;> omega
    have hn4:n=4:=by omega
    unfold Q1;refine c_ (c_ (Kb hg rfl (by rw [hsz2]; exact fI T2) ?_));dsimp only;rw [hsz,hn4];rw [if_neg (by rw [MD]; decide)];have hrl:t2.relaid ((t_ es (t.put j).2 (hsh prog w k,q_ b)).map (·.1)) (L_ (4 + 1))=laid 31 t2.finger (t2.movedTo 31) t2.led t2.plain ((t_ es (t.put j).2 (hsh prog w k,q_ b)).map (·.1)):=by
     unfold QU;rw [show sizeAbove (L_ (4 + 1)) - 1=31 by decide]
    obtain ⟨t3,order,r1,r2,r3,r4,r5,r6,r7⟩:=sY (finger:=t2.finger) (moves:=t2.movedTo 31) (led:=t2.led) (plain:=t2.plain) Cu ((t_ es (t.put j).2 (hsh prog w k,q_ b)).map (·.1)) (by rw [LD,hsz2]; omega);have r8:t3.led=t2.led∧t3.plain=t2.plain:=nR r1;rw [hrl,r1];rw [LD,hsz2] at r6 r7;have hperm:(order.filterMap (fun i=>(t_ es (t.put j).2 (hsh prog w k,q_ b))[i]?)).toList.Perm (t_ es (t.put j).2 (hsh prog w k,q_ b)).toList:=by
     rw [OG];refine (r7.filterMap _).trans ?_;rw [← hsz2,lg]
    have hsz3:(order.filterMap (fun i=>(t_ es (t.put j).2 (hsh prog w k,q_ b))[i]?)).size=n + 1:=by
     rw [← JB,hperm.length_eq,JB,hsz2]
    show uk (z_ prog w) A ((if ((order.filterMap (fun i=>(t_ es (t.put j).2 (hsh prog w k,q_ b))[i]?)).size != (t_ es (t.put j).2 (hsh prog w k,q_ b)).size)=e_ then (MB "internal:set-table-lost-an-element":Sem _) else pure (order.filterMap (fun i=>(t_ es (t.put j).2 (hsh prog w k,q_ b))[i]?),t3)) >>= fun x=>Q0 S x.1 x.2) _ _ _;rw [if_neg (by rw [hsz3,hsz2]; simp)];refine c_ (j_ ?_);refine MJ hg rfl ?_ (by rw [hsz3]; exact fq hn);have hsb2:=K0 (s.heap.update S (K5 (t_ es (t.put j).2 (hsh prog w k,q_ b)) t2)) S (K5 (order.filterMap (fun i=>(t_ es (t.put j).2 (hsh prog w k,q_ b))[i]?)) t3);refine j_ (h _ (hsb.trans hsb2) ⟨_,_,_,t3,gm hg rfl,hex,rfl,hsz3,r6,.inr ⟨r2,hn⟩,?_,(hperm.map (·.2)).trans hpm1,r8.1.trans (L2.trans hled),fun z _=>r8.2.trans (hbv z)⟩);have hE3:=hE2.keeps hg rfl hsb2;exact fun e he=>hE3 e (hperm.mem_iff.mp he)
  · have hf':t2.tooFull=d_:=by simpa using hf
    rw [hf'];simp only [KD,NX,p_,if_false];have hfl:¬ (t2.fill * 5 ≥ t2.mask * 3):=by unfold M7 at hf'; simpa using hf'
    rw [jS T2,M2] at hfl;refine j_ (h _ hsb ⟨_,_,_,t2,hg,hex,rfl,hsz2,T2,?_,hE2,hpm1,L2.trans hled,fun z _=>hbv z⟩);rw [M2];rcases hm with ⟨e,q⟩ | ⟨e,q⟩
    · exact .inl ⟨e,by omega⟩
    · exact .inr ⟨e,hn⟩
 cases hpl:(t.put j).1.plain with
 | true =>
  simp only [if_true];refine c_ (ib hx fun bv hb=>?_);refine go bv fun z=>?_;rw [hb (z k n_)];rfl
 | false =>
  simp only [p_,if_false];refine c_ (j_ ?_);exact go e_ fun _=>hpl
end
end SM
namespace SM
open PySem PySem.SetTable PyProof.Rows
section
variable {prog:rl} {w:C_} {A:D_} {R:O9→h_→Prop} {I:k_} {fp wr:List k_} {G:Array MR→Array MR→Prop} {n:Nat} {P:Nat→g_→Prop} {St:Nat→h_→Prop}
theorem TK.moved {h h':H_} {k:List Mx} {a:k_} (x:TK prog w h k a) (hm:∀ o,h.get? a=a_ o→h'.get? a=a_ o):TK prog w h' k a:=by
 obtain ⟨o',items,n,ho',hc,hd',hi⟩:=x;exact ⟨o',items,n,hm _ ho',hc,hd',hi⟩
theorem SetT.moved {h h':H_} {S:k_} {ks:List (List Mx)} {vs:List g_} {n:Nat} (x:SetT prog w h S ks vs n) (hS:∀ o,h.get? S=a_ o→h'.get? S=a_ o) (hm:∀ k∈ks,∀ a,TK prog w h k a→TK prog w h' k a):SetT prog w h' S ks vs n:=by
 obtain ⟨o,es,ep,t,ho,hex,hd,hsz,T,hmk,hE,hr⟩:=x;exact ⟨o,es,ep,t,hS _ ho,hex,hd,hsz,T,hmk,fun e he=>let ⟨k,a,h1,h2,h3⟩:=hE e he; ⟨k,a,h1,h2,hm k h1 a h3⟩,hr⟩
theorem y3 (W:WalksS prog w A.in1 I fp wr G n P St) (S:k_) (hSf:S ∉ fp) (hu:A.in1.units < cLine) (hwr:wr=[I]) (hI:∀ i s,St i s→∃ o vs,s.heap.get? I=a_ o∧o.data=.fields vs)
 (adr:Nat→k_) (key:Nat→List Mx) (hval:∀ i v,P i v→v=.ref (adr i)) (hn:n≤18) (hdist:∀ i j,i < n→j < n→key i=key j→i=j) :
 ∀ (k i:Nat) (s:h_),n - i=k→i≤n→St i s→(∀ j,j < n→TK prog w s.heap (key j) (adr j)) →
  SetT prog w s.heap S (((pi i).map key).reverse) (((pi i).map fun j=>q_ (adr j)).reverse) i →
  (∀ s',Moved (S :: wr) G s s'→SetT prog w s'.heap S (((pi n).map key).reverse) (((pi n).map fun j=>q_ (adr j)).reverse) n→R (.ok (.ret .none)) s') →
  L4 (z_ prog w) A (.builtin "set.update.loop" ⟨[.ref S,.ref I],[]⟩) R s:=by
 have hSw:S ∉ wr:=fun h=>hSf (W.sub _ h);have hsub:∀ b∈wr,b∈S :: wr:=fun b hb=>o_ _ hb;have notI:∀ {i:Nat} {s:h_} {k:List Mx} {a:k_},St i s→TK prog w s.heap k a→a ∉ wr:=fun {i s k a} hst x hm=>by
  rw [hwr,Jk] at hm;subst hm;obtain ⟨o',items,n,ho',hc,hd',hi⟩:=x;obtain ⟨o,vs,ho,hd⟩:=hI _ _ hst;rw [ho] at ho';cases ho';rw [hd] at hd';cases hd'
 intro k
 induction k with
 | zero =>
  intro i s hk hi hst hT hS hR;have hin:i=n:=by omega
  subst hin;refine Ko Ly ?_;rw [KS Kt _];show uk _ A.in1 (N8 (.ref I) >>= _) _ _ s;refine c_ (W.done s _ _ hst fun s' hm=>?_);show uk _ A.in1 (ret Js) _ _ s';exact j_ (hR s' (hm.mono hsub) (hS.moved (fun o ho=>hm.heap S _ hSw ho) fun k' _ a x=>x.moved fun o ho=>hm.heap a _ (notI hst x) ho))
 | succ k ih =>
  intro i s hk hi hst hT hS hR;have hlt:i < n:=by omega
  refine Ko Ly ?_;rw [KS Kt _];show uk _ A.in1 (N8 (.ref I) >>= _) _ _ s;refine c_ (W.item i s _ _ hlt hst fun v s' hP hst' hm=>?_);have hv:=hval i v hP;subst hv;have hT':∀ j,j < n→TK prog w s'.heap (key j) (adr j):=fun j hj=>(hT j hj).moved fun o ho=>hm.heap _ _ (notI hst (hT j hj)) ho;have hS':SetT prog w s'.heap S (((pi i).map key).reverse) (((pi i).map fun j=>q_ (adr j)).reverse) i:=hS.moved (fun o ho=>hm.heap S _ hSw ho) fun k' _ a x=>x.moved fun o ho=>hm.heap a _ (notI hst x) ho;show uk _ A.in1 (MM [q_ (adr i)] (setAdd S (.ref (adr i))) >>= _) _ _ s';refine c_ (JY ?_);unfold setAdd;refine JY ?_;refine c_ (wpAny_pyHash_tuple hu (hT' i hlt) ?_);have hnew:key i ∉ ((pi i).map key).reverse:=fun hm=>by
   rw [QI] at hm;obtain ⟨j,hj,e⟩:=Jz.mp hm;have hj':=JQ.mp hj;have:=hdist j i (by omega) hlt e;omega
  refine td (s:={ s' with toks:=s'.toks + ((key i).length + 1) }) hu hS' (hT' i hlt) hnew (by omega) fun h' hsb hS2=>?_;obtain ⟨oS,esS,epS,tS,hoS,_,hdS,_⟩:=hS';have hS3:SetT prog w h' S (((pi (i + 1)).map key).reverse) (((pi (i + 1)).map fun j=>q_ (adr j)).reverse) (i + 1):=by
   rw [OM,KY,Mm,KY,Mm];exact hS2
  refine j_ ⟨N9 Kt _,ih (i + 1) _ (by omega) hlt (W.frame _ s' _ _ hst' (by simp) fun b hb o e=>?_) (fun j hj=>(hT' j hj).keeps hoS hdS hsb) hS3 fun s'' hm'' hS''=>?_⟩
  · rw [hsb.2 b (fun h:b=S=>hSf (by rw [← h]; exact hb))]; exact e
  · refine hR s'' (Moved.trans W.gtrans ((hm.mono hsub).then_heap (by simp) fun b o hb e=>?_) hm'') hS'';rw [hsb.2 b (fun h:b=S=>hb (by rw [h]; exact n_))]; exact e
end
end SM
namespace SM
open PySem PySem.SetTable PyProof.Rows ST
section
variable {prog:rl} {w:C_} {A:D_} {E:g_→h_→Prop} {s:h_}
abbrev iC (led:Bool):Obj:={ cls:=.type "set",dict:=ck,data:=.set #[] 0 (.fresh 0 0 led) }
theorem nU {h:H_} {S:k_} (e:h.get? S=a_ (iC (!byT w))):SetT prog w h S [] [] 0 :=
 ⟨_,#[],0,_,e,⟨rfl,rfl,rfl⟩,rfl,rfl,⟨rfl,rfl,HP,JA _⟩,.inl ⟨rfl,by omega⟩,(fun e he=>by simp at he),.refl _,rfl,fun _ z=>absurd rfl z⟩
theorem nV (a:g_) {Q₁:g_→h_→Prop} (h:Q₁ (.ref s.heap.objs.size) { s with heap:=s.heap.push (iC (!byT w)) }):L4 (z_ prog w) A (.call (.builtin "set.__new__") ⟨[.type "set",a],[]⟩) (wants Q₁ E) s:=by
 refine Nl ?_; show uk _ A.in1 (do checkBuiltinCall "set.__new__" ⟨[.type "set",a],[]⟩; Rm (.builtin "set.__new__" ⟨[.type "set",a],[]⟩)) _ _ s
 refine c_ (QL (F.newCall_set_1 a) (j_ ⟨N9 No _,Ko F.entry_set_new ?_⟩)); rw [KS No _];unfold Me.«set.__new__» NS; have hsub:=sub_set_self; obtain ⟨hp,g,d,tk,os⟩:=s;dsimp only; wp_walk; refine wpAny_askSetting (j_ ?_);dsimp only; simp only [newObj]; exact c_ (QO (j_ (j_ h)))
theorem tj {l:k_} {items:Array g_} {key:Nat→List Mx} {adr:Nat→k_} {R:O9→h_→Prop} (hh:A.handled=ck) (hu:A.units + 8 < cLine) (hl:s.heap.IsList l items)
 (hk:∀ i,i < items.size→items[i]?=a_ (.ref (adr i))∧TK prog w s.heap (key i) (adr i)) (hn:items.size≤18) (hdist:∀ i j,i < items.size→j < items.size→key i=key j→i=j)
 (hR:∀ (h':H_) (tk:Nat),SetT prog w h' s.heap.objs.size (((pi items.size).map key).reverse) (((pi items.size).map fun j=>q_ (adr j)).reverse) items.size→(∀ b o,b < s.heap.objs.size→s.heap.get? b=a_ o→h'.get? b=a_ o)→R (.ok (.ret .none)) { s with heap:=h',toks:=tk }) :
 L4 (z_ prog w) A (.call (.builtin "set.__init__") ⟨[.ref s.heap.objs.size,.ref l],[]⟩) R { s with heap:=s.heap.push (iC (!byT w)) }:=by
 have hS:(s.heap.push (iC (!byT w))).get? s.heap.objs.size=a_ (iC (!byT w)):=s_ _ rfl;have hT:N_ { s with heap:=s.heap.push (iC (!byT w)) } (.ref s.heap.objs.size) "set":=⟨_,hS,rfl⟩;refine O1 J9.init.plain F.entry_set_init (check_set_init_1 hT ?_);obtain ⟨ol,hol,hcl,nl,hdl⟩:=hl;obtain ⟨ocls,odict,odata,oslots⟩:=ol;simp only at hcl hdl;subst hcl; subst hdl;have hol':(s.heap.push (iC (!byT w))).get? l=a_ { cls:=.type "list",dict:=odict,data:=.seq items nl,slots:=oslots }:=i_ _ hol;have s1:=F.sub_list_set;have s2:=O_;have s3:(x_ "list" == x_ "dict")=d_:=by decide
 have hl1:(s.heap.push (iC (!byT w))).IsList l items:=⟨_,hol',rfl,nl,rfl⟩;unfold Me.«set.__init__» noKeywords Nq;generalize hPI:pyIter=PI
 wp_walk
 subst hPI;refine L3 hl1 (c_ (OV ?_));have hlS:l < s.heap.objs.size:=v_ hol;have hneI:l≠(s.heap.push (iC (!byT w))).objs.size:=by rw [JE]; exact I_ (L6 hlS)
 have hSf:s.heap.objs.size ∉ [(s.heap.push (iC (!byT w))).objs.size,l]:=by
  rw [JE];simp only [w_,Jl,or_false,not_or];exact ⟨I_ (M9 _),LO hlS⟩
 have up:∀ {k:List Mx} {a:k_},TK prog w s.heap k a→TK prog w ((s.heap.push (iC (!byT w))).push { cls:=.type "list_iterator",data:=.fields #[.ref l,.int 0 0] }) k a:=fun x=>x.moved fun o e=>i_ _ (i_ _ e);refine y3 ((PV (by simp [hh]) _ l hneI items).toS) s.heap.objs.size hSf (by show A.units + 1 + 1 < cLine; omega) rfl (fun i s' st=>by
  obtain ⟨⟨o,ho,_,hd⟩,_⟩:=st;exact ⟨o,_,ho,hd⟩) adr key (fun i v hv=>?_) hn hdist (items.size - 0) 0 _ (by omega) (JA _) ⟨⟨_,s_ _ rfl,rfl,rfl⟩,(hl1.push _)⟩ (fun j hj=>up (hk j hj).2) ?_ ?_
 · have hi:i < items.size:=(JR.mp hv).1;have:=(hk i hi).1;rw [this] at hv;exact (Jp hv).symm
 · exact nU (i_ _ hS)
 · intro s' hm hS';obtain ⟨h',g',d',tk',os'⟩:=s';have eg:g'=s.gens:=hm.gens;have ed:d'=s.drawn:=hm.drawn;have eo:os'=s.os:=hm.os;subst eg; subst ed; subst eo;show uk _ _ _ _ _ _;refine j_ ?_;show uk _ _ (ret Js) _ _ _;refine j_ (hR h' tk' hS' fun b o hb e=>?_);have hb1:b≠s.heap.objs.size:=I_ hb;have hb2:b≠(s.heap.push (iC (!byT w))).objs.size:=by rw [JE]; exact I_ (L6 hb)
   exact hm.heap b o (by simp only [w_,Jl,or_false,not_or]; exact ⟨hb1,hb2⟩) (i_ _ (i_ _ e))
theorem call_set_T {l:k_} {items:Array g_} {key:Nat→List Mx} {adr:Nat→k_} {Q:g_→h_→Prop} (hh:A.handled=ck) (hu:A.units + 16 < cLine) (hl:s.heap.IsList l items)
 (hk:∀ i,i < items.size→items[i]?=a_ (.ref (adr i))∧TK prog w s.heap (key i) (adr i)) (hn:items.size≤18) (hdist:∀ i j,i < items.size→j < items.size→key i=key j→i=j)
 (h:∀ (h':H_) (tk:Nat),SetT prog w h' s.heap.objs.size (((pi items.size).map key).reverse) (((pi items.size).map fun j=>q_ (adr j)).reverse) items.size→(∀ b o,b < s.heap.objs.size→s.heap.get? b=a_ o→h'.get? b=a_ o)→Q (.ref s.heap.objs.size) { s with heap:=h',toks:=tk }) :
 uk (z_ prog w) A (call (.type "set") [.ref l]) Q E s:=by
 obtain ⟨c,tl,hmro⟩:=J9.mro;have hmade:=J9.made;have hsub:=J9.sub;refine PU (Nl ?_);show uk _ _ (callAny (.type "set") _) _ _ _;refine j_ ⟨NO _ (by decide +kernel),Ko F.entry_type_call ?_⟩;rw [P6 (OQ "set" [.ref l] []) rfl];have h1:=J9.notType;have h2:=J9.canCreate;have hct:=F.typeCall_set_1 (.ref l)
 repeat (any_goals (first | assumption | wp_step))
 refine LG (nV (.ref l) (E:=E) (Q₁:=fun obj s₁=>obj=.ref s.heap.objs.size∧s₁={ s with heap:=s.heap.push (iC (!byT w)) }) ⟨rfl,rfl⟩) fun r s₁ hr=>?_;cases r with
 | error e=>exact hr
 | ok fl =>
  cases fl with
  | ret obj =>
   obtain ⟨rfl,rfl⟩:=hr;have hT:N_ { s with heap:=s.heap.push (iC (!byT w)) } (.ref s.heap.objs.size) "set":=⟨_,s_ _ rfl,rfl⟩;have hli:=J9.init.lookup;have hbi:=J9.init.bind (.ref s.heap.objs.size)
   repeat (any_goals (first | assumption | wp_step))
   refine LG (tj (R:=wants (fun r s₂=>r=.none∧∃ h' tk,s₂={ s with heap:=h',toks:=tk }∧SetT prog w h' s.heap.objs.size (((pi items.size).map key).reverse) (((pi items.size).map fun j=>q_ (adr j)).reverse) items.size ∧
    (∀ b o,b < s.heap.objs.size→s.heap.get? b=a_ o→h'.get? b=a_ o)) E) (by simp [hh]) (by show A.units + 1 + 8 < cLine; omega) hl hk hn hdist fun h' tk q1 q2=>⟨rfl,h',tk,rfl,q1,q2⟩) fun r₂ s₂ hr₂=>?_
   cases r₂ with
   | error e=>exact hr₂
   | ok fl₂ =>
    cases fl₂ with
    | ret r =>
     obtain ⟨rfl,h',tk,rfl,hS',hk'⟩:=hr₂
     repeat (any_goals (first | assumption | wp_step))
     exact h _ _ hS' hk'
    | _=>exact hr₂.elim
  | _=>exact hr.elim
theorem len_T {S:k_} {ks:List (List Mx)} {vs:List g_} {n:Nat} {Q:g_→h_→Prop} (hS:SetT prog w s.heap S ks vs n) (hn:n≤18) (h:∀ t tk,Q (.int n t) { s with toks:=tk }):uk (z_ prog w) A (call (.builtin "len") [.ref S]) Q E s:=by
 obtain ⟨o,es,ep,t,ho,hex,hd,hsz,T,hm,hE,hr⟩:=hS;subst hsz;exact call_len_set ho hex hd (fI T) (P8 (show ((es.size:Nat):Int)≤18 by omega) (by decide)) (h _ _)
end
end SM
namespace FD
open PySem PySem.Spec PyProof.Rows L2
def HQ:Dv→Option SM.Mx
 | .non=>a_ ck
 | .bl b=>a_ (a_ (.inl (SM.bi b)))
 | .int i=>a_ (a_ (.inl i))
 | .str x=>a_ (a_ (.inr x))
 | _=>ck
def mC:List Dv→Option (List SM.Mx)
 | []=>a_ []
 | d :: r=>match HQ d,mC r with
  | some k,a_ ks=>a_ (k :: ks)
  | _,_=>ck
def kg:List Dv→Option (List (List SM.Mx))
 | []=>a_ []
 | .tup ds :: r=>match mC ds,kg r with
  | some k,a_ ks=>a_ (k :: ks)
  | _,_=>ck
 | _=>ck
def ig:List Dv→Option (Rs Dv)
 | [.lst ds]=>match kg ds with
  | some ks=>if ks.Nodup∧ks.length≤18 then a_ (.ok (.int ks.length)) else ck
  | none=>ck
 | _=>ck
section
variable {X:Cx} {j':List (k_×Obj)} {σ:L2.St} {H:Hp} {s:h_}
theorem mD {prog:rl} {w:C_}:∀ {ds:List Dv} {k:List SM.Mx} {ys:List V} {its:List g_},mC ds=a_ k→Reps X.K H ds ys→Vals ys its→PySem.ItemsAre (SM.mxKind prog w) k its
 | [],k,ys,its,h,r,v=>by
  cases h;cases (show ys=[] from r);cases v;exact .nil
 | d :: ds,k,ys,its,h,r,v=>by
  obtain ⟨y,us,rfl,r1,r2⟩:∃ v us,ys=v :: us∧Rep X.K H d v∧Reps X.K H ds us:=r;unfold mC at h;split at h
  · rename_i m ms h1 h2;cases h;cases v with
    | cons v1 v2 =>
     refine .cons ?_ (mD h2 r2 v2);show SM.mxIs m _=e_;unfold HQ at h1;split at h1
     · cases h1;cases (show y=.non from r1);cases v1;rfl
     · cases h1;rename_i b;cases (show y=.bl b from r1);cases v1;simp [SM.mxIs]
     · cases h1;rename_i i;cases (show y=.int i from r1);obtain ⟨t,rfl⟩:=v1;simp [SM.mxIs]
     · cases h1;rename_i x;cases (show y=.str x from r1);obtain ⟨t,rfl⟩:=v1;simp [SM.mxIs]
     · cases h1
  · cases h
theorem C8 (I:Inv X j' σ H s) {ds:List Dv} {k:List SM.Mx} {v:V} {u:g_} (h:mC ds=a_ k) (r:Rep X.K H (.tup ds) v) (q:RelV v u):∃ a,u=.ref a∧SM.TK X.prog X.w s.heap k a:=by
 obtain ⟨a,xs,rfl,hH,rs⟩:=r.tupE;cases (show u=q_ a from q);obtain ⟨its,rv,⟨o,e,c,n,d⟩,hz⟩:=I.tuple (SqT.of hH);exact ⟨a,rfl,o,its.toArray,_,e,c,d,by simpa using mD h rs rv⟩
theorem pN (I:Inv X j' σ H s):∀ {ds:List Dv} {ks:List (List SM.Mx)} {xs:List V} {its:List g_},kg ds=a_ ks→Reps X.K H ds xs→Vals xs its→ks.length=its.length∧∀ i,i < its.length→∃ a,its[i]?=a_ (.ref a)∧SM.TK X.prog X.w s.heap (ks.getD i []) a
 | [],ks,xs,its,h,r,v=>by
  cases h;cases (show xs=[] from r);cases v;exact ⟨rfl,fun i hi=>absurd hi (LR _)⟩
 | .tup es :: ds,ks,xs,its,h,r,v=>by
  obtain ⟨y,us,rfl,r1,r2⟩:∃ v us,xs=v :: us∧Rep X.K H (.tup es) v∧Reps X.K H ds us:=r;unfold kg at h;split at h
  · rename_i k ks' h1 h2;cases h;cases v with
    | cons v1 v2 =>
     obtain ⟨a,rfl,ta⟩:=C8 I h1 r1 v1;obtain ⟨q1,q2⟩:=pN I h2 r2 v2;refine ⟨by simp [q1],fun i hi=>?_⟩;cases i with
     | zero=>exact ⟨a,rfl,ta⟩
     | succ i =>
      obtain ⟨a',e1,e2⟩:=q2 i (by simpa using hi);exact ⟨a',by simpa using e1,by simpa using e2⟩
  · cases h
 | .non :: ds,ks,xs,its,h,r,v=>by cases h
 | .bl _ :: ds,ks,xs,its,h,r,v=>by cases h
 | .int _ :: ds,ks,xs,its,h,r,v=>by cases h
 | .str _ :: ds,ks,xs,its,h,r,v=>by cases h
 | .lst _ :: ds,ks,xs,its,h,r,v=>by cases h
 | .scr _ :: ds,ks,xs,its,h,r,v=>by cases h
 | .exn _ :: ds,ks,xs,its,h,r,v=>by cases h
end
section
variable {X:Cx} {p p2 pos pos2:Pos} {e:F_} {ga:FnA}
theorem qD (hu:X.A.units + 64 < cLine) (hc:X.calm=e_) (hg:Gl X "len") (hm:X.mg "len"=ck) (hg2:Gl X "set") (hm2:X.mg "set"=ck) (ha:FA X [e] ga)
 (he:l_ [.Call (.Name "set" p2) [e] [] pos2] X.env=(d_,eval (.Call (.Name "set" p2) [e] [] pos2) X.env) :: l_ [] X.env:=by kernel_rfl) (hpl:(JV pos (l_ [] X.env)).any (·.1)=d_:=by kernel_rfl)
 (he2:l_ [e] X.env=(d_,eval e X.env) :: l_ [] X.env:=by kernel_rfl) (hpl2:(JV pos2 (l_ [] X.env)).any (·.1)=d_:=by kernel_rfl) :
 FE X (.Call (.Name "len" p) [.Call (.Name "set" p2) [e] [] pos2] [] pos) (fB1 ig ga):=⟨fun j' s σ H Q I ⟨ρ,E,o⟩=>by
 refine K4 (gY I hg hm Q6 ?_ (by decide) (by decide));refine M8 ?_ he hpl;rw [he];show uk _ _ (spliced ((d_,eval (.Call (.Name "set" p2) [e] [] pos2) X.env) :: JV pos (l_ [] X.env))) _ _ s;refine P0 ?_;refine K4 (gY I hg2 hm2 (u:=.type "set") (by decide +kernel) ?_ (by decide) (by decide));refine Kc (thn (ha.h pos2 j' s σ H _ I ⟨ρ,E,OutA.bind o fun ds vs H1 e1 rs o1=>(show ∃ ds,Reps X.K H1 ds vs∧Out X H1 (ig ds) Q from ⟨ds,rs,o1⟩)⟩) fun us s1 ⟨vs,H1,I1,r1,ds,rs,o1⟩=>?_) he2 hpl2;unfold ig at o1;split at o1
 · rename_i es;obtain ⟨v,rfl,r⟩:=dz rs;obtain ⟨l,xs,rfl,hl,rx⟩:=r.lstE;obtain ⟨u,rfl,ru⟩:=fg r1;cases (show u=q_ l from ru);split at o1
   · rename_i ks hks;split at o1
     · rename_i hnd;obtain ⟨z,its,n,rv,hz,eh⟩:=I1.lstM hl;obtain ⟨q1,q2⟩:=pN I1 hks rx rv;have hsz:its.toArray.size=ks.length:=by simp [q1]
       refine SM.call_set_T (items:=its.toArray) (key:=fun i=>ks.getD i []) (adr:=fun i=>match its[i]? with | some (.ref a)=>a | _=>0) (I1.ok.hd hc) (by omega) ⟨_,eh,rfl,n,rfl⟩ (fun i hi=>?_) (by rw [hsz]; exact hnd.2) (fun i j hi hj eij=>?_) fun h' tk hS hkp=>?_
       · obtain ⟨a,e1,e2⟩:=q2 i (by simpa using hi);simp only [List.getElem?_toArray,e1];exact ⟨trivial,e2⟩
       · exact qr hnd.1 (by rw [← hsz]; exact hi) (by rw [← hsz]; exact hj) eij
       · refine Qf ?_;refine SM.len_T hS (by rw [hsz]; exact hnd.2) fun t tk2=>⟨.int (ks.length:Nat),H1,?_,⟨t,by rw [hsz]⟩,o1 _ H1 (.refl H1) rfl⟩;exact I1.kept (t':=tk2) fun b u q=>hkp b u (v_ q) q
     · exact o1.elim
   · exact o1.elim
 · exact o1.elim⟩
end
end FD
namespace FD
open PySem PySem.Spec PyProof.Rows L2 PySem.W
def wg (k N:Nat) (f g:FnE):FnS:=fun ρ=>match f ρ with
 | none=>ck
 | some (.ok _)=>a_ (.nx ρ)
 | some (.exc c)=>if c=k then (match g (Jj N ck) with
  | some (.ok d)=>a_ (.rt d)
  | _=>ck) else ck
section
variable {X:Cx} {ex hx:F_} {f g:FnE} {J:Str} {CJ:k_} {np rp rp2 hpos pos:Pos}
theorem zv (k N:Nat) (hex:X.ex=[]) (hst:X.stack=X.env :: X.outer) (hfm:X.env.frame=a_ X.env.locals) (hgJ:Gl X J) (hmJ:X.mg J=a_ (.ref CJ)) (KJ:excIn X.K CJ bmV "ValueError.__new__"=e_)
 (hk:nsIn X.K y_ (xnm k)=a_ (a_ (.ref CJ))) (hmr:mroIn X.K CJ (.ref CJ)=a_ e_) (hNl:X.N.length=N)
 (hb:∀ pl E',FE (Ap X pl E') ex f) (hh:∀ pl e,FE (qj X pl e) hx g) (hdb:(J == ("__debug__":Str))=d_:=by kernel_rfl) (hsw:KW ex ck rp.line X.env=pure d_:=by kernel_rfl) :
 FS X (.Try [.Expr ex rp] [.ExceptHandler (a_ (.Name J np)) ck [.Return (a_ hx) rp2] hpos] [] [] pos) (wg k N f g):=by
 constructor;intro j' s σ H D I ⟨ρ,E,o⟩;refine wpAny_Try_except ?_;have hbody:=fun E' (h:OutS (Ap X j' E') H (aS f ρ) { nx:=D.nx,rt:=fun _ _=>False })=>(nG (rW (pos:=rp) (hb j' E') hsw)).h [] s σ H { nx:=D.nx,rt:=fun _ _=>False } (yL I) ⟨ρ,E,h⟩;refine JC (hbody (fun e s₁=>uk (z_ X.prog X.w) X.A (Qr e X.env) (fun _ s₂=>uk (z_ X.prog X.w) X.A (setFlight e ck) (fun _ s₃=>uk (z_ X.prog X.w) X.A (handleBy e X.env [.ExceptHandler (a_ (.Name J np)) ck [.Return (a_ hx) rp2] hpos]) (SP X j' D) X.xe s₃) X.xe s₂) X.xe s₁) ?_) (fun fl s1 hs=>?_) fun e s1 hs=>hs
 · unfold wg at o;unfold aS
   match hf:f ρ with
   | none=>rw [hf] at o; exact o.elim
   | some (.ok d)=>rw [hf] at o; exact o
   | some (.exc c) =>
    rw [hf] at o;dsimp only at o;by_cases hck:c=k
    · rw [if_pos hck] at o;subst hck;intro ps σ1 H1 s1 ev same I1 ⟨e,C,he,hC,F⟩;subst he;have hCJ:C=CJ:=by rw [hC] at hk; cases hk; rfl
      subst hCJ;have fe:H1 e=ck:=F.1;have fn:=F.2.1;refine vD (Y:=Ap X j' _) I1 hex hst hfm F (E1:=X.xe) (E2:=X.xe) fun h2 Ts a0 k1 k2 k3 k4 k5=>?_;have I1':=I1.pins_of (pins':=[]) fun p hp=>absurd hp (by simp);have hf5:∀ b,b=e∨b∈Ts→H1 b=ck∧X.s₀.heap.get? b=ck∧(∀ p∈(X.pn ++ j') ++ [],p.1≠b)∧∃ o vs,s1.heap.get? b=a_ o∧o.data=.fields vs:=fun b hb=>⟨(k5 b hb).1,(k5 b hb).2.1.1,fun p hp=>(k5 b hb).2.1.2 p (by simpa using hp),(k5 b hb).2.2⟩;have I2:=Inv.aft I1' (pB I1 k1 k4) hex hf5;have J2:Inv (qj X j' e) [] σ1 H1 { s1 with heap:=h2 }:=pC (jN I2);have k3':=k3;obtain ⟨oe,vs,T,oT,ts,t1,⟨t2,t3⟩,t4,_⟩:=k3';refine wpAny_handleBy_cons (codeAny_handlers_test (kP (X:=qj X j' e) J2 hgJ hmJ ?_ hdb)) (by intro z; cases z);refine su (mg:=fun _=>a_ (.ref C)) (y:=J) J2.kIn (ss J2.kIn rfl KJ) (ss J2.kIn hmJ KJ) t1 t2 hmr ?_;show L4 _ _ (.handlers (.ref e) [.ExceptHandler ck ck [.Return (a_ hx) rp2] hpos] X.env) _ _;refine codeAny_handlers_suite ?_;refine M1 (s:={ s1 with heap:=h2 }) k1 k2 k3.at fun h3 m1 m2 m3 m4=>?_;have A3:Aft (Ap X j' _) e Ts s1.heap h3:=pB I1 m1 fun b o q d=>by
       obtain ⟨sl,q'⟩:=k4 b o q d;exact ⟨sl,m4 b _ q' d⟩
      have I3:=Inv.aft I1' A3 hex hf5;have J4:Inv (qj X j' e) [] σ1 H1 { s1 with heap:=h3 }:=pC (jN I3);have E5:Envs X.K H1 σ1 (Jj N ck):=by
       refine ⟨?_,fun j d hj=>?_⟩
       · rw [I1.len,Lb]; exact hNl
       · rw [LC] at hj;split at hj <;> cases hj
      match hg:g (Jj N ck) with
      | none=>rw [hg] at o; exact o.elim
      | some (.exc c2)=>rw [hg] at o; exact o.elim
      | some (.ok d) =>
       rw [hg] at o;have hrun:=(nG (xf (pos:=rp2) (hh j' e))).h [] _ _ _ { nx:=fun _ _=>False,rt:=D.rt } J4 ⟨_,E5,(by
        unfold az;rw [hg];exact fun v H' e1 r=>o v H' (same.trans e1) r)⟩
       refine JC hrun (fun fl s6 hs=>?_) fun _ _ z=>z.elim;cases fl with
       | ret u =>
        obtain ⟨v,σ6,H6,J6,rv,q6⟩:=hs;have J7:Inv X j' σ6 H6 s6:=qk I.ok J6;exact ⟨v,_,H6,J7,rv,q6⟩
       | next=>obtain ⟨_,_,_,z⟩:=hs; exact JK z
       | brk=>obtain ⟨_,_,_,z⟩:=hs; exact JK z
       | cont=>obtain ⟨_,_,_,z⟩:=hs; exact JK z
    · rw [if_neg hck] at o;exact o.elim
 · cases fl with
   | next =>
    obtain ⟨σ',H',I',q⟩:=hs;exact Ni ⟨σ',H',jN I',q⟩
   | ret u=>obtain ⟨_,_,_,_,_,z⟩:=hs; exact JK z
   | brk=>obtain ⟨_,_,_,z⟩:=hs; exact JK z
   | cont=>obtain ⟨_,_,_,z⟩:=hs; exact JK z
end
end FD
namespace FD
open PySem PySem.Spec PyProof.Rows L2
theorem FE.weak {X:Cx} {e:F_} {f f':FnE} (h:FE X e f) (hw:∀ ρ,f' ρ=ck∨f' ρ=f ρ):FE X e f':=⟨fun j' s σ H Q I ⟨ρ,E,o⟩=>h.h j' s σ H Q I ⟨ρ,E,by
 rcases hw ρ with z | z
 · rw [z] at o; exact o.elim
 · rw [z] at o; exact o⟩⟩
theorem ub (F:List Dv→Option (Rs Dv)) (n:Nat) (g:FnA) (ρ:Ev):ag F n g ρ=ck∨ag F n g ρ=al F n g ρ:=by
 unfold ag al
 match g ρ with
 | none=>exact .inl rfl
 | some (.exc c)=>exact .inr rfl
 | some (.ok ds) =>
  by_cases h:ds.length=n
  · match hF:F ds with
    | none=>exact .inl (by show (if ds.length=n then _ else ck)=ck; rw [if_pos h,hF])
    | some (.exc c)=>exact .inl (by show (if ds.length=n then _ else ck)=ck; rw [if_pos h,hF])
    | some (.ok d)=>exact .inr (by show (if ds.length=n then _ else ck)=(if ds.length=n then F ds else ck); rw [if_pos h,if_pos h,hF])
  · exact .inl (by show (if ds.length=n then _ else ck)=ck; rw [if_neg h])
theorem FE.callN {X:Cx} {e:F_} {F:List Dv→Option (Rs Dv)} {n:Nat} {g:FnA} (h:FE X e (al F n g)):FE X e (ag F n g):=h.weak (ub F n g)
theorem uc {P:rl} {w:C_} {K:f_} {mg mb:Str→Option g_} {CX:CXT} {k:Nat} {fa a Pt:k_} {qn:Str} {fd:JZ} {x:Str} {sp:Sp} {s₁:h_} {vs:List g_} {ns:List Int}
 (KX:K.In s₁.heap) (hns:s₁.heap.Ns y_ mg) (hb:s₁.heap.Ns builtinsNs mb) (hbb:∀ x:Str,x≠"__name__"→mb x=Kp x) (hlim:s₁.heap.NoLimit) (hg:s₁.gens=#[])
 (ha:s₁.heap.get? a=a_ { cls:=.type "list",data:=.seq vs.toArray }) (hi:OC vs ns) (hl:ns.length≤sizeLine) (hr:Room k Pl)
 (hPt:s₁.heap.get? Pt=a_ { cls:=.none,data:=.fields #[] }) (hct:OY s₁.heap Pt) (hKP:K.lookup Pt=ck)
 (F:∀ base:H_,K.In base→base.Ns y_ mg→FnOk P w K mg base CX k fa fd [x] sp) (hbind:∀ (s:h_) (u:g_),Oz s fd ⟨[u],[]⟩ [(x,u)])
 (hsp:∀ H:Hp,SqL K H a (ns.map V.int)→TBL Pt qn H→sp [.ref a] H (fun v _=>v=.bl e_) fun _ _ _=>False)
 (hCX:∀ H e s',CX [] H s₁ (fun _ _ _=>False) e s'→False) :
 L4 (z_ P w) Pl (.call (.ref fa) ⟨[.ref a],[]⟩) (fun r s'=>r=.ok (.ret (.bool e_))∧OldK s₁.heap s'.heap∧s'.os=s₁.os∧NA s'.gens) s₁:=by
 have rv:=iq hi;have lenV:=hi.length;have haP:a≠Pt:=fun z=>by rw [z,hPt] at ha; cases ha
 have core:∀ H:Hp,H Pt=a_ (.tbl #[.str qn 0])→(∀ b,b≠Pt→H b=ck∨∃ o xs,H b=a_ (.frz o (.lst xs)))→SqL K H a (ns.map V.int)→HOk P w H s₁.heap→(∀ b,H b≠ck→b=a∨b=Pt)→(H a≠ck→K.lookup a=ck) →
  L4 (z_ P w) Pl (.call (.ref fa) ⟨[.ref a],[]⟩) (fun r s'=>r=.ok (.ret (.bool e_))∧OldK s₁.heap s'.heap∧s'.os=s₁.os∧NA s'.gens) s₁:=by
  intro H hT hO hS hok hA hK;have base_of:∀ {b:k_} {o:Obj},s₁.heap.get? b=a_ o→H b=ck→(u0 s₁.heap H).get? b=a_ o:=fun e n=>u3 e n;have noA:∀ {b:k_} {o:Obj} {es:Array DictEntry} {ep:Nat},s₁.heap.get? b=a_ o→o.data=.dict es ep→H b=ck:=fun {b o es ep} e d=>by
   cases q:H b with
   | none=>rfl
   | some u =>
    rcases hA b (by rw [q]; simp) with rfl | rfl
    · rw [ha] at e; cases e;have d':Data.seq vs.toArray _=LV es ep:=d;cases d'
    · rw [hPt] at e; cases e;have d':Pc #[]=LV es ep:=d;cases d'
  have nsK:∀ {b:k_} {m:Str→Option g_},s₁.heap.Ns b m→(u0 s₁.heap H).Ns b m:=fun {b m} ⟨o,es,ep,e,d,r⟩=>⟨o,es,ep,base_of e (noA e d),d,r⟩;have hKb:K.In (u0 s₁.heap H):=fun b o e=>base_of (KX b o e) (by
   cases q:H b with
   | none=>rfl
   | some u =>
    rcases hA b (by rw [q]; simp) with rfl | rfl
    · rw [hK (by rw [q]; simp)] at e; cases e
    · rw [hKP] at e; cases e)
  have hM:Mod K mg (u0 s₁.heap H):=⟨hKb,nsK hns,⟨mb,nsK hb,hbb⟩,let ⟨mc,h1,h2⟩:=hlim; ⟨mc,nsK h1,h2⟩⟩;have e0:Env0 P w K mg (u0 s₁.heap H) Pl [] s₁ H:=⟨rfl,hM,fun b o e=>xU e,MW (qY _ _),trivial,fun b hb=>absurd (show b∈([]:List k_) from hb) (by simp),hok,.of_eq hg⟩;refine LG ((F _ hKb (nsK hns)).run Pl [] s₁ H ⟨[.ref a],[]⟩ [.ref a] [.ref a] _ _ hr e0 (hbind s₁ (.ref a)) (.cons rfl .nil) (hsp H hS ⟨_,0,hT,rfl⟩)) fun r s' h=>?_;cases r with
  | error e=>exact (hCX H e s' h).elim
  | ok fl =>
   cases fl with
   | next=>exact JK h
   | brk=>exact JK h
   | cont=>exact JK h
   | ret u =>
    obtain ⟨v,H',os,bare,un,hok',r',q⟩:=h;have q':v=.bl e_:=q;subst q';obtain rfl:u=JO e_:=r';have kp:∀ b o,b≠Pt→s₁.heap.get? b=a_ o→s'.heap.get? b=a_ o:=fun b o hbP e=>by
     cases q:H b with
     | none=>exact un.keep b o e q (by intro z; exact absurd (show b∈([]:List k_) from z) (by simp)) (by simp)
     | some u =>
      rcases hO b hbP with z | ⟨ob,xs,z⟩
      · rw [q] at z; cases z
      · have z2:=un.frzs b ob _ z;obtain ⟨e1,_⟩:=hok b _ z;obtain ⟨e2,_⟩:=hok' b _ z2;rw [e] at e1; cases e1;exact e2
    obtain ⟨more,hT'⟩:=un.tbls Pt _ hT;obtain ⟨qs,eq',_⟩:=hok' Pt _ hT';refine ⟨rfl,⟨fun b o e=>?_,fun b o e=>?_⟩,os,bare⟩
    · by_cases hbP:b=Pt
      · subst hbP;rw [hPt] at e;cases e;exact .inr (.inl ⟨hct,rfl,#[],qs,rfl,by rw [eq']; simp⟩)
      · exact .inl (kp b o hbP e)
    · by_cases hbP:b=Pt
      · subst hbP;exact ⟨_,eq'⟩
      · exact ⟨o,kp b o hbP e⟩
 have okT:∀ H:Hp,ObjOk P w H s₁.heap Pt (.tbl #[.str qn 0]):=fun H=>⟨#[],hPt,trivial,fun pos v hv=>by cases hv⟩;cases hk:K.lookup a with
 | some o =>
  have e:=KX a o hk;rw [ha] at e;cases e;refine core (fun b=>if b=Pt then a_ (.tbl #[.str qn 0]) else ck) (if_pos rfl) (fun b hb=>.inl (if_neg hb)) (.inr ⟨_,vs.toArray,_,hk,rfl,rfl,rfl,by rw [E_,lenV]; exact hl,by simpa using rv⟩) (fun b u z=>?_) (fun b z=>?_) fun z=>absurd (if_neg haP) z
  · by_cases hb:b=Pt
    · have z':=(if_pos hb).symm.trans z;cases z';subst hb;exact okT _
    · have z':=(if_neg hb).symm.trans z;cases z'
  · by_cases hb:b=Pt
    · exact .inr hb
    · exact absurd (if_neg hb) z
 | none =>
  refine core (fun b=>if b=Pt then a_ (.tbl #[.str qn 0]) else if b=a then a_ (.frz { cls:=.type "list",data:=.seq vs.toArray } (.lst (ns.map V.int))) else ck) (if_pos rfl) (fun b hb=>?_) (.inl (.inr ⟨{ cls:=.type "list",data:=.seq vs.toArray },(if_neg haP).trans (if_pos rfl)⟩)) (fun b u z=>?_) (fun b z=>?_) fun _=>hk
  · by_cases hba:b=a
    · exact .inr ⟨_,_,by rw [if_neg hb,if_pos hba]⟩
    · exact .inl (by rw [if_neg hb,if_neg hba])
  · by_cases hb:b=Pt
    · have z':=(if_pos hb).symm.trans z;cases z';subst hb;exact okT _
    · have z1:=(if_neg hb).symm.trans z;by_cases hba:b=a
      · have z':=(if_pos hba).symm.trans z1;cases z';subst hba;exact ⟨ha,by rw [Jo]; exact hl,vs,_,rv,ha⟩
      · have z':=(if_neg hba).symm.trans z1;cases z'
  · by_cases hb:b=Pt
    · exact .inr hb
    · by_cases hba:b=a
      · exact .inl hba
      · exact absurd (by rw [if_neg hb,if_neg hba]) z
theorem wj {l:OI} {n k:Nat} {q:rl} {loose:List Str} {XP:(Str→Option g_)→H_→Prop} {YP:C_→H_→Prop} {d:DefRec} {K:Nm→f_} {CX:C_→CXT} {sp:C_→Sp} {x:Str} {Pt:k_} {qn:Str}
 (hn:l.most=a_ n) (hn2:n≤sizeLine) (hdf:d.params.defaults=[]) (hr:Room k Pl)
 (hY:∀ (w:C_) (h:H_),YP w h→(K w.params).In h) (hYT:∀ (w:C_) (h:H_),YP w h→h.get? Pt=a_ { cls:=.none,data:=.fields #[] }∧OY h Pt∧(K w.params).lookup Pt=ck)
 (F:∀ (w:C_) (mg:Str→Option g_) (fa:k_) (h:H_),(K w.params).In h→h.Ns y_ mg→mg d.name=a_ (.ref fa) →
   ∃ fd:JZ,(∀ (s:h_) (u:g_),Oz s fd ⟨[u],[]⟩ [(x,u)]) ∧
    ∀ base:H_,(K w.params).In base→base.Ns y_ mg→FnOk l.prog w (K w.params) mg base (CX w) k fa fd [x] (sp w))
 (hsp:∀ (w:C_) (H:Hp) (a:k_) (ns:List Int),ns.length≤n→SqL (K w.params) H a (ns.map V.int)→TBL Pt qn H→sp w [.ref a] H (fun v _=>v=.bl e_) fun _ _ _=>False)
 (hCX:∀ (w:C_) (H:Hp) (s:h_) (e:g_) (s':h_),CX w [] H s (fun _ _ _=>False) e s'→False) :
 Rj q loose XP YP l.row.toRowW d [] (fun f vs=>Q5 f vs):=by
 refine Att.attach_call hn hdf fun w s₀ s₁ mg mb fa o pm cd doc a vs ns G Y ho hd hcd hmg hobj hints hlen hg=>?_;have KX:=hY w _ Y;obtain ⟨fd,hb,hF⟩:=F w mg fa _ KX G.T.g hmg;obtain ⟨t1,t2,t3⟩:=hYT w _ Y;exact uc KX G.T.g G.T.b G.T.builtins G.T.nolimit hg hobj hints (Jy hlen hn2) hr t1 t2 t3 hF hb (fun H hS hT=>hsp w H a ns hlen hS hT) fun H e s'=>hCX w H s₁ e s'
theorem qE {c:FnB} {f g:FnS} {ρ:Ev} (h:c ρ=a_ (.ok e_)):aQ c f g ρ=f ρ:=by
 unfold aQ; rw [h]; rfl
theorem aN {α:Type} {p:α→Bool} {l:List α} (h:l.all p=e_) {x:α} (hx:x∈l):p x=e_:=Kj.mp h x hx
end FD
namespace G
open PySem PySem.Spec PyProof.Rows L2 FD
def top (i:Nat):Ky:=PySem.Challenge.pw_notejar_k54_whole_safe_ones.main.body.getD i (.Pass ⟨0,0,0,0⟩)
section
variable {X:Cx} {a b c o e:F_} {es:List F_} {fa fb fc fo:FnE} {ga:FnA} {pos p pt apos cpos:Pos}
theorem C9 (ha:FE X a fa) (hb:FE X b fb):FE X (.BinOp a .Add b pos) (f2 cO fa fb):=qe o_add BH ha hb
theorem Da (ha:FE X a fa) (hb:FE X b fb):FE X (.BinOp a .Add b pos) (f2 bP fa fb):=qe Cf Cg ha hb
theorem Db (ha:FE X a fa) (hb:FE X b fb):FE X (.BinOp a .Sub b pos) (f2 xg fa fb):=qe AU Fz ha hb
theorem Dc (ha:FE X a fa) (hb:FE X b fb):FE X (.BinOp a .Mult b pos) (f2 jp fa fb):=qe AV FB ha hb
theorem Dd (ha:FE X a fa) (hb:FE X b fb):FE X (.BinOp a .Mod b pos) (f2 ip fa fb):=qe AX FF ha hb
theorem zw (ha:FE X a fa) (hb:FE X b fb):FE X (.BinOp a .FloorDiv b pos) (f2 iy fa fb):=qe xZ BI ha hb
theorem De (hu:X.A.units + 64 < cLine) (ha:FE X a fa) (hb:FE X b fb) (hm:Jt .Eq b=d_:=by kernel_rfl):FT X (.Compare a [.Eq] [b] pos) (fB (f2 eqX fa fb)):=iu (BV hu) BW ha hb hm
theorem Df (hu:X.A.units + 64 < cLine) (ha:FE X a fa) (hb:FE X b fb) (hm:Jt .NotEq b=d_:=by kernel_rfl):FT X (.Compare a [.NotEq] [b] pos) (fB (f2 neX fa fb)):=iu (FP hu) FQ ha hb hm
theorem Dg (ha:FE X a fa) (hb:FE X b fb) (hm:Jt .Lt b=d_:=by kernel_rfl):FT X (.Compare a [.Lt] [b] pos) (fB (f2 ltX fa fb)):=iu BX BY ha hb hm
theorem Dh (ha:FE X a fa) (hb:FE X b fb) (hm:Jt .Gt b=d_:=by kernel_rfl):FT X (.Compare a [.Gt] [b] pos) (fB (f2 gtD fa fb)):=iu AZ (BK _) ha hb hm
theorem Di (ha:FE X a fa) (hb:FE X b fb) (hm:Jt .Is b=d_:=by kernel_rfl):FT X (.Compare a [.Is] [b] pos) (fB (f2 isN fa fb)):=iu wV BL ha hb hm
theorem zx (ha:FE X a fa) (hb:FE X b fb) (hm:Jt .IsNot b=d_:=by kernel_rfl):FT X (.Compare a [.IsNot] [b] pos) (fB (f2 cY fa fb)):=iu rG xl ha hb hm
theorem zy (hu:X.A.units < cLine) (ha:FE X a fa) (hb:FE X b fb) (hm:Jt .Eq b=d_:=by kernel_rfl):FT X (.Compare a [.Eq] [b] pos) (fB (f2 Eu fa fb)):=iu (FM hu) FN ha hb hm
theorem Dj (ha:FE X a fa) (hb:FE X b fb) (hm:Jt .In b=d_:=by kernel_rfl):FT X (.Compare a [.In] [b] pos) (fB (f2 inD fa fb)):=iu HE HF ha hb hm
theorem ud (hu:X.A.units + 64 < cLine) (ha:FE X a fa) (hb:FE X b fb) (hm:Jt .NotIn b=d_:=by kernel_rfl):FT X (.Compare a [.NotIn] [b] pos) (fB (f2 eH fa fb)):=iu (vI hu) vJ ha hb hm
theorem Dk (hu:X.A.units + 64 < cLine) (ha:FE X a fa) (hb:FE X b fb) (hm:Jt .Eq b=d_:=by kernel_rfl):FE X (.Compare a [.Eq] [b] pos) (f2 eqX fa fb):=jf (BV hu) BW ha hb hm
theorem Dl (ha:FE X a fa) (hb:FE X b fb) (hm:Jt .Lt b=d_:=by kernel_rfl):FE X (.Compare a [.Lt] [b] pos) (f2 ltX fa fb):=jf BX BY ha hb hm
theorem Do (ha:FE X a fa) (hb:FE X b fb) (hm:Jt .LtE b=d_:=by kernel_rfl):FE X (.Compare a [.LtE] [b] pos) (f2 leX fa fb):=jf Gf Gg ha hb hm
theorem Dr (ha:FE X a fa) (hb:FE X b fb) (hm:Jt .Gt b=d_:=by kernel_rfl):FE X (.Compare a [.Gt] [b] pos) (f2 gtD fa fb):=jf AZ (BK _) ha hb hm
theorem Ds (ha:FE X a fa) (hb:FE X b fb) (hm:Jt .Is b=d_:=by kernel_rfl):FE X (.Compare a [.Is] [b] pos) (f2 isN fa fb):=jf wV BL ha hb hm
theorem zz (ha:FE X a fa) (hb:FE X b fb) (hm:Jt .IsNot b=d_:=by kernel_rfl):FE X (.Compare a [.IsNot] [b] pos) (f2 cY fa fb):=jf rG xl ha hb hm
theorem Dt (ha:FE X a fa) (hb:FE X b fb) (hm:Jt .In b=d_:=by kernel_rfl):FE X (.Compare a [.In] [b] pos) (f2 inD fa fb):=jf HE HF ha hb hm
theorem ue (ha:FE X a fa) (hb:FE X b fb) (hm:Jt .NotIn b=d_:=by kernel_rfl):FE X (.Compare a [.NotIn] [b] pos) (f2 lZ fa fb):=jf o_notIn sf ha hb hm
theorem Du (hm:X.mg "isinstance"=ck) (hn:X.mg "int"=ck) (ha:FE X a fa) (hg:X.env.kindOf (b_ "isinstance")=a_ .globalImplicit:=by kernel_rfl) (hg2:X.env.kindOf (b_ "int")=a_ .globalImplicit:=by kernel_rfl) (hs1:l_ [a,.Name (b_ "int") pt] X.env=(d_,eval a X.env) :: l_ [.Name (b_ "int") pt] X.env:=by kernel_rfl) (hs2:l_ [.Name (b_ "int") pt] X.env=(d_,eval (.Name (b_ "int") pt) X.env) :: l_ [] X.env:=by kernel_rfl) (hpl:(JV pos (l_ [.Name (b_ "int") pt] X.env)).any (·.1)=d_:=by kernel_rfl):FE X (.Call (.Name "isinstance" p) [a,.Name (b_ "int") pt] [] pos) (f1 (cu bE) fa):=pv (T:="int") yW Cr (by decide +kernel) (by kernel_rfl) hg hm hg2 hn ha hs1 hs2 hpl
theorem Dw (hm:X.mg "isinstance"=ck) (hn:X.mg "str"=ck) (ha:FE X a fa) (hg:X.env.kindOf (b_ "isinstance")=a_ .globalImplicit:=by kernel_rfl) (hg2:X.env.kindOf (b_ "str")=a_ .globalImplicit:=by kernel_rfl) (hs1:l_ [a,.Name (b_ "str") pt] X.env=(d_,eval a X.env) :: l_ [.Name (b_ "str") pt] X.env:=by kernel_rfl) (hs2:l_ [.Name (b_ "str") pt] X.env=(d_,eval (.Name (b_ "str") pt) X.env) :: l_ [] X.env:=by kernel_rfl) (hpl:(JV pos (l_ [.Name (b_ "str") pt] X.env)).any (·.1)=d_:=by kernel_rfl):FE X (.Call (.Name "isinstance" p) [a,.Name (b_ "str") pt] [] pos) (f1 (cu bx) fa):=pv (T:="str") yy BR (by decide +kernel) (by kernel_rfl) hg hm hg2 hn ha hs1 hs2 hpl
theorem wl (hm:X.mg "isinstance"=ck) (hn:X.mg "tuple"=ck) (ha:FE X a fa) (hg:X.env.kindOf (b_ "isinstance")=a_ .globalImplicit:=by kernel_rfl) (hg2:X.env.kindOf (b_ "tuple")=a_ .globalImplicit:=by kernel_rfl) (hs1:l_ [a,.Name (b_ "tuple") pt] X.env=(d_,eval a X.env) :: l_ [.Name (b_ "tuple") pt] X.env:=by kernel_rfl) (hs2:l_ [.Name (b_ "tuple") pt] X.env=(d_,eval (.Name (b_ "tuple") pt) X.env) :: l_ [] X.env:=by kernel_rfl) (hpl:(JV pos (l_ [.Name (b_ "tuple") pt] X.env)).any (·.1)=d_:=by kernel_rfl):FE X (.Call (.Name "isinstance" p) [a,.Name (b_ "tuple") pt] [] pos) (f1 (cu bB) fa):=pv (T:="tuple") yz vq (by decide +kernel) (by kernel_rfl) hg hm hg2 hn ha hs1 hs2 hpl
theorem zC (hm:X.mg "isinstance"=ck) (hn:X.mg "bool"=ck) (ha:FE X a fa) (hg:X.env.kindOf (b_ "isinstance")=a_ .globalImplicit:=by kernel_rfl) (hg2:X.env.kindOf (b_ "bool")=a_ .globalImplicit:=by kernel_rfl) (hs1:l_ [a,.Name (b_ "bool") pt] X.env=(d_,eval a X.env) :: l_ [.Name (b_ "bool") pt] X.env:=by kernel_rfl) (hs2:l_ [.Name (b_ "bool") pt] X.env=(d_,eval (.Name (b_ "bool") pt) X.env) :: l_ [] X.env:=by kernel_rfl) (hpl:(JV pos (l_ [.Name (b_ "bool") pt] X.env)).any (·.1)=d_:=by kernel_rfl):FE X (.Call (.Name "isinstance" p) [a,.Name (b_ "bool") pt] [] pos) (f1 (cu aD) fa):=pv (T:="bool") vo yC (by decide +kernel) (by kernel_rfl) hg hm hg2 hn ha hs1 hs2 hpl
theorem lm (ho:FE X o fo) (ha:FA X (e :: es) ga) (h:SmL X o "startswith" e es apos cpos:=by exact ⟨by kernel_rfl,by kernel_rfl,by kernel_rfl,by kernel_rfl,by kernel_rfl⟩):FE X (.Call (.Attribute o "startswith" apos) (e :: es) [] cpos) (fM (l4 Jv) fo ga):=my PySem.F.slot_str_startswith PySem.F.type_str_startswith FK xp ho ha h
theorem oa (ho:FE X o fo) (ha:FA X (e :: es) ga) (h:SmL X o "endswith" e es apos cpos:=by exact ⟨by kernel_rfl,by kernel_rfl,by kernel_rfl,by kernel_rfl,by kernel_rfl⟩):FE X (.Call (.Attribute o "endswith" apos) (e :: es) [] cpos) (fM (l4 Nx) fo ga):=my PySem.F.slot_str_endswith PySem.F.type_str_endswith FL xp ho ha h
theorem wm (ho:FE X o fo) (ha:FA X (e :: es) ga) (h:SmL X o "split" e es apos cpos:=by exact ⟨by kernel_rfl,by kernel_rfl,by kernel_rfl,by kernel_rfl,by kernel_rfl⟩):FE X (.Call (.Attribute o "split" apos) (e :: es) [] cpos) (fM (fW) fo ga):=my MH PySem.F.type_str_split vt yD ho ha h
theorem zD (ho:FE X o fo) (ha:FA X (e :: es) ga) (h:SmL X o "join" e es apos cpos:=by exact ⟨by kernel_rfl,by kernel_rfl,by kernel_rfl,by kernel_rfl,by kernel_rfl⟩):FE X (.Call (.Attribute o "join" apos) (e :: es) [] cpos) (fM (vv) fo ga):=my PySem.F.slot_str_join PySem.F.type_str_join yE B0 ho ha h
theorem mE (ho:FE X o fo) (ha:FA X (e :: es) ga) (h:SmL X o "partition" e es apos cpos:=by exact ⟨by kernel_rfl,by kernel_rfl,by kernel_rfl,by kernel_rfl,by kernel_rfl⟩):FE X (.Call (.Attribute o "partition" apos) (e :: es) [] cpos) (fM (k8) fo ga):=my Og PySem.F.type_str_partition yF B4 ho ha h
theorem wn (ho:FE X o fo) (ha:FA X (e :: es) ga) (h:SmL X o "strip" e es apos cpos:=by exact ⟨by kernel_rfl,by kernel_rfl,by kernel_rfl,by kernel_rfl,by kernel_rfl⟩):FE X (.Call (.Attribute o "strip" apos) (e :: es) [] cpos) (fM (jO) fo ga):=my PySem.F.slot_str_strip PySem.F.type_str_strip vE yM ho ha h
theorem wo (ho:FE X o fo) (ha:FA X (e :: es) ga) (h:SmL X o "rfind" e es apos cpos:=by exact ⟨by kernel_rfl,by kernel_rfl,by kernel_rfl,by kernel_rfl,by kernel_rfl⟩):FE X (.Call (.Attribute o "rfind" apos) (e :: es) [] cpos) (fM (Et Ro) fo ga):=my PySem.F.slot_str_rfind PySem.F.type_str_rfind vp BQ ho ha h
theorem Dx (ho:FE X o fo) (ha:FA X (e :: es) ga) (h:SmL X o "index" e es apos cpos:=by exact ⟨by kernel_rfl,by kernel_rfl,by kernel_rfl,by kernel_rfl,by kernel_rfl⟩):FE X (.Call (.Attribute o "index" apos) (e :: es) [] cpos) (fM Ch fo ga):=my PySem.F.slot_str_index PySem.F.type_str_index Ci F7 ho ha h
theorem dN {x:Str} (h:FE X (.Name x p) fa):FE X (.Name x p) fa:=h
theorem dC {k:Const} {n:Nat} (h:FE X (.Constant k n p) fa):FE X (.Constant k n p) fa:=h
theorem dA (h:FA X es ga):FA X es ga:=h
theorem dK {x:Str} {ks:List L5} (h:FE X (.Call (.Name x p) es ks pos) fa):FE X (.Call (.Name x p) es ks pos) fa:=h
theorem dM {x:Str} {ks:List L5} (h:FE X (.Call (.Attribute o x p) es ks pos) fa):FE X (.Call (.Attribute o x p) es ks pos) fa:=h
theorem dB {op:Operator} (h:FE X (.BinOp a op b pos) fa):FE X (.BinOp a op b pos) fa:=h
theorem dQ {ops:List CmpOp} (h:FE X (.Compare a ops es pos) fa):FE X (.Compare a ops es pos) fa:=h
theorem dT {fb:FnB} (h:FT X a fb):FT X a fb:=h
theorem dW {fb:FnB} (h:FW X a fb):FW X a fb:=h
theorem dE (h:FE X a fa):FE X a fa:=h
theorem dSs {st:List Ky} {f:FnS} (h:FSs X st f):FSs X st f:=h
theorem dS {st:Ky} {f:FnS} (h:FS X st f):FS X st f:=h
end
local macro_rules | `(tactic| walk_at "x")=>`(tactic| (first
 | with_reducible (refine dN ?_; first
  | exact Fq _ (by kernel_rfl) (by kernel_rfl!)
  | exact Ft _ (by kernel_rfl) (by kernel_rfl!)
  | exact Gp (by with_unfolding_all assumption) (by kernel_rfl!)
  | exact Gq (by with_unfolding_all assumption) (by kernel_rfl!))
 | with_reducible (refine dC ?_; first
  | exact Bm
  | exact Bo
  | exact Fu
  | exact Bn)
 | with_reducible (refine dA ?_; first
  | exact rV
  | refine nF ?_ ?_)
 | with_reducible (refine dK ?_; first
  | refine tZ (N:=["note"]) (by with_unfolding_all assumption) (by with_unfolding_all assumption) (by with_unfolding_all assumption) (by with_unfolding_all assumption) (by with_unfolding_all assumption) ?_ ?_
  | refine vY (by with_unfolding_all assumption) (by with_unfolding_all assumption) (by kernel_rfl!) ?_
  | refine mx (by with_unfolding_all assumption) (by with_unfolding_all assumption) (by kernel_rfl!) (by kernel_rfl) ?_
  | refine kB (by with_unfolding_all assumption) (by with_unfolding_all assumption) (by with_unfolding_all assumption) (by kernel_rfl!) (by kernel_rfl) ?_
  | refine qD ?_ (by kernel_rfl) (glb (by kernel_rfl)) ?_ (glb (by kernel_rfl)) ?_ ?_
  | refine FE.callN (mx (by with_unfolding_all assumption) (by with_unfolding_all assumption) (by kernel_rfl!) (by kernel_rfl) ?_)
  | refine FE.callN (kB (by with_unfolding_all assumption) (by with_unfolding_all assumption) (by with_unfolding_all assumption) (by kernel_rfl!) (by kernel_rfl) ?_)
  | refine BN (glb (by kernel_rfl)) ?_ ?_
  | refine vw (glb (by kernel_rfl)) ?_ ?_
  | refine vU (glb (by kernel_rfl)) ?_ ?_
  | refine y9 (glb (by kernel_rfl)) ?_ ?_
  | refine BO (by kernel_rfl) (glb (by kernel_rfl)) ?_ ?_
  | refine zb (by kernel_rfl) (glb (by kernel_rfl)) ?_ ?_
  | refine CB (by kernel_rfl) (glb (by kernel_rfl)) ?_ ?_
  | refine Ct (by kernel_rfl) (glb (by kernel_rfl)) ?_ ?_
  | refine Du ?_ ?_ ?_
  | refine Dw ?_ ?_ ?_
  | refine wl ?_ ?_ ?_
  | refine zC ?_ ?_ ?_)
 | with_reducible (refine dM ?_; first
  | refine lm ?_ ?_
  | refine oa ?_ ?_
  | refine wm ?_ ?_
  | refine zD ?_ ?_
  | refine mE ?_ ?_
  | refine wn ?_ ?_
  | refine wo ?_ ?_
  | refine Dx ?_ ?_
  | refine vy ?_ ?_)
 | with_reducible (refine dB ?_; first
  | refine C9 ?_ ?_
  | refine Da ?_ ?_
  | refine Db ?_ ?_
  | refine Dc ?_ ?_
  | refine Dd ?_ ?_
  | refine zw ?_ ?_)
 | with_reducible (refine dQ ?_; first
  | refine Dk ?_ ?_ ?_
  | refine Dl ?_ ?_
  | refine Do ?_ ?_
  | refine Dr ?_ ?_
  | refine Ds ?_ ?_
  | refine zz ?_ ?_
  | refine Dt ?_ ?_
  | refine ue ?_ ?_)
 | with_reducible (refine dT ?_; first
  | refine De ?_ ?_ ?_
  | refine Df ?_ ?_ ?_
  | refine Dg ?_ ?_
  | refine Dh ?_ ?_
  | refine Di ?_ ?_
  | refine zx ?_ ?_
  | refine zy ?_ ?_ ?_
  | refine Dj ?_ ?_
  | refine ud ?_ ?_ ?_
  | refine FW.ft (xb ?_ ?_)
  | refine FW.ft (Br ?_ ?_)
  | refine Bs ?_
  | refine Bp ?_)
 | with_reducible (refine dW ?_; first
  | refine xb ?_ ?_
  | refine Br ?_ ?_
  | refine ym ?_
  | refine Bq ?_)
 | with_reducible (refine dE ?_; first
  | refine CQ ?_ ?_
  | refine By ?_
  | refine Bx ?_
  | refine Bt ?_
  | refine Bu ?_ ?_
  | refine Fv ?_ ?_
  | refine Bv ?_
  | refine BJ ?_
  | refine Fw ?_ ?_ ?_
  | refine BM ?_ ?_ ?_
  | refine yN ?_ ?_ ?_
  | refine Gr ?_ ?_ ?_
  | refine Gx ?_ ?_ ?_)
 | with_reducible (refine dSs ?_; first
  | exact yn
  | refine nG ?_
  | refine v4 ?_ ?_
  | refine vh ?_ ?_)
 | with_reducible (refine dS ?_; first
  | refine zv 6 _ (by kernel_rfl) (by kernel_rfl) (by kernel_rfl) (glb (by kernel_rfl)) (by with_unfolding_all exact CA.c (c:=6) (by assumption) (by decide) rfl) (by with_unfolding_all exact (XAllS.at_ (by assumption) 6 (by decide)).2.1) (by with_unfolding_all exact (XAllS.at_ (by assumption) 6 (by decide)).1) (by with_unfolding_all exact (XAllS.at_ (by assumption) 6 (by decide)).2.2.2.2.1) (by kernel_rfl) ?_ ?_
  | refine xf ?_
  | refine Fx ?_ ?_ ?_
  | refine rW ?_
  | refine Gu ?_ ?_ ?_ (by kernel_rfl!)
  | refine zj ?_
  | refine B9 (by kernel_rfl) ?_ ?_
  | refine zl ?_ ?_ ?_
  | refine v7 ?_ ?_ ?_
  | refine vC _ (by with_unfolding_all exact XAllS.xc (by assumption) _ (by decide)) (by kernel_rfl) (by with_unfolding_all exact CA.c (by assumption) (by decide) rfl) (by kernel_rfl) (by kernel_rfl) (glb (by kernel_rfl)) ?_)
 | with_reducible exact yt
 | with_reducible refine yu ?_
 | with_reducible exact vZ
 | with_reducible refine v3 ?_
 | with_reducible intro _ _ _ _
 | with_reducible refine rY (glb (by kernel_rfl)) ?_ ?_
 | with_reducible refine rZ (glb (by kernel_rfl)) ?_ ?_
 | with_reducible refine BC ?_
 | with_reducible refine vA (glb (by kernel_rfl)) ?_ ?_
 | with_reducible refine y4 (glb (by kernel_rfl)) ?_ ?_
 | with_reducible refine FI.toG ?_
 | with_reducible refine v8 ?_
 | with_reducible exact B7
 | with_reducible intro _ _
 | with_reducible exact yT
 | with_reducible refine yU ?_
 | with_reducible refine vL ?_ ?_
 | with_reducible refine Co ?_
 | with_reducible refine Ck ?_ ?_ ?_
 | with_reducible refine Gc (by kernel_rfl) ?_ ?_ ?_
 | with_reducible refine zn ?_ (tX (by kernel_rfl) (by kernel_rfl) (by kernel_rfl) (by kernel_rfl))
 | with_reducible refine vT (by kernel_rfl) (tX (by kernel_rfl) (by kernel_rfl) (by kernel_rfl) (by kernel_rfl)) ?_ ?_
 | with_reducible refine zk ?_
 | with_reducible refine zm ?_ ?_ ?_
 | assumption
 | exact MA.no (by assumption) (by kernel_rfl)
 | exact Room.units (by assumption)
 | exact Room.units0 (by assumption)
 | exact PassesOwn.never
 | exact PassesOwn.leaving) <;> walk_at "x")
local macro_rules | `(tactic| walk_at "b")=>`(tactic| (intros; (conv=>arg 2; whnf); walk_at "x"))
local macro_rules | `(tactic| walk_at "d")=>`(tactic| (intro _ _ _ _ _ _ us hl; rcases us with _ | ⟨_,_ | ⟨_,_ | ⟨_,_ | ⟨_,_ | ⟨_,_ | ⟨_,_ | ⟨_,_ | ⟨_,us⟩⟩⟩⟩⟩⟩⟩⟩ <;> first | rfl | cases hl))
def CC:Aw:=[cN "all",cN "any",cN "bool",cN "enumerate",cN "int",cN "isinstance",cN "len",cN "max",cN "min",cN "range",cN "set",cN "sorted",cN "str",cN "tuple",cN "zip",cI "ASK_HOUSE" 1,cI "ASK_ORIGIN" 3,cI "ASK_PARTS" 4,cI "ASK_PATH" 2,cI "ASK_SAFE" 0,cS "FIGURES" "0123456789",cI "GIVEN_HOUSE" 2,cI "GIVEN_LASTS" 5,cI "GIVEN_NAME" 0,cI "GIVEN_PARTS" 8,cI "GIVEN_PATH" 3,cI "GIVEN_REACH" 7,cI "GIVEN_SAFE" 6,cI "GIVEN_UNTIL" 4,cI "GIVEN_WORTH" 1,cS "LABEL_SIGNS" "abcdefghijklmnopqrstuvwxyz0123456789-",cI "LAST_MOMENT" 9999,cI "LONGEST_LABEL" 8,cI "LONGEST_NOTE_NAME" 10,cI "LONGEST_PATH" 20,cI "LONGEST_WORTH" 12,cI "MOST_FIGURES" 4,cI "MOST_LABELS" 5,cI "MOST_NOTES" 20,cI "MOST_RULES" 8,cI "NOTE_ENDS" 5,cI "NOTE_EXACT" 3,cI "NOTE_HOUSE" 2,cI "NOTE_MADE" 8,cI "NOTE_NAME" 0,cS "NOTE_NAME_SIGNS" "abcdefghijklmnopqrstuvwxyzABCDEFGHIJKLMNOPQRSTUVWXYZ0123456789-_",cI "NOTE_PARTS" 10,cI "NOTE_PATH" 4,cI "NOTE_REACH" 7,cI "NOTE_SAFE" 6,cI "NOTE_USED" 9,cI "NOTE_WORTH" 1,cS "NO_WORTH_SIGNS" ";,=",cS "PATH_SIGNS" "abcdefghijklmnopqrstuvwxyz0123456789-_./"]
def qL:Str:="sent.<locals>.<lambda>"
section
variable {P:rl} {w:C_} {K:f_} {mg:Str→Option g_} {base h:H_} {f:k_} {Pt:k_} {cls:Nat→k_} {CJ:k_} (XI:K.In h) (Gn:h.Ns y_ mg) (M:MA mg CC) (bi:CY K mg) (xa:XAllS K [1,2,3,4,5,6] cls CJ) (ca:CA K mg cls CJ [1,2,3,4,5,6] 7)
include XI Gn M bi xa ca
def T0:bT:=[]
def TE0:bT:=[]
def TL0:bT:=[]
def TU0:bT:=[]
def dU:FnS:=(au (aQ (fB (f2 Eu (ac 0) (bK ah))) (az (f2 jp (fC (.int 7)) (ac 1))) (fun ρ=>a_ (.nx ρ))) (az (f2 cO (f2 ixD (ac 0) (f2 ip (ac 1) (fB1 gZ (aa (ac 0) ah)))) (f2 jp (fC (.int 6553)) (f2 iy (ac 1) (fB1 gZ (aa (ac 0) ah)))))))
def cP:List Dv→Option (Rs Dv):=bp 2 dU
def T1:bT:=("_law_cell",1,["_law_script","_law_k"],cP) :: T0
theorem mF (A:Af K "_law_cell" (top 115) f) (t:HA P w K mg base T0):HA P w K mg base T1 :=
 aw (aP XI Gn ["_law_script","_law_k"] ["_law_script","_law_k"] dU A (by walk_at "d") (by delta dU; walk_at "b")) t
def cV:FnS:=(au (ba 3 (f2 ip (f2 cO (f2 jp (f2 ip (ag cP 2 (aa (ac 0) (aa (ac 1) ah))) (fC (.int 2147483563))) (fC (.int 69069))) (f2 jp (fC (.int 104723)) (f2 cO (ac 1) (fC (.int 1))))) (fC (.int 2147483563)))) (au (ba 3 (f2 ip (f2 cO (f2 jp (ac 3) (ac 3)) (f2 iy (ac 3) (fC (.int 3)))) (fC (.int 2147483399)))) (az (f2 ip (f2 iy (f2 ip (f2 cO (f2 jp (ac 3) (ac 3)) (f2 iy (ac 3) (fC (.int 7)))) (fC (.int 2147483647))) (fC (.int 11))) (ac 2)))))
def ae:List Dv→Option (Rs Dv):=bp 4 cV
def T2:bT:=("_law_drawn",2,["_law_script","_law_k","_law_many"],ae) :: T1
theorem ln (A:Af K "_law_drawn" (top 116) f) (t:HA P w K mg base T1):HA P w K mg base T2 :=
 aw (aP XI Gn ["_law_script","_law_k","_law_many","_law_cell_here"] ["_law_script","_law_k","_law_many"] cV A (by walk_at "d") (by delta cV; walk_at "b")) t
def ii:FnS:=(au (ba 2 (bK (aa (fC (.str "a.b")) (aa (fC (.str "b")) (aa (fC (.str "x.a.b")) (aa (fC (.str "y.x.a.b")) (aa (fC (.str "c.uk")) (aa (fC (.str "uk")) (aa (fC (.str "d.c.uk")) (aa (fC (.str "e.d.c.uk")) ah)))))))))) (au (ba 2 (f2 cO (ac 2) (bK (aa (fC (.str "w.ck")) (aa (fC (.str "v.w.ck")) (aa (fC (.str "ck")) (aa (fC (.str "g-1.a.b")) (aa (fC (.str "7.b")) (aa (fC (.str "p.q")) ah))))))))) (az (f2 ixD (ac 2) (ag ae 3 (aa (ac 0) (aa (ac 1) (aa (fB1 gZ (aa (ac 2) ah)) ah))))))))
def aY:List Dv→Option (Rs Dv):=bp 3 ii
def T3:bT:=("_law_name",3,["_law_script","_law_at"],aY) :: T2
theorem mG (A:Af K "_law_name" (top 117) f) (t:HA P w K mg base T2):HA P w K mg base T3 :=
 aw (aP XI Gn ["_law_script","_law_at","_law_some"] ["_law_script","_law_at"] ii A (by walk_at "d") (by delta ii; walk_at "b")) t
def ij : FnS := (au (ba 2 (bK (aa (fC (.str "/")) (aa (fC (.str "/x")) (aa (fC (.str "/x/")) (aa (fC (.str "/x/y")) (aa (fC (.str "/xy")) (aa (fC (.str "/x/y/z.q")) (aa (fC (.str "//")) (aa (fC (.str "/-_.9")) (aa (fC (.str "/x/y/")) ah))))))))))) (az (f2 ixD (ac 2) (ag ae 3 (aa (ac 0) (aa (ac 1) (aa (fB1 gZ (aa (ac 2) ah)) ah)))))))
def bZ:List Dv→Option (Rs Dv):=bp 3 ij
def T4:bT:=("_law_path",3,["_law_script","_law_at"],bZ) :: T3
theorem mH (A:Af K "_law_path" (top 119) f) (t:HA P w K mg base T3):HA P w K mg base T4 :=
 aw (aP XI Gn ["_law_script","_law_at","_law_some"] ["_law_script","_law_at"] ij A (by walk_at "d") (by delta ij; walk_at "b")) t
def fw:FnS:=(au (ba 2 (f2 ixD (bK (aa (fC .non) (aa (ag aY 2 (aa (ac 0) (aa (f2 cO (ac 1) (fC (.int 3))) ah))) (aa (ag aY 2 (aa (ac 0) (aa (f2 cO (ac 1) (fC (.int 3))) ah))) ah)))) (ag ae 3 (aa (ac 0) (aa (f2 cO (ac 1) (fC (.int 2))) (aa (fC (.int 3)) ah)))))) (az (bS (aa (f2 eqX (ag ae 3 (aa (ac 0) (aa (ac 1) (aa (fC (.int 2)) ah)))) (fC (.int 0))) (aa (ag aY 2 (aa (ac 0) (aa (f2 cO (ac 1) (fC (.int 1))) ah))) (aa (ag bZ 2 (aa (ac 0) (aa (f2 cO (ac 1) (fC (.int 4))) ah))) (aa (ac 2) ah)))))))
def dJ:List Dv→Option (Rs Dv):=bp 3 fw
def T5:bT:=("_law_ask",4,["_law_script","_law_at"],dJ) :: T4
theorem og (A:Af K "_law_ask" (top 120) f) (t:HA P w K mg base T4):HA P w K mg base T5 :=
 aw (aP XI Gn ["_law_script","_law_at","_law_origin"] ["_law_script","_law_at"] fw A (by walk_at "d") (by delta fw; walk_at "b")) t
def eQ:FnS:=(au (ba 3 (f2 ixD (bK (aa (fC (.str "n")) (aa (fC (.str "safe-a")) (aa (fC (.str "own-b")) (aa (fC (.str "N_2")) (aa (fC (.str "m-1")) (aa (fC (.str "safe-")) (aa (fC (.str "n")) ah)))))))) (ag ae 3 (aa (ac 0) (aa (ac 1) (aa (fC (.int 7)) ah)))))) (au (ba 4 (f2 ixD (bK (aa (fC (.str "5")) (aa (fC (.str "")) (aa (fC (.str "a!b~")) (aa (fC (.str "x/y?z")) (aa (fC (.str "123456789012")) ah)))))) (ag ae 3 (aa (ac 0) (aa (f2 cO (ac 1) (fC (.int 1))) (aa (fC (.int 5)) ah)))))) (sJ 5 (aa (fC .non) (aa (fC .non) (aa (ac 2) (aa (f2 ixD (fM (fW) (ac 2) (aa (fC (.str ".")) ah)) (f1 xh (fC (.int 1)))) (aa (ag aY 2 (aa (ac 0) (aa (f2 cO (ac 1) (fC (.int 3))) ah))) ah))))) (dI (vK (fIf (fB (f2 inD (fC (.str ".")) (ac 2))) (qT (ac 2) (cg (f2 cO (fM Ch (ac 2) (aa (fC (.str ".")) ah)) (fC (.int 1)))) dc) (ac 2))) (dI (eK 6 (f2 ixD (bK (aa (fC .non) (aa (fC (.str "/")) (aa (ag bZ 2 (aa (ac 0) (aa (f2 cO (ac 1) (fC (.int 5))) ah))) ah)))) (ag ae 3 (aa (ac 0) (aa (f2 cO (ac 1) (fC (.int 4))) (aa (fC (.int 3)) ah)))))) (dI (eK 7 (f2 ixD (bK (aa (fC .non) (aa (fC .non) (aa (ag ae 3 (aa (ac 0) (aa (f2 cO (ac 1) (fC (.int 7))) (aa (fC (.int 60)) ah)))) ah)))) (ag ae 3 (aa (ac 0) (aa (f2 cO (ac 1) (fC (.int 6))) (aa (fC (.int 3)) ah)))))) (dI (eK 8 (f2 ixD (bK (aa (fC .non) (aa (fC .non) (aa (ag ae 3 (aa (ac 0) (aa (f2 cO (ac 1) (fC (.int 9))) (aa (fC (.int 30)) ah)))) ah)))) (ag ae 3 (aa (ac 0) (aa (f2 cO (ac 1) (fC (.int 8))) (aa (fC (.int 3)) ah)))))) (dI (eK 9 (f2 ixD (bK (aa (fC (.str "any")) (aa (fC (.str "near")) ah))) (ag ae 3 (aa (ac 0) (aa (f2 cO (ac 1) (fC (.int 11))) (aa (fC (.int 2)) ah)))))) (dI (eK 10 (f2 eqX (ag ae 3 (aa (ac 0) (aa (f2 cO (ac 1) (fC (.int 10))) (aa (fC (.int 2)) ah)))) (fC (.int 0)))) (sE 5 (bS (aa (ac 3) (aa (ac 4) (aa (f2 ixD (ac 5) (ag ae 3 (aa (ac 0) (aa (f2 cO (ac 1) (fC (.int 2))) (aa (fC (.int 6)) ah))))) (aa (ac 6) (aa (ac 7) (aa (ac 8) (aa (ac 10) (aa (ac 9) ah)))))))))))))))))))
def du:List Dv→Option (Rs Dv):=bp 11 eQ
def T6:bT:=("_law_given",4,["_law_script","_law_at","_law_house"],du) :: T5
theorem ls (A:Af K "_law_given" (top 121) f) (t:HA P w K mg base T5):HA P w K mg base T6 :=
 aw (aP XI Gn ["_law_script","_law_at","_law_house","_law_name_here","_law_worth","_law_some","_law_path_here","_law_until","_law_lasts","_law_reach","_law_safe"] ["_law_script","_law_at","_law_house"] eQ A (by walk_at "d") (by delta eQ; walk_at "b")) t
def bG:ji:=(dI (eK 6 (f2 bP (f2 bP (ac 1) (fC (.int 1))) (f2 jp (fC (.int 14)) (ac 5)))) (dI (eK 4 (f2 bP (ac 4) (ag ae 3 (aa (ac 0) (aa (ac 6) (aa (fC (.int 4)) ah)))))) (dI (eK 7 (f2 ixD (bK (aa (fC (.str "n")) (aa (fC (.str "m-1")) (aa (fC (.str "safe-a")) (aa (fC (.str "N_2")) ah))))) (ag ae 3 (aa (ac 0) (aa (f2 bP (ac 6) (fC (.int 1))) (aa (fC (.int 4)) ah)))))) (dI (eK 8 (f2 ixD (bK (aa (fC (.str "5")) (aa (fC (.str "")) (aa (fC (.str "a!b~")) ah)))) (ag ae 3 (aa (ac 0) (aa (f2 bP (ac 6) (fC (.int 2))) (aa (fC (.int 3)) ah)))))) (dI (eK 9 (f2 ixD (bK (aa (fC .non) (aa (ag ae 3 (aa (ac 0) (aa (f2 bP (ac 6) (fC (.int 7))) (aa (fC (.int 60)) ah)))) ah))) (ag ae 3 (aa (ac 0) (aa (f2 bP (ac 6) (fC (.int 6))) (aa (fC (.int 2)) ah)))))) (dI (eK 10 (f2 eqX (ag ae 3 (aa (ac 0) (aa (f2 bP (ac 6) (fC (.int 4))) (aa (fC (.int 2)) ah)))) (fC (.int 0)))) (dI (eK 11 (bS (aa (ac 7) (aa (ac 8) (aa (ag aY 2 (aa (ac 0) (aa (f2 bP (ac 6) (fC (.int 3))) ah))) (aa (ac 10) (aa (ag bZ 2 (aa (ac 0) (aa (f2 bP (ac 6) (fC (.int 5))) ah))) ah))))))) (dI (eK 12 (f2 ixD (bK (aa (fC (.str "any")) (aa (fC (.str "any")) (aa (fC (.str "near")) ah)))) (ag ae 3 (aa (ac 0) (aa (f2 bP (ac 6) (fC (.int 9))) (aa (fC (.int 3)) ah)))))) (dI (eK 13 (f2 eqX (ag ae 3 (aa (ac 0) (aa (f2 bP (ac 6) (fC (.int 8))) (aa (fC (.int 2)) ah)))) (fC (.int 0)))) (dI (eK 14 (f2 bP (ac 4) (ag ae 3 (aa (ac 0) (aa (f2 bP (ac 6) (fC (.int 10))) (aa (fC (.int 5)) ah)))))) (dI (eK 15 (f2 bP (ac 11) (bS (aa (ac 9) (aa (ac 13) (aa (ac 12) (aa (ac 4) (aa (ac 14) ah)))))))) (yS 3 (fB (f2 eqX (bX [("_law_note",15)] (dr (ac 3)) (a_ (fB (f2 eqX (bS (aa (f2 ixD (ac 0) (fC (.int 0))) (aa (f2 ixD (ac 0) (fC (.int 2))) (aa (f2 ixD (ac 0) (fC (.int 4))) ah)))) (bS (aa (f2 ixD (ac 1) (fC (.int 0))) (aa (f2 ixD (ac 1) (fC (.int 2))) (aa (f2 ixD (ac 1) (fC (.int 4))) ah))))))) (ac 0)) (bK ah))) (vK (ac 15)) Aq))))))))))))
def iW:FnS:=(sJ 3 ah (dI (eK 4 (fC (.int 0))) (dI (sK 5 [5,6,7,8,9,10,11,12,13,14,15] (fun ρ=>bnd ((aa (ag ae 3 (aa (ac 0) (aa (ac 1) (aa (f2 bP (ac 2) (fC (.int 1))) ah)))) ah) ρ) qS) bG) (sE 3 (fB1 fX (aa (ac 3) ah))))))
def gO:List Dv→Option (Rs Dv):=bp 16 iW
def T7:bT:=("_law_jar",4,["_law_script","_law_at","_law_many"],gO) :: T6
theorem oh (A:Af K "_law_jar" (top 123) f) (t:HA P w K mg base T6):HA P w K mg base T7 :=
 aw (aP XI Gn ["_law_script","_law_at","_law_many","_law_found","_law_now","_law_k","_law_here","_law_name_here","_law_worth","_law_ends","_law_exact","_law_head","_law_reach","_law_safe","_law_late","_law_note"] ["_law_script","_law_at","_law_many"] iW A (by walk_at "d") (by delta iW bG; walk_at "b")) t
def gq:FnS:=(au (ba 2 (bK (aa (fC (.str "!w.ck")) (aa (fC (.str "*.ck")) (aa (fC (.str "*.uk")) (aa (fC (.str "a.b")) (aa (fC (.str "b")) (aa (fC (.str "c.uk")) (aa (fC (.str "q")) (aa (fC (.str "uk")) ah)))))))))) (az (fB1 fX (aa (cj 2 [("_law_script",0),("_law_at",1)] (fun ρ=>bnd ((aa (ac 2) ah) ρ) vz) (gP 0 1) (a_ (fB (f2 eqX (ag ae 3 (aa (ac 2) (aa (f2 cO (ac 3) (ac 0)) (aa (fC (.int 2)) ah)))) (fC (.int 0))))) (ac 1)) ah))))
def dv:List Dv→Option (Rs Dv):=bp 3 gq
def T8:bT:=("_law_table",3,["_law_script","_law_at"],dv) :: T7
theorem lu (A:Af K "_law_table" (top 118) f) (t:HA P w K mg base T7):HA P w K mg base T8 :=
 aw (aP XI Gn ["_law_script","_law_at","_law_some"] ["_law_script","_law_at"] gq A (by walk_at "d") (by delta gq; walk_at "b")) t
def aH:FnS:=(aQ (fB (f2 cY (ac 11) (fC .non))) (ba 9 (f2 bP (f2 bP (f2 bP (f2 bP (ac 9) (fC (.str "; "))) (ac 10)) (fC (.str " "))) (fB1 Au (aa (ac 11) ah)))) (fun ρ=>a_ (.nx ρ)))
def dX:FnS:=(au (B8 [1,2,3,4] (eD (ac 0) dc (cg (fC (.int 4))))) (au (B8 [5,6,7,8] (eD (ac 0) (cg (fC (.int 4))) dc)) (au (ba 9 (f2 bP (f2 bP (ac 1) (fC (.str "="))) (ac 2))) (au (qt (gP 10 11) [11,10] (fun ρ=>bnd ((aa (bS (aa (fC (.str "for")) (aa (fC (.str "under")) (aa (fC (.str "until")) (aa (fC (.str "lasts")) ah))))) (aa (eD (ac 0) (cg (fC (.int 2))) (cg (fC (.int 6)))) ah)) ρ) As) aH) (az (f2 bP (f2 bP (ac 9) (fIf (fB (ac 7)) (fC (.str "; safe")) (fC (.str "")))) (fIf (fB (f2 eqX (ac 8) (fC (.str "near")))) (fC (.str "; near")) (fC (.str "")))))))))
def dZ:List Dv→Option (Rs Dv):=bp 12 dX
def T9:bT:=("_law_text",1,["_law_given_here"],dZ) :: T8
theorem mI (A:Af K "_law_text" (top 122) f) (t:HA P w K mg base T8):HA P w K mg base T9 :=
 aw (aP XI Gn ["_law_given_here","_law_name_here","_law_worth","_law_house","_law_path_here","_law_until","_law_lasts","_law_safe","_law_reach","_law_text_here","_law_word","_law_thing"] ["_law_given_here"] dX A (by walk_at "d") (by delta dX aH; walk_at "b")) t
def cD:FnS:=(au (ba 1 (fM (fW) (ac 0) (aa (fC (.str ".")) ah))) (az (bX [("parts",1)] (fun ρ=>bnd ((aa (fB1 gZ (aa (ac 1) ah)) ah) ρ) qS) ck (fM (vv) (fC (.str ".")) (aa (qT (ac 1) (cg (ac 0)) dc) ah)))))
def cF:List Dv→Option (Rs Dv):=bp 2 cD
def T10:bT:=("ends_longest_first",1,["name"],cF) :: T9
theorem gu (A:Af K "ends_longest_first" (top 24) f) (t:HA P w K mg base T9):HA P w K mg base T10 :=
 aw (aP XI Gn ["name","parts"] ["name"] cD A (by walk_at "d") (by delta cD; walk_at "b")) t
def cZ:FnS:=(az (f2 ixD (fM (k8) (ac 0) (aa (fC (.str ".")) ah)) (fC (.int 2))))
def c0:List Dv→Option (Rs Dv):=bp 1 cZ
def T11:bT:=("behind_first_dot",1,["end"],c0) :: T10
theorem ik (A:Af K "behind_first_dot" (top 25) f) (t:HA P w K mg base T10):HA P w K mg base T11 :=
 aw (aP XI Gn ["end"] ["end"] cZ A (by walk_at "d") (by delta cZ; walk_at "b")) t
def eV:FnS:=(au (aQ (fB (f2 inD (ac 1) (ac 0))) (az (fC (.bl e_))) (fun ρ=>a_ (.nx ρ))) (az (cK (f2 inD (fC (.str ".")) (ac 1)) (f2 inD (f2 cO (fC (.str "*.")) (ag c0 1 (aa (ac 1) ah))) (ac 0)))))
def hX:List Dv→Option (Rs Dv):=bp 2 eV
def T12:bT:=("is_told_open",2,["table","end"],hX) :: T11
theorem jX (A:Af K "is_told_open" (top 26) f) (t:HA P w K mg base T11):HA P w K mg base T12 :=
 aw (aP XI Gn ["table","end"] ["table","end"] eV A (by walk_at "d") (by delta eV; walk_at "b")) t
def fz:FnS:=(aQ (fB (f2 inD (f2 cO (fC (.str "!")) (ac 3)) (ac 0))) (az (ag c0 1 (aa (ac 3) ah))) (fun ρ=>a_ (.nx ρ)))
def fA:FnS:=(aQ (fB (ag hX 2 (aa (ac 0) (aa (ac 3) ah)))) (az (ac 3)) (fun ρ=>a_ (.nx ρ)))
def d5:FnS:=(au (ba 2 (ag cF 1 (aa (ac 1) ah))) (au (BD 3 [] (dr (ac 2)) fz) (au (BD 3 [3] (dr (ac 2)) fA) (az (f2 ixD (ac 2) (f1 xh (fC (.int 1))))))))
def cw:List Dv→Option (Rs Dv):=bp 4 d5
def T13:bT:=("find_open_end",3,["table","name"],cw) :: T12
theorem ju (A:Af K "find_open_end" (top 27) f) (t:HA P w K mg base T12):HA P w K mg base T13 :=
 aw (aP XI Gn ["table","name","ends","end"] ["table","name"] d5 A (by walk_at "d") (by delta d5 fz fA; walk_at "b")) t
def eW:FnS:=(au (ba 2 (ag cw 2 (aa (ac 0) (aa (ac 1) ah)))) (au (ba 3 (ag cF 1 (aa (ac 1) ah))) (au (ba 4 (fML FR (ac 3) (aa (ac 2) ah))) (au (aQ (fB (f2 eqX (ac 4) (fC (.int 0)))) (az (fC .non)) (fun ρ=>a_ (.nx ρ))) (az (f2 ixD (ac 3) (f2 xg (ac 4) (fC (.int 1)))))))))
def cL:List Dv→Option (Rs Dv):=bp 5 eW
def T14:bT:=("find_own_end",4,["table","name"],cL) :: T13
theorem jY (A:Af K "find_own_end" (top 28) f) (t:HA P w K mg base T13):HA P w K mg base T14 :=
 aw (aP XI Gn ["table","name","end","ends","place"] ["table","name"] eW A (by walk_at "d") (by delta eW; walk_at "b")) t
def aA:FnS:=(au (ba 2 (f2 ixD (ac 1) (fC (.int 1)))) (au (ba 3 (f2 ixD (ac 1) (fC (.int 3)))) (au (aQ (bOr (fB (f2 isN (ac 3) (fC .non))) (fB (f2 eqX (ac 3) (ac 2)))) (az (fC (.bl e_))) (fun ρ=>a_ (.nx ρ))) (au (ba 4 (ag cL 2 (aa (ac 0) (aa (ac 2) ah)))) (az (cK (f2 cY (ac 4) (fC .non)) (f2 eqX (ac 4) (ag cL 2 (aa (ac 0) (aa (ac 3) ah))))))))))
def aj:List Dv→Option (Rs Dv):=bp 5 aA
def T15:bT:=("comes_from_near",5,["table","ask"],aj) :: T14
theorem iF (A:Af K "comes_from_near" (top 48) f) (t:HA P w K mg base T14):HA P w K mg base T15 :=
 aw (aP XI Gn ["table","ask","house","origin","own"] ["table","ask"] aA A (by walk_at "d") (by delta aA; walk_at "b")) t
def fK:FnS:=(az (cK (f2 cY (f2 ixD (ac 0) (fC (.int 5))) (fC .non)) (f2 leX (f2 ixD (ac 0) (fC (.int 5))) (ac 1))))
def aZ:List Dv→Option (Rs Dv):=bp 2 fK
def T16:bT:=("has_ended",1,["note","now"],aZ) :: T15
theorem mJ (A:Af K "has_ended" (top 94) f) (t:HA P w K mg base T15):HA P w K mg base T16 :=
 aw (aP XI Gn ["note","now"] ["note","now"] fK A (by walk_at "d") (by delta fK; walk_at "b")) t
def fL:FnS:=(az (vOr (f2 eqX (ac 0) (ac 1)) (fM (l4 Nx) (ac 0) (aa (f2 cO (fC (.str ".")) (ac 1)) ah))))
def aI:List Dv→Option (Rs Dv):=bp 2 fL
def T17:bT:=("lies_within",1,["one","other"],aI) :: T16
theorem kh (A:Af K "lies_within" (top 23) f) (t:HA P w K mg base T16):HA P w K mg base T17 :=
 aw (aP XI Gn ["one","other"] ["one","other"] fL A (by walk_at "d") (by delta fL; walk_at "b")) t
def jz:FnS:=(au (aQ (fB (f2 ixD (ac 0) (fC (.int 3)))) (az (f2 eqX (f2 ixD (ac 0) (fC (.int 2))) (ac 1))) (fun ρ=>a_ (.nx ρ))) (az (ag aI 2 (aa (ac 1) (aa (f2 ixD (ac 0) (fC (.int 2))) ah)))))
def gQ:List Dv→Option (Rs Dv):=bp 2 jz
def T18:bT:=("is_for",2,["note","house"],gQ) :: T17
theorem uf (A:Af K "is_for" (top 95) f) (t:HA P w K mg base T17):HA P w K mg base T18 :=
 aw (aP XI Gn ["note","house"] ["note","house"] jz A (by walk_at "d") (by delta jz; walk_at "b")) t
def gx:FnS:=(au (aQ (fB (f2 eqX (ac 0) (ac 1))) (az (fC (.bl e_))) (fun ρ=>a_ (.nx ρ))) (au (aQ (bh (fB (fM (l4 Jv) (ac 0) (aa (ac 1) ah)))) (az (fC (.bl d_))) (fun ρ=>a_ (.nx ρ))) (az (vOr (fM (l4 Nx) (ac 1) (aa (fC (.str "/")) ah)) (f2 eqX (f2 ixD (ac 0) (fB1 gZ (aa (ac 1) ah))) (fC (.str "/")))))))
def aE:List Dv→Option (Rs Dv):=bp 2 gx
def T19:bT:=("lies_under",1,["path","top"],aE) :: T18
theorem lv (A:Af K "lies_under" (top 35) f) (t:HA P w K mg base T18):HA P w K mg base T19 :=
 aw (aP XI Gn ["path","top"] ["path","top"] gx A (by walk_at "d") (by delta gx; walk_at "b")) t
def mK:FnS:=(au (aQ (bOr (fB (ag aZ 2 (aa (ac 1) (aa (ac 3) ah)))) (bh (fB (ag gQ 2 (aa (ac 1) (aa (f2 ixD (ac 2) (fC (.int 1))) ah)))))) (az (fC (.bl d_))) (fun ρ=>a_ (.nx ρ))) (au (aQ (bh (fB (ag aE 2 (aa (f2 ixD (ac 2) (fC (.int 2))) (aa (f2 ixD (ac 1) (fC (.int 4))) ah))))) (az (fC (.bl d_))) (fun ρ=>a_ (.nx ρ))) (au (aQ (cH (fB (f2 ixD (ac 1) (fC (.int 6)))) (bh (fB (f2 ixD (ac 2) (fC (.int 0)))))) (az (fC (.bl d_))) (fun ρ=>a_ (.nx ρ))) (az (vOr (f2 eqX (f2 ixD (ac 1) (fC (.int 7))) (fC (.str "any"))) (ag aj 2 (aa (ac 0) (aa (ac 2) ah))))))))
def mL:List Dv→Option (Rs Dv):=bp 4 mK
def T20:bT:=("goes",6,["table","note","ask","now"],mL) :: T19
theorem zE (A:Af K "goes" (top 96) f) (t:HA P w K mg base T19):HA P w K mg base T20 :=
 aw (aP XI Gn ["table","note","ask","now"] ["table","note","ask","now"] mK A (by walk_at "d") (by delta mK; walk_at "b")) t
def gz:FnS:=(au (aQ (bh (fB (f1 (cu bx) (ac 0)))) (az (fC (.bl d_))) (fun ρ=>a_ (.nx ρ))) (au (aQ (bOr (fB (f2 ltX (fB1 gZ (aa (ac 0) ah)) (ac 2))) (fB (f2 gtD (fB1 gZ (aa (ac 0) ah)) (ac 3)))) (az (fC (.bl d_))) (fun ρ=>a_ (.nx ρ))) (az (fB1 iA (aa (bX [("signs",1)] (dr (ac 0)) ck (f2 inD (ac 0) (ac 1))) ah)))))
def cW:List Dv→Option (Rs Dv):=bp 4 gz
def T21:bT:=("is_text_of",1,["thing","signs","least","most"],cW) :: T20
theorem lw (A:Af K "is_text_of" (top 9) f) (t:HA P w K mg base T20):HA P w K mg base T21 :=
 aw (aP XI Gn ["thing","signs","least","most"] ["thing","signs","least","most"] gz A (by walk_at "d") (by delta gz; walk_at "b")) t
def iX:FnS:=(au (aQ (bh (fB (ag cW 4 (aa (ac 0) (aa (fC (.str "abcdefghijklmnopqrstuvwxyz0123456789-")) (aa (fC (.int 1)) (aa (fC (.int 8)) ah))))))) (az (fC (.bl d_))) (fun ρ=>a_ (.nx ρ))) (az (cK (eC (fM (l4 Jv) (ac 0) (aa (fC (.str "-")) ah))) (eC (fM (l4 Nx) (ac 0) (aa (fC (.str "-")) ah))))))
def kG:List Dv→Option (Rs Dv):=bp 1 iX
def T22:bT:=("is_label",2,["thing"],kG) :: T21
theorem oi (A:Af K "is_label" (top 18) f) (t:HA P w K mg base T21):HA P w K mg base T22 :=
 aw (aP XI Gn ["thing"] ["thing"] iX A (by walk_at "d") (by delta iX; walk_at "b")) t
def jZ:FnS:=(au (aQ (bh (fB (f1 (cu bx) (ac 0)))) (az (fC (.bl d_))) (fun ρ=>a_ (.nx ρ))) (au (ba 1 (fM (fW) (ac 0) (aa (fC (.str ".")) ah))) (au (aQ (bOr (fB (f2 gtD (fB1 gZ (aa (ac 1) ah)) (fC (.int 5)))) (bh (fB (fB1 iA (aa (bX [] (dr (ac 1)) ck (ag kG 1 (aa (ac 0) ah))) ah))))) (az (fC (.bl d_))) (fun ρ=>a_ (.nx ρ))) (az (eC (ag cW 4 (aa (f2 ixD (ac 1) (f1 xh (fC (.int 1)))) (aa (fC (.str "0123456789")) (aa (fC (.int 1)) (aa (fC (.int 8)) ah))))))))))
def bJ:List Dv→Option (Rs Dv):=bp 2 jZ
def T23:bT:=("is_name",3,["thing"],bJ) :: T22
theorem qF (A:Af K "is_name" (top 19) f) (t:HA P w K mg base T22):HA P w K mg base T23 :=
 aw (aP XI Gn ["thing","parts"] ["thing"] jZ A (by walk_at "d") (by delta jZ; walk_at "b")) t
def j3:FnS:=(az (cK (ag cW 4 (aa (ac 0) (aa (fC (.str "abcdefghijklmnopqrstuvwxyz0123456789-_./")) (aa (fC (.int 1)) (aa (fC (.int 20)) ah))))) (fM (l4 Jv) (ac 0) (aa (fC (.str "/")) ah))))
def bA:List Dv→Option (Rs Dv):=bp 1 j3
def T24:bT:=("is_path",2,["thing"],bA) :: T23
theorem qG (A:Af K "is_path" (top 32) f) (t:HA P w K mg base T23):HA P w K mg base T24 :=
 aw (aP XI Gn ["thing"] ["thing"] j3 A (by walk_at "d") (by delta j3; walk_at "b")) t
def fN:FnS:=(az (cK (f1 (cu bB) (ac 0)) (f2 eqX (fB1 gZ (aa (ac 0) ah)) (ac 1))))
def bQ:List Dv→Option (Rs Dv):=bp 2 fN
def T25:bT:=("is_tuple_of",1,["thing","parts"],bQ) :: T24
theorem ki (A:Af K "is_tuple_of" (top 11) f) (t:HA P w K mg base T24):HA P w K mg base T25 :=
 aw (aP XI Gn ["thing","parts"] ["thing","parts"] fN A (by walk_at "d") (by delta fN; walk_at "b")) t
def fP:FnS:=(au (aQ (bh (fB (ag bQ 2 (aa (ac 0) (aa (fC (.int 4)) ah))))) (az (fC (.bl d_))) (fun ρ=>a_ (.nx ρ))) (az (fB1 iA (aa (bK (aa (f1 (cu aD) (f2 ixD (ac 0) (fC (.int 0)))) (aa (ag bJ 1 (aa (f2 ixD (ac 0) (fC (.int 1))) ah)) (aa (ag bA 1 (aa (f2 ixD (ac 0) (fC (.int 2))) ah)) (aa (vOr (f2 isN (f2 ixD (ac 0) (fC (.int 3))) (fC .non)) (ag bJ 1 (aa (f2 ixD (ac 0) (fC (.int 3))) ah))) ah))))) ah))))
def dk:List Dv→Option (Rs Dv):=bp 1 fP
def T26:bT:=("is_ask",4,["thing"],dk) :: T25
theorem ug (A:Af K "is_ask" (top 46) f) (t:HA P w K mg base T25):HA P w K mg base T26 :=
 aw (aP XI Gn ["thing"] ["thing"] fP A (by walk_at "d") (by delta fP; walk_at "b")) t
def fQ:FnS:=(aQ (bh (fB (ag dk 1 (aa (ac 0) ah)))) (aC 3 (fC (.str "this is no ask"))) (fun ρ=>a_ (.nx ρ)))
def ce:List Dv→Option (Rs Dv):=eE 1 fQ
def TE1:bT:=("need_ask",5,["thing"],ce) :: TE0
theorem oj (A:Af K "need_ask" (top 47) f) (t:HA P w K mg base T26) (te:HAE P w K mg base TE0):HAE P w K mg base TE1 :=
 bL (ci XI Gn ["thing"] ["thing"] fQ A (by walk_at "d") (by delta fQ; walk_at "b")) te
def wp:FnS:=(az (bS (aa (f2 ixD (ac 0) (fC (.int 0))) (aa (f2 ixD (ac 0) (fC (.int 2))) (aa (f2 ixD (ac 0) (fC (.int 4))) ah)))))
def dF:List Dv→Option (Rs Dv):=bp 1 wp
def T27:bT:=("key",1,["note"],dF) :: T26
theorem Dy (A:Af K "key" (top 93) f) (t:HA P w K mg base T26):HA P w K mg base T27 :=
 aw (aP XI Gn ["note"] ["note"] wp A (by walk_at "d") (by delta wp; walk_at "b")) t
def bR:FnS:=(au (ba 1 (cj 1 [] (dr (ac 0)) (gN 0) ck (ag dF 1 (aa (ac 0) ah)))) (az (f2 eqX (fB1 ig (aa (ac 1) ah)) (fB1 gZ (aa (ac 1) ah)))))
def cq:List Dv→Option (Rs Dv):=bp 2 bR
def T28:bT:=("has_no_key_twice",2,["notes"],cq) :: T27
theorem il (A:Af K "has_no_key_twice" (top 101) f) (t:HA P w K mg base T27):HA P w K mg base T28 :=
 aw (aP XI Gn ["notes","keys"] ["notes"] bR A (by walk_at "d") (by delta bR; walk_at "b")) t
def gA:FnS:=(az (fB1 iA (aa (bX [("notes",0)] (fun ρ=>bnd ((aa (fC (.int 1)) (aa (fB1 gZ (aa (ac 0) ah)) ah)) ρ) uT) ck (f2 leX (f2 ixD (f2 ixD (ac 1) (f2 xg (ac 0) (fC (.int 1)))) (fC (.int 8))) (f2 ixD (f2 ixD (ac 1) (ac 0)) (fC (.int 8))))) ah)))
def eR:List Dv→Option (Rs Dv):=bp 1 gA
def T29:bT:=("is_by_made",1,["notes"],eR) :: T28
theorem lx (A:Af K "is_by_made" (top 100) f) (t:HA P w K mg base T28):HA P w K mg base T29 :=
 aw (aP XI Gn ["notes"] ["notes"] gA A (by walk_at "d") (by delta gA; walk_at "b")) t
def bc:FnS:=(au (aQ (bOr (bh (fB (f1 (cu bE) (ac 0)))) (fB (f1 (cu aD) (ac 0)))) (az (fC (.bl d_))) (fun ρ=>a_ (.nx ρ))) (az (cK (f2 leX (ac 1) (ac 0)) (f2 leX (ac 0) (ac 2)))))
def aO:List Dv→Option (Rs Dv):=bp 3 bc
def T30:bT:=("is_whole_number",1,["thing","least","most"],aO) :: T29
theorem iG (A:Af K "is_whole_number" (top 10) f) (t:HA P w K mg base T29):HA P w K mg base T30 :=
 aw (aP XI Gn ["thing","least","most"] ["thing","least","most"] bc A (by walk_at "d") (by delta bc; walk_at "b")) t
def dg:FnS:=(az (ag aO 3 (aa (ac 0) (aa (fC (.int 0)) (aa (fC (.int 9999)) ah)))))
def bf:List Dv→Option (Rs Dv):=bp 1 dg
def T31:bT:=("is_moment",2,["thing"],bf) :: T30
theorem mM (A:Af K "is_moment" (top 43) f) (t:HA P w K mg base T30):HA P w K mg base T31 :=
 aw (aP XI Gn ["thing"] ["thing"] dg A (by walk_at "d") (by delta dg; walk_at "b")) t
def aT:FnS:=(az (vOr (f2 isN (ac 0) (fC .non)) (ag bf 1 (aa (ac 0) ah))))
def ar:List Dv→Option (Rs Dv):=bp 1 aT
def T32:bT:=("is_moment_or_none",3,["thing"],ar) :: T31
theorem gW (A:Af K "is_moment_or_none" (top 44) f) (t:HA P w K mg base T31):HA P w K mg base T32 :=
 aw (aP XI Gn ["thing"] ["thing"] aT A (by walk_at "d") (by delta aT; walk_at "b")) t
def eX:FnS:=(az (ag cW 4 (aa (ac 0) (aa (fC (.str "abcdefghijklmnopqrstuvwxyzABCDEFGHIJKLMNOPQRSTUVWXYZ0123456789-_")) (aa (fC (.int 1)) (aa (fC (.int 10)) ah))))))
def aB:List Dv→Option (Rs Dv):=bp 1 eX
def T33:bT:=("is_note_name",2,["thing"],aB) :: T32
theorem j4 (A:Af K "is_note_name" (top 64) f) (t:HA P w K mg base T32):HA P w K mg base T33 :=
 aw (aP XI Gn ["thing"] ["thing"] eX A (by walk_at "d") (by delta eX; walk_at "b")) t
def iY:FnS:=(az (vOr (f2 eqX (ac 0) (fC (.str "any"))) (f2 eqX (ac 0) (fC (.str "near")))))
def dL:List Dv→Option (Rs Dv):=bp 1 iY
def T34:bT:=("is_reach",1,["thing"],dL) :: T33
theorem om (A:Af K "is_reach" (top 66) f) (t:HA P w K mg base T33):HA P w K mg base T34 :=
 aw (aP XI Gn ["thing"] ["thing"] iY A (by walk_at "d") (by delta iY; walk_at "b")) t
def iZ:FnS:=(au (aQ (bOr (bh (fB (f1 (cu bx) (ac 0)))) (fB (f2 gtD (fB1 gZ (aa (ac 0) ah)) (fC (.int 12))))) (az (fC (.bl d_))) (fun ρ=>a_ (.nx ρ))) (az (fB1 iA (aa (bX [] (dr (ac 0)) ck (cK (f2 leX (fC (.str "!")) (ac 0)) (cK (f2 leX (ac 0) (fC (.str "~"))) (f2 lZ (ac 0) (fC (.str ";,=")))))) ah))))
def bj:List Dv→Option (Rs Dv):=bp 1 iZ
def T35:bT:=("is_worth",1,["thing"],bj) :: T34
theorem oq (A:Af K "is_worth" (top 65) f) (t:HA P w K mg base T34):HA P w K mg base T35 :=
 aw (aP XI Gn ["thing"] ["thing"] iZ A (by walk_at "d") (by delta iZ; walk_at "b")) t
def iH:FnS:=(au (aQ (bh (fB (ag bQ 2 (aa (ac 0) (aa (fC (.int 10)) ah))))) (az (fC (.bl d_))) (fun ρ=>a_ (.nx ρ))) (au (aQ (bOr (bh (fB (ag bf 1 (aa (f2 ixD (ac 0) (fC (.int 8))) ah)))) (bh (fB (ag bf 1 (aa (f2 ixD (ac 0) (fC (.int 9))) ah))))) (az (fC (.bl d_))) (fun ρ=>a_ (.nx ρ))) (az (fB1 iA (aa (bK (aa (ag aB 1 (aa (f2 ixD (ac 0) (fC (.int 0))) ah)) (aa (ag bj 1 (aa (f2 ixD (ac 0) (fC (.int 1))) ah)) (aa (ag bJ 1 (aa (f2 ixD (ac 0) (fC (.int 2))) ah)) (aa (f1 (cu aD) (f2 ixD (ac 0) (fC (.int 3)))) (aa (ag bA 1 (aa (f2 ixD (ac 0) (fC (.int 4))) ah)) (aa (ag ar 1 (aa (f2 ixD (ac 0) (fC (.int 5))) ah)) (aa (f1 (cu aD) (f2 ixD (ac 0) (fC (.int 6)))) (aa (ag dL 1 (aa (f2 ixD (ac 0) (fC (.int 7))) ah)) (aa (f2 leX (f2 ixD (ac 0) (fC (.int 8))) (f2 ixD (ac 0) (fC (.int 9)))) ah)))))))))) ah)))))
def ef:List Dv→Option (Rs Dv):=bp 1 iH
def T36:bT:=("is_note",4,["thing"],ef) :: T35
theorem qH (A:Af K "is_note" (top 88) f) (t:HA P w K mg base T35):HA P w K mg base T36 :=
 aw (aP XI Gn ["thing"] ["thing"] iH A (by walk_at "d") (by delta iH; walk_at "b")) t
def iI:FnS:=(au (aQ (bOr (bh (fB (f1 (cu bB) (ac 0)))) (fB (f2 gtD (fB1 gZ (aa (ac 0) ah)) (fC (.int 20))))) (az (fC (.bl d_))) (fun ρ=>a_ (.nx ρ))) (au (aQ (bh (fB (fB1 iA (aa (bX [] (dr (ac 0)) ck (ag ef 1 (aa (ac 0) ah))) ah)))) (az (fC (.bl d_))) (fun ρ=>a_ (.nx ρ))) (az (cK (ag eR 1 (aa (ac 0) ah)) (ag cq 1 (aa (ac 0) ah))))))
def iJ:List Dv→Option (Rs Dv):=bp 1 iI
def T37:bT:=("is_jar",5,["thing"],iJ) :: T36
theorem uh (A:Af K "is_jar" (top 99) f) (t:HA P w K mg base T36):HA P w K mg base T37 :=
 aw (aP XI Gn ["thing"] ["thing"] iI A (by walk_at "d") (by delta iI; walk_at "b")) t
def fR:FnS:=(aQ (bh (fB (ag iJ 1 (aa (ac 0) ah)))) (aC 5 (fC (.str "this is no jar"))) (fun ρ=>a_ (.nx ρ)))
def cf:List Dv→Option (Rs Dv):=eE 1 fR
def TE2:bT:=("need_jar",6,["thing"],cf) :: TE1
theorem ot (A:Af K "need_jar" (top 102) f) (t:HA P w K mg base T37) (te:HAE P w K mg base TE1):HAE P w K mg base TE2 :=
 bL (ci XI Gn ["thing"] ["thing"] fR A (by walk_at "d") (by delta fR; walk_at "b")) te
def dq:FnS:=(aQ (bh (fB (ag bf 1 (aa (ac 0) ah)))) (aC 6 (fC (.str "this is no moment"))) (fun ρ=>a_ (.nx ρ)))
def bd:List Dv→Option (Rs Dv):=eE 1 dq
def TE3:bT:=("need_moment",3,["thing"],bd) :: TE2
theorem kj (A:Af K "need_moment" (top 45) f) (t:HA P w K mg base T37) (te:HAE P w K mg base TE2):HAE P w K mg base TE3 :=
 bL (ci XI Gn ["thing"] ["thing"] dq A (by walk_at "d") (by delta dq; walk_at "b")) te
def j5:FnS:=(au (aQ (bh (fB (f1 (cu bx) (ac 0)))) (az (fC (.bl d_))) (fun ρ=>a_ (.nx ρ))) (au (aQ (fB (fM (l4 Jv) (ac 0) (aa (fC (.str "*.")) ah))) (az (ag bJ 1 (aa (qT (ac 0) (cg (fC (.int 2))) dc) ah))) (fun ρ=>a_ (.nx ρ))) (au (aQ (fB (fM (l4 Jv) (ac 0) (aa (fC (.str "!")) ah))) (az (cK (f2 inD (fC (.str ".")) (ac 0)) (ag bJ 1 (aa (qT (ac 0) (cg (fC (.int 1))) dc) ah)))) (fun ρ=>a_ (.nx ρ))) (az (ag bJ 1 (aa (ac 0) ah))))))
def mO:List Dv→Option (Rs Dv):=bp 1 j5
def T38:bT:=("is_rule",4,["thing"],mO) :: T37
theorem qI (A:Af K "is_rule" (top 20) f) (t:HA P w K mg base T37):HA P w K mg base T38 :=
 aw (aP XI Gn ["thing"] ["thing"] j5 A (by walk_at "d") (by delta j5; walk_at "b")) t
def i5:FnS:=(au (aQ (bOr (bh (fB (f1 (cu bB) (ac 0)))) (fB (f2 gtD (fB1 gZ (aa (ac 0) ah)) (fC (.int 8))))) (az (fC (.bl d_))) (fun ρ=>a_ (.nx ρ))) (au (aQ (bh (fB (fB1 iA (aa (bX [] (dr (ac 0)) ck (ag mO 1 (aa (ac 0) ah))) ah)))) (az (fC (.bl d_))) (fun ρ=>a_ (.nx ρ))) (az (fB1 iA (aa (bX [("thing",0)] (fun ρ=>bnd ((aa (fC (.int 1)) (aa (fB1 gZ (aa (ac 0) ah)) ah)) ρ) uT) ck (f2 ltX (f2 ixD (ac 1) (f2 xg (ac 0) (fC (.int 1)))) (f2 ixD (ac 1) (ac 0)))) ah)))))
def dh:List Dv→Option (Rs Dv):=bp 1 i5
def T39:bT:=("is_table",5,["thing"],dh) :: T38
theorem ou (A:Af K "is_table" (top 21) f) (t:HA P w K mg base T38):HA P w K mg base T39 :=
 aw (aP XI Gn ["thing"] ["thing"] i5 A (by walk_at "d") (by delta i5; walk_at "b")) t
def dG:FnS:=(aQ (bh (fB (ag dh 1 (aa (ac 0) ah)))) (aC 1 (fC (.str "this is no table"))) (fun ρ=>a_ (.nx ρ)))
def bF:List Dv→Option (Rs Dv):=eE 1 dG
def TE4:bT:=("need_table",6,["thing"],bF) :: TE3
theorem ly (A:Af K "need_table" (top 22) f) (t:HA P w K mg base T39) (te:HAE P w K mg base TE3):HAE P w K mg base TE4 :=
 bL (ci XI Gn ["thing"] ["thing"] dG A (by walk_at "d") (by delta dG; walk_at "b")) te
def bU:FnS:=(au (aS (al bF 1 (aa (ac 0) ah))) (au (aS (al cf 1 (aa (ac 1) ah))) (au (aS (al ce 1 (aa (ac 2) ah))) (aS (al bd 1 (aa (ac 3) ah))))))
def cx:List Dv→Option (Rs Dv):=eE 4 bU
def TE5:bT:=("need_sending",7,["table","jar","ask","now"],cx) :: TE4
theorem j6 (A:Af K "need_sending" (top 112) f) (te:HAE P w K mg base TE4):HAE P w K mg base TE5 :=
 bL (ci XI Gn ["table","jar","ask","now"] ["table","jar","ask","now"] bU A (by walk_at "d") (by delta bU; walk_at "b")) te
def j7:FnS:=(au (aS (al cx 4 (aa (ac 0) (aa (ac 1) (aa (ac 2) (aa (ac 3) ah)))))) (au (ba 4 (cj 1 [("table",0),("ask",2),("now",3)] (dr (ac 1)) (gN 0) (a_ (fB (ag mL 4 (aa (ac 1) (aa (ac 0) (aa (ac 2) (aa (ac 3) ah))))))) (ac 0))) (az (fB1 (qA (Ay 1 (f1 xh (fB1 gZ (aa (f2 ixD (ac 0) (fC (.int 4))) ah))))) (aa (ac 4) ah)))))
def eY:List Dv→Option (Rs Dv):=eE 5 j7
def TU1:bT:=("sent",8,["table","jar","ask","now"],eY) :: TU0
theorem zF (A:Af K "sent" (top 113) f) (t:HA P w K mg base T39) (te:HAE P w K mg base TE5) (tu:xF P w K mg base Pt qL TU0) (ct:ctB K f Pt=e_):xF P w K mg base Pt qL TU1 :=
 ua (wf (CT:=fun cdv=>mB K cdv Pt) XI Gn ["table","jar","ask","now","going"] ["table","jar","ask","now"] j7 A (by walk_at "d") (fun _ Fn=>GC ct Fn) (by delta j7; walk_at "b")) tu
def cy:FnS:=(az (fB1 fX (aa (bX [("now",1)] (dr (ac 0)) (a_ (bh (fB (ag aZ 2 (aa (ac 0) (aa (ac 1) ah)))))) (ac 0)) ah)))
def br:List Dv→Option (Rs Dv):=bp 2 cy
def T40:bT:=("without_ended",2,["notes","now"],br) :: T39
theorem jv (A:Af K "without_ended" (top 105) f) (t:HA P w K mg base T39):HA P w K mg base T40 :=
 aw (aP XI Gn ["notes","now"] ["notes","now"] cy A (by walk_at "d") (by delta cy; walk_at "b")) t
def iK:FnS:=(au (aS (al cf 1 (aa (ac 0) ah))) (au (aS (al bd 1 (aa (ac 1) ah))) (az (ag br 2 (aa (ac 0) (aa (ac 1) ah))))))
def jA:List Dv→Option (Rs Dv):=eE 2 iK
def TE6:bT:=("swept",7,["jar","now"],jA) :: TE5
theorem wq (A:Af K "swept" (top 104) f) (t:HA P w K mg base T40) (te:HAE P w K mg base TE5):HAE P w K mg base TE6 :=
 bL (ci XI Gn ["jar","now"] ["jar","now"] iK A (by walk_at "d") (by delta iK; walk_at "b")) te
def aK:FnS:=(aQ (fB (f2 gtD (fB1 gZ (aa (ac 0) ah)) (fC (.int 20)))) (aC 5 (fC (.str "these are more notes than a jar has"))) (fun ρ=>a_ (.nx ρ)))
def aL:List Dv→Option (Rs Dv):=eE 1 aK
def TE7:bT:=("need_no_more_than_a_jar_has",1,["notes"],aL) :: TE6
theorem dw (A:Af K "need_no_more_than_a_jar_has" (top 103) f) (te:HAE P w K mg base TE6):HAE P w K mg base TE7 :=
 bL (ci XI Gn ["notes"] ["notes"] aK A (by walk_at "d") (by delta aK; walk_at "b")) te
def cQ:FnS:=(az (ag cW 4 (aa (ac 0) (aa (fC (.str "0123456789")) (aa (fC (.int 1)) (aa (fC (.int 4)) ah))))))
def cR:List Dv→Option (Rs Dv):=bp 1 cQ
def T41:bT:=("is_written_moment",2,["text"],cR) :: T40
theorem gX (A:Af K "is_written_moment" (top 69) f) (t:HA P w K mg base T40):HA P w K mg base T41 :=
 aw (aP XI Gn ["text"] ["text"] cQ A (by walk_at "d") (by delta cQ; walk_at "b")) t
def eZ:FnS:=(au (aQ (fB (f2 eqX (ac 0) (fC (.str "safe")))) (az (bS (aa (fC (.int 6)) (aa (fC (.bl e_)) ah)))) (fun ρ=>a_ (.nx ρ))) (au (aQ (fB (ag dL 1 (aa (ac 0) ah))) (az (bS (aa (fC (.int 7)) (aa (ac 0) ah)))) (fun ρ=>a_ (.nx ρ))) (au (ba 1 (fM (k8) (ac 0) (aa (fC (.str " ")) ah))) (au (ba 2 (f2 ixD (ac 1) (fC (.int 0)))) (au (ba 3 (f2 ixD (ac 1) (fC (.int 2)))) (au (aQ (cH (fB (f2 eqX (ac 2) (fC (.str "for")))) (fB (ag bJ 1 (aa (ac 3) ah)))) (az (bS (aa (fC (.int 2)) (aa (ac 3) ah)))) (fun ρ=>a_ (.nx ρ))) (au (aQ (cH (fB (f2 eqX (ac 2) (fC (.str "under")))) (fB (ag bA 1 (aa (ac 3) ah)))) (az (bS (aa (fC (.int 3)) (aa (ac 3) ah)))) (fun ρ=>a_ (.nx ρ))) (au (aQ (cH (fB (f2 eqX (ac 2) (fC (.str "until")))) (fB (ag cR 1 (aa (ac 3) ah)))) (az (bS (aa (fC (.int 4)) (aa (fB1 EB (aa (ac 3) ah)) ah)))) (fun ρ=>a_ (.nx ρ))) (au (aQ (cH (fB (f2 eqX (ac 2) (fC (.str "lasts")))) (fB (ag cR 1 (aa (ac 3) ah)))) (az (bS (aa (fC (.int 5)) (aa (fB1 EB (aa (ac 3) ah)) ah)))) (fun ρ=>a_ (.nx ρ))) (az (fC .non)))))))))))
def aU:List Dv→Option (Rs Dv):=bp 4 eZ
def T42:bT:=("what_is_told",4,["part"],aU) :: T41
theorem j8 (A:Af K "what_is_told" (top 70) f) (t:HA P w K mg base T41):HA P w K mg base T42 :=
 aw (aP XI Gn ["part","pieces","word","rest"] ["part"] eZ A (by walk_at "d") (by delta eZ; walk_at "b")) t
def bq:ji:=(dI (eK 5 (ag aU 1 (aa (ac 4) ah))) (oIf (fB (f2 cY (ac 5) (fC .non))) (pI (f2 ixD (ac 5) (fC (.int 0))) (f2 ixD (ac 5) (fC (.int 1)))) Aq))
def da:FnS:=(au (aQ (bh (fB (f1 (cu bx) (ac 0)))) (aC 4 (fC (.str "this is no text"))) (fun ρ=>a_ (.nx ρ))) (au (ba 1 (cj 1 [] (dr (fM (fW) (ac 0) (aa (fC (.str ";")) ah))) (gN 0) ck (fM (jO) (ac 0) (aa (fC (.str " ")) ah)))) (au (ba 2 (fM (k8) (f2 ixD (ac 1) (fC (.int 0))) (aa (fC (.str "=")) ah))) (au (aQ (bOr (fB (f2 eqX (f2 ixD (ac 2) (fC (.int 1))) (fC (.str "")))) (bOr (bh (fB (ag aB 1 (aa (f2 ixD (ac 2) (fC (.int 0))) ah)))) (bh (fB (ag bj 1 (aa (f2 ixD (ac 2) (fC (.int 2))) ah)))))) (aC 4 (fC (.str "the first part is no note's name, = and worth"))) (fun ρ=>a_ (.nx ρ))) (sJ 3 (aa (f2 ixD (ac 2) (fC (.int 0))) (aa (f2 ixD (ac 2) (fC (.int 2))) (aa (fC .non) (aa (fC .non) (aa (fC .non) (aa (fC .non) (aa (fC (.bl d_)) (aa (fC (.str "any")) ah)))))))) (dI (sK 4 [4,5] (dr (qT (ac 1) (cg (fC (.int 1))) dc)) bq) (sE 3 (fB1 fX (aa (ac 3) ah)))))))))
def aW:List Dv→Option (Rs Dv):=eE 6 da
def TE8:bT:=("read_given",5,["text"],aW) :: TE7
theorem lz (A:Af K "read_given" (top 71) f) (t:HA P w K mg base T42) (te:HAE P w K mg base TE7):HAE P w K mg base TE8 :=
 bL (ci XI Gn ["text","parts","first","given","part","told"] ["text"] da A (by walk_at "d") (by delta da bq; walk_at "b")) te
def bt:FnS:=(au (aS (al bF 1 (aa (ac 0) ah))) (au (aS (al cf 1 (aa (ac 1) ah))) (au (aS (al ce 1 (aa (ac 2) ah))) (au (ba 5 (al aW 1 (aa (ac 3) ah))) (au (aS (al bd 1 (aa (ac 4) ah))) (az (ac 5)))))))
def ay:List Dv→Option (Rs Dv):=eE 6 bt
def TE9:bT:=("read_what_is_given",7,["table","jar","ask","text","now"],ay) :: TE8
theorem gC (A:Af K "read_what_is_given" (top 107) f) (te:HAE P w K mg base TE8):HAE P w K mg base TE9 :=
 bL (ci XI Gn ["table","jar","ask","text","now","given"] ["table","jar","ask","text","now"] bt A (by walk_at "d") (by delta bt; walk_at "b")) te
def gD:FnS:=(au (aQ (fB (f2 isN (f2 ixD (ac 0) (fC (.int 5))) (fC .non))) (az (f2 ixD (ac 0) (fC (.int 4)))) (fun ρ=>a_ (.nx ρ))) (az (fB1 EA (aa (f2 cO (ac 1) (f2 ixD (ac 0) (fC (.int 5)))) (aa (fC (.int 9999)) ah)))))
def gE:List Dv→Option (Rs Dv):=bp 2 gD
def T43:bT:=("end_for",1,["given","now"],gE) :: T42
theorem qJ (A:Af K "end_for" (top 91) f) (t:HA P w K mg base T42):HA P w K mg base T43 :=
 aw (aP XI Gn ["given","now"] ["given","now"] gD A (by walk_at "d") (by delta gD; walk_at "b")) t
def ei:FnS:=(au (aQ (fB (f2 isN (f2 ixD (ac 1) (fC (.int 2))) (fC .non))) (az (f2 ixD (ac 0) (fC (.int 1)))) (fun ρ=>a_ (.nx ρ))) (az (f2 ixD (ac 1) (fC (.int 2)))))
def el:List Dv→Option (Rs Dv):=bp 2 ei
def T44:bT:=("house_for",1,["ask","given"],el) :: T43
theorem mP (A:Af K "house_for" (top 89) f) (t:HA P w K mg base T43):HA P w K mg base T44 :=
 aw (aP XI Gn ["ask","given"] ["ask","given"] ei A (by walk_at "d") (by delta ei; walk_at "b")) t
def iL:FnS:=(az (f2 eqX (ag cw 2 (aa (ac 0) (aa (ac 1) ah))) (ac 1)))
def fD:List Dv→Option (Rs Dv):=bp 2 iL
def T45:bT:=("is_open",4,["table","house"],fD) :: T44
theorem qK (A:Af K "is_open" (top 84) f) (t:HA P w K mg base T44):HA P w K mg base T45 :=
 aw (aP XI Gn ["table","house"] ["table","house"] iL A (by walk_at "d") (by delta iL; walk_at "b")) t
def fE:FnS:=(au (ba 3 (f2 ixD (ac 2) (fC (.int 2)))) (au (aQ (fB (f2 isN (ac 3) (fC .non))) (az (fC (.bl e_))) (fun ρ=>a_ (.nx ρ))) (az (cK (f2 eqX (ac 3) (f2 ixD (ac 1) (fC (.int 1)))) (ag fD 2 (aa (ac 0) (aa (ac 3) ah)))))))
def cz:List Dv→Option (Rs Dv):=bp 4 fE
def T46:bT:=("is_exact",5,["table","ask","given"],cz) :: T45
theorem ow (A:Af K "is_exact" (top 85) f) (t:HA P w K mg base T45):HA P w K mg base T46 :=
 aw (aP XI Gn ["table","ask","given","house"] ["table","ask","given"] fE A (by walk_at "d") (by delta fE; walk_at "b")) t
def bV:FnS:=(au (aQ (bh (fB (ag bQ 2 (aa (ac 0) (aa (fC (.int 8)) ah))))) (az (fC (.bl d_))) (fun ρ=>a_ (.nx ρ))) (az (fB1 iA (aa (bK (aa (ag aB 1 (aa (f2 ixD (ac 0) (fC (.int 0))) ah)) (aa (ag bj 1 (aa (f2 ixD (ac 0) (fC (.int 1))) ah)) (aa (vOr (f2 isN (f2 ixD (ac 0) (fC (.int 2))) (fC .non)) (ag bJ 1 (aa (f2 ixD (ac 0) (fC (.int 2))) ah))) (aa (vOr (f2 isN (f2 ixD (ac 0) (fC (.int 3))) (fC .non)) (ag bA 1 (aa (f2 ixD (ac 0) (fC (.int 3))) ah))) (aa (ag ar 1 (aa (f2 ixD (ac 0) (fC (.int 4))) ah)) (aa (ag ar 1 (aa (f2 ixD (ac 0) (fC (.int 5))) ah)) (aa (f1 (cu aD) (f2 ixD (ac 0) (fC (.int 6)))) (aa (ag dL 1 (aa (f2 ixD (ac 0) (fC (.int 7))) ah)) ah))))))))) ah))))
def bI:List Dv→Option (Rs Dv):=bp 1 bV
def T47:bT:=("is_given",4,["thing"],bI) :: T46
theorem oy (A:Af K "is_given" (top 67) f) (t:HA P w K mg base T46):HA P w K mg base T47 :=
 aw (aP XI Gn ["thing"] ["thing"] bV A (by walk_at "d") (by delta bV; walk_at "b")) t
def dH:FnS:=(aQ (bh (fB (ag bI 1 (aa (ac 0) ah)))) (aC 4 (fC (.str "this can't be given"))) (fun ρ=>a_ (.nx ρ)))
def db:List Dv→Option (Rs Dv):=eE 1 dH
def GF:bT:=("need_given",5,["thing"],db) :: TE9
theorem lA (A:Af K "need_given" (top 68) f) (t:HA P w K mg base T47) (te:HAE P w K mg base TE9):HAE P w K mg base GF :=
 bL (ci XI Gn ["thing"] ["thing"] dH A (by walk_at "d") (by delta dH; walk_at "b")) te
def gF:FnS:=(aQ (bh (fB (ag bA 1 (aa (ac 0) ah)))) (aC 2 (fC (.str "this is no path"))) (fun ρ=>a_ (.nx ρ)))
def jj:List Dv→Option (Rs Dv):=eE 1 gF
def GG:bT:=("need_path",3,["thing"],jj) :: GF
theorem mQ (A:Af K "need_path" (top 33) f) (t:HA P w K mg base T47) (te:HAE P w K mg base GF):HAE P w K mg base GG :=
 bL (ci XI Gn ["thing"] ["thing"] gF A (by walk_at "d") (by delta gF; walk_at "b")) te
def j9:FnS:=(au (aS (al jj 1 (aa (ac 0) ah))) (au (ba 1 (fM (Et Ro) (ac 0) (aa (fC (.str "/")) ah))) (au (aQ (fB (f2 eqX (ac 1) (fC (.int 0)))) (az (fC (.str "/"))) (fun ρ=>a_ (.nx ρ))) (az (qT (ac 0) dc (cg (ac 1)))))))
def iM:List Dv→Option (Rs Dv):=eE 2 j9
def GH:bT:=("folder",4,["path"],iM) :: GG
theorem ui (A:Af K "folder" (top 34) f) (te:HAE P w K mg base GG):HAE P w K mg base GH :=
 bL (ci XI Gn ["path","place"] ["path"] j9 A (by walk_at "d") (by delta j9; walk_at "b")) te
def ez:FnS:=(au (aQ (fB (f2 isN (f2 ixD (ac 1) (fC (.int 3))) (fC .non))) (az (al iM 1 (aa (f2 ixD (ac 0) (fC (.int 2))) ah))) (fun ρ=>a_ (.nx ρ))) (az (f2 ixD (ac 1) (fC (.int 3)))))
def di:List Dv→Option (Rs Dv):=eE 2 ez
def GI:bT:=("path_for",5,["ask","given"],di) :: GH
theorem oz (A:Af K "path_for" (top 90) f) (te:HAE P w K mg base GH):HAE P w K mg base GI :=
 bL (ci XI Gn ["ask","given"] ["ask","given"] ez A (by walk_at "d") (by delta ez; walk_at "b")) te
def bO:FnS:=(au (ba 3 (f2 ixD (ac 2) (fC (.int 0)))) (au (aQ (fB (fM (l4 Jv) (ac 3) (aa (fC (.str "safe-")) ah))) (az (f2 ixD (ac 2) (fC (.int 6)))) (fun ρ=>a_ (.nx ρ))) (au (aQ (fB (fM (l4 Jv) (ac 3) (aa (fC (.str "own-")) ah))) (az (cK (f2 ixD (ac 2) (fC (.int 6))) (cK (ag cz 3 (aa (ac 0) (aa (ac 1) (aa (ac 2) ah)))) (f2 eqX (f2 ixD (ac 2) (fC (.int 3))) (fC (.str "/")))))) (fun ρ=>a_ (.nx ρ))) (az (fC (.bl e_))))))
def bw:List Dv→Option (Rs Dv):=bp 4 bO
def T48:bT:=("keeps_its_mark",6,["table","ask","given"],bw) :: T47
theorem i7 (A:Af K "keeps_its_mark" (top 86) f) (t:HA P w K mg base T47):HA P w K mg base T48 :=
 aw (aP XI Gn ["table","ask","given","name"] ["table","ask","given"] bO A (by walk_at "d") (by delta bO; walk_at "b")) t
def bH:FnS:=(au (aS (al bF 1 (aa (ac 0) ah))) (au (aS (al ce 1 (aa (ac 1) ah))) (au (aS (al db 1 (aa (ac 2) ah))) (au (ba 3 (f2 ixD (ac 2) (fC (.int 2)))) (au (aQ (cH (fB (f2 cY (ac 3) (fC .non))) (bh (fB (ag aI 2 (aa (f2 ixD (ac 1) (fC (.int 1))) (aa (ac 3) ah)))))) (az (fC (.str "foreign"))) (fun ρ=>a_ (.nx ρ))) (au (aQ (cH (fB (f2 cY (ac 3) (fC .non))) (cH (fB (f2 neX (ac 3) (f2 ixD (ac 1) (fC (.int 1))))) (fB (ag fD 2 (aa (ac 0) (aa (ac 3) ah)))))) (az (fC (.str "open"))) (fun ρ=>a_ (.nx ρ))) (au (aQ (cH (fB (f2 ixD (ac 2) (fC (.int 6)))) (bh (fB (f2 ixD (ac 1) (fC (.int 0)))))) (az (fC (.str "unsafe"))) (fun ρ=>a_ (.nx ρ))) (au (aQ (bh (fB (ag bw 3 (aa (ac 0) (aa (ac 1) (aa (ac 2) ah)))))) (az (fC (.str "marked"))) (fun ρ=>a_ (.nx ρ))) (au (aQ (cH (fB (f2 eqX (f2 ixD (ac 2) (fC (.int 7))) (fC (.str "near")))) (bh (fB (ag aj 2 (aa (ac 0) (aa (ac 1) ah)))))) (az (fC (.str "far"))) (fun ρ=>a_ (.nx ρ))) (az (fC .non)))))))))))
def aJ:List Dv→Option (Rs Dv):=eE 4 bH
def GJ:bT:=("why_refused",7,["table","ask","given"],aJ) :: GI
theorem kl (A:Af K "why_refused" (top 87) f) (t:HA P w K mg base T48) (te:HAE P w K mg base GI):HAE P w K mg base GJ :=
 bL (ci XI Gn ["table","ask","given","house"] ["table","ask","given"] bH A (by walk_at "d") (by delta bH; walk_at "b")) te
def lB:FnS:=(au (aS (al bF 1 (aa (ac 0) ah))) (au (aS (al ce 1 (aa (ac 1) ah))) (au (aS (al db 1 (aa (ac 2) ah))) (au (aS (al bd 1 (aa (ac 3) ah))) (au (aQ (fB (f2 cY (al aJ 3 (aa (ac 0) (aa (ac 1) (aa (ac 2) ah)))) (fC .non))) (aC 4 (fC (.str "this may not be given by this ask"))) (fun ρ=>a_ (.nx ρ))) (az (bS (aa (f2 ixD (ac 2) (fC (.int 0))) (aa (f2 ixD (ac 2) (fC (.int 1))) (aa (ag el 2 (aa (ac 1) (aa (ac 2) ah))) (aa (ag cz 3 (aa (ac 0) (aa (ac 1) (aa (ac 2) ah)))) (aa (al di 2 (aa (ac 1) (aa (ac 2) ah))) (aa (ag gE 2 (aa (ac 2) (aa (ac 3) ah))) (aa (f2 ixD (ac 2) (fC (.int 6))) (aa (f2 ixD (ac 2) (fC (.int 7))) (aa (ac 3) (aa (ac 3) ah)))))))))))))))))
def cT:List Dv→Option (Rs Dv):=eE 4 lB
def GK:bT:=("made",8,["table","ask","given","now"],cT) :: GJ
theorem zI (A:Af K "made" (top 92) f) (t:HA P w K mg base T48) (te:HAE P w K mg base GJ):HAE P w K mg base GK :=
 bL (ci XI Gn ["table","ask","given","now"] ["table","ask","given","now"] lB A (by walk_at "d") (by delta lB; walk_at "b")) te
def oA:FnS:=(au (ba 2 (cj 1 [("note",1)] (dr (ac 0)) (gN 0) (a_ (fB (f2 eqX (ag dF 1 (aa (ac 0) ah)) (ag dF 1 (aa (ac 1) ah))))) (ac 0))) (au (aQ (fB (f2 eqX (ac 2) (bK ah))) (az (f2 bP (ac 0) (bS (aa (ac 1) ah)))) (fun ρ=>a_ (.nx ρ))) (au (ba 3 (f2 bP (f2 bP (eD (ac 1) dc (cg (fC (.int 8)))) (bS (aa (f2 ixD (f2 ixD (ac 2) (fC (.int 0))) (fC (.int 8))) ah))) (eD (ac 1) (cg (f2 bP (fC (.int 8)) (fC (.int 1)))) dc))) (az (fB1 fX (aa (bX [("note",1),("newer",3)] (dr (ac 0)) ck (fIf (fB (f2 eqX (ag dF 1 (aa (ac 0) ah)) (ag dF 1 (aa (ac 1) ah)))) (ac 2) (ac 0))) ah))))))
def wt:List Dv→Option (Rs Dv):=bp 4 oA
def T49:bT:=("put",2,["jar","note"],wt) :: T48
theorem Dz (A:Af K "put" (top 106) f) (t:HA P w K mg base T48):HA P w K mg base T49 :=
 aw (aP XI Gn ["jar","note","same","newer"] ["jar","note"] oA A (by walk_at "d") (by delta oA; walk_at "b")) t
def gG:FnS:=(au (aQ (bOr (bh (fB (f2 ixD (ac 0) (fC (.int 6))))) (bOr (fB (ag aZ 2 (aa (ac 0) (aa (ac 2) ah)))) (fB (f2 neX (f2 ixD (ac 0) (fC (.int 0))) (f2 ixD (ac 1) (fC (.int 0))))))) (az (fC (.bl d_))) (fun ρ=>a_ (.nx ρ))) (au (aQ (cH (bh (fB (ag aI 2 (aa (f2 ixD (ac 1) (fC (.int 2))) (aa (f2 ixD (ac 0) (fC (.int 2))) ah))))) (bh (fB (ag aI 2 (aa (f2 ixD (ac 0) (fC (.int 2))) (aa (f2 ixD (ac 1) (fC (.int 2))) ah)))))) (az (fC (.bl d_))) (fun ρ=>a_ (.nx ρ))) (az (ag aE 2 (aa (f2 ixD (ac 1) (fC (.int 4))) (aa (f2 ixD (ac 0) (fC (.int 4))) ah))))))
def gH:List Dv→Option (Rs Dv):=bp 3 gG
def T50:bT:=("shadows",2,["old","note","now"],gH) :: T49
theorem qM (A:Af K "shadows" (top 109) f) (t:HA P w K mg base T49):HA P w K mg base T50 :=
 aw (aP XI Gn ["old","note","now"] ["old","note","now"] gG A (by walk_at "d") (by delta gG; walk_at "b")) t
def dj:FnS:=(au (ba 5 (al aJ 3 (aa (ac 0) (aa (ac 2) (aa (ac 3) ah))))) (au (aQ (fB (f2 cY (ac 5) (fC .non))) (az (ac 5)) (fun ρ=>a_ (.nx ρ))) (au (ba 6 (al cT 4 (aa (ac 0) (aa (ac 2) (aa (ac 3) (aa (ac 4) ah)))))) (au (aQ (cH (bh (fB (f2 ixD (ac 2) (fC (.int 0))))) (fB (fB1 zc (aa (bX [("now",4),("note",6)] (dr (ac 1)) ck (ag gH 3 (aa (ac 0) (aa (ac 2) (aa (ac 1) ah))))) ah)))) (az (fC (.str "shadowed"))) (fun ρ=>a_ (.nx ρ))) (au (aQ (fB (ag aZ 2 (aa (ac 6) (aa (ac 4) ah)))) (az (fC (.str "gone"))) (fun ρ=>a_ (.nx ρ))) (az (fC (.str "kept"))))))))
def bW:List Dv→Option (Rs Dv):=eE 7 dj
def GL:bT:=("word_of",9,["table","jar","ask","given","now"],bW) :: GK
theorem qN (A:Af K "word_of" (top 108) f) (t:HA P w K mg base T50) (te:HAE P w K mg base GK):HAE P w K mg base GL :=
 bL (ci XI Gn ["table","jar","ask","given","now","refused","note"] ["table","jar","ask","given","now"] dj A (by walk_at "d") (by delta dj; walk_at "b")) te
def cA:FnS:=(au (ba 5 (al bW 5 (aa (ac 0) (aa (ac 1) (aa (ac 2) (aa (ac 3) (aa (ac 4) ah))))))) (au (ba 6 (ag br 2 (aa (ac 1) (aa (ac 4) ah)))) (au (aQ (fB (f2 eqX (ac 5) (fC (.str "kept")))) (az (ag wt 2 (aa (ac 6) (aa (al cT 4 (aa (ac 0) (aa (ac 2) (aa (ac 3) (aa (ac 4) ah))))) ah)))) (fun ρ=>a_ (.nx ρ))) (au (aQ (fB (f2 eqX (ac 5) (fC (.str "gone")))) (au (ba 7 (ag dF 1 (aa (al cT 4 (aa (ac 0) (aa (ac 2) (aa (ac 3) (aa (ac 4) ah))))) ah))) (az (fB1 fX (aa (bX [("ended",7)] (dr (ac 6)) (a_ (fB (f2 neX (ag dF 1 (aa (ac 0) ah)) (ac 1)))) (ac 0)) ah)))) (fun ρ=>a_ (.nx ρ))) (az (ac 6))))))
def cB:List Dv→Option (Rs Dv):=eE 8 cA
def GM:bT:=("take_in",10,["table","jar","ask","given","now"],cB) :: GL
theorem qO (A:Af K "take_in" (top 111) f) (t:HA P w K mg base T50) (te:HAE P w K mg base GL):HAE P w K mg base GM :=
 bL (ci XI Gn ["table","jar","ask","given","now","word","notes","ended"] ["table","jar","ask","given","now"] cA A (by walk_at "d") (by delta cA; walk_at "b")) te
def fT:FnS:=(au (ba 5 (al ay 5 (aa (ac 0) (aa (ac 1) (aa (ac 2) (aa (ac 3) (aa (ac 4) ah))))))) (au (aQ (fB (fB1 zc (aa (bX [("now",4)] (dr (ac 1)) ck (f2 gtD (f2 ixD (ac 0) (fC (.int 9))) (ac 1))) ah))) (aC 6 (fC (.str "some note was used later than this moment"))) (fun ρ=>a_ (.nx ρ))) (au (ba 6 (al cB 5 (aa (ac 0) (aa (ac 1) (aa (ac 2) (aa (ac 5) (aa (ac 4) ah))))))) (au (aS (al aL 1 (aa (ac 6) ah))) (az (ac 6))))))
def fU:List Dv→Option (Rs Dv):=eE 7 fT
def HR:bT:=("taken",11,["table","jar","ask","text","now"],fU) :: GM
theorem wu (A:Af K "taken" (top 110) f) (te:HAE P w K mg base GM):HAE P w K mg base HR :=
 bL (ci XI Gn ["table","jar","ask","text","now","given","notes"] ["table","jar","ask","text","now"] fT A (by walk_at "d") (by delta fT; walk_at "b")) te
def oD:FnE:=(ag dv 2 (aa (ac 0) (aa (fC (.int 0)) ah)))
def oE:FnE:=(ag gO 3 (aa (ac 0) (aa (fC (.int 10)) (aa (fC (.int 5)) ah))))
def oF:FnE:=(f2 bP (fB1 Av (aa (f2 bP (bX [] (dr (ac 2)) ck (f2 ixD (ac 0) (fC (.int 9)))) (bK (aa (fC (.int 0)) ah))) ah)) (ag ae 3 (aa (ac 0) (aa (fC (.int 90)) (aa (fC (.int 9)) ah)))))
def oG:FnE:=(f2 bP (bS (aa (fC (.bl d_)) ah)) (eD (ag dJ 2 (aa (ac 0) (aa (fC (.int 91)) ah))) (cg (fC (.int 1))) dc))
def oH:FnE:=(ag du 3 (aa (ac 0) (aa (fC (.int 100)) (aa (f2 ixD (ac 4) (fC (.int 1))) ah))))
def lC:FnB:=(cH (fB (f2 neX (ac 2) (bS ah))) (fB (f2 gtD (ag ae 3 (aa (ac 0) (aa (fC (.int 120)) (aa (fC (.int 3)) ah)))) (fC (.int 0)))))
def lD:FnE:=(f2 ixD (ac 2) (ag ae 3 (aa (ac 0) (aa (fC (.int 121)) (aa (fB1 gZ (aa (ac 2) ah)) ah)))))
def oJ:FnE:=(f2 bP (bS (aa (fC (.bl d_)) (aa (f2 ixD (ac 6) (fC (.int 2))) ah))) (eD (ac 4) (cg (fC (.int 2))) dc))
def oK:FnE:=(f2 bP (f2 bP (bS (aa (f2 ixD (ac 6) (fC (.int 0))) (aa (f2 ixD (ac 5) (fC (.int 1))) (aa (fC .non) (aa (f2 ixD (ac 6) (fC (.int 4))) ah))))) (eD (ac 5) (cg (fC (.int 4))) (cg (fC (.int 6))))) (bS (aa (fC (.bl d_)) (aa (fC (.str "any")) ah))))
def oM:FnE:=(ag fU 5 (aa (ac 1) (aa (ac 2) (aa (ac 4) (aa (ag dZ 1 (aa (ac 5) ah)) (aa (ac 3) ah))))))
def oN:FnE:=(ag jA 2 (aa (ac 2) (aa (ac 3) ah)))
def oO:FnB:=(fB (f2 neX (bX [("_law_behind",7)] (dr (ac 8)) (a_ (cH (fB (f2 ixD (ac 0) (fC (.int 6)))) (fB (f2 eH (ac 0) (ac 1))))) (ac 0)) (bK ah)))
def oP:FnB:=(fB (f2 neX (bX [("_law_before",8)] (dr (ac 7)) (a_ (cH (fB (f2 ixD (ac 0) (fC (.int 6)))) (fB (f2 eH (ac 0) (ac 1))))) (ac 0)) (bK ah)))
def lE:FnE:=(ag eY 4 (aa (ac 1) (aa (ac 2) (aa (ac 4) (aa (ac 3) ah)))))
def oQ:FnB:=(bOr (fB (f2 neX (bX [("_law_jar_here",2)] (dr (ac 9)) (a_ (bOr (fB (f2 ixD (ac 0) (fC (.int 6)))) (fB (f2 eH (ac 0) (ac 1))))) (ac 0)) (bK ah))) (fB (f2 neX (fB1 ig (aa (ac 9) ah)) (fB1 gZ (aa (ac 9) ah)))))
def lF:FnE:=(ag eY 4 (aa (ac 1) (aa (ac 2) (aa (f2 bP (bS (aa (fC (.bl e_)) ah)) (eD (ac 4) (cg (fC (.int 1))) dc)) (aa (ac 3) ah)))))
def oR:FnB:=(fB (f2 neX (bX [("_law_safe",10)] (dr (ac 9)) (a_ (fB (f2 eH (ac 0) (ac 1)))) (ac 0)) (bK ah)))
def lG:FnE:=(ag eY 4 (aa (ac 1) (aa (ac 2) (aa (f2 bP (eD (ac 4) dc (cg (fC (.int 3)))) (bS (aa (fC .non) ah))) (aa (ac 3) ah)))))
def oU:FnB:=(fB (f2 neX (bX [("_law_home",11)] (dr (ac 9)) (a_ (fB (f2 eH (ac 0) (ac 1)))) (ac 0)) (bK ah)))
def lH:FnE:=(ag eY 4 (aa (ac 1) (aa (ac 2) (aa (f2 bP (f2 bP (eD (ac 4) dc (cg (fC (.int 2)))) (bS (aa (f2 bP (f2 ixD (ac 4) (fC (.int 2))) (fC (.str "/y"))) ah))) (eD (ac 4) (cg (fC (.int 3))) dc)) (aa (ac 3) ah)))))
def oV:FnB:=(fB (f2 neX (bX [("_law_longer",12)] (dr (ac 9)) (a_ (fB (f2 eH (ac 0) (ac 1)))) (ac 0)) (bK ah)))
def oW:FnB:=(fB (f2 eqX (ac 3) (fC (.int 0))))
def lI:FnE:=(al fU 5 (aa (ac 1) (aa (bS (aa (bS (aa (fC (.str "n")) (aa (fC (.str "")) (aa (fC (.str "a.b")) (aa (fC (.bl d_)) (aa (fC (.str "/")) (aa (fC .non) (aa (fC (.bl d_)) (aa (fC (.str "any")) (aa (fC (.int 0)) (aa (ac 3) ah))))))))))) ah)) (aa (ac 4) (aa (fC (.str "n=1")) (aa (f2 xg (ac 3) (fC (.int 1))) ah))))))
def uj:FnS:=(au (ba 1 oD) (au (ba 2 oE) (au (ba 3 oF) (au (ba 4 oG) (au (ba 5 oH) (au (aQ lC (au (ba 6 lD) (au (ba 4 oJ) (ba 5 oK))) (fun ρ=>a_ (.nx ρ))) (au (ba 7 oM) (au (ba 8 oN) (au (aQ oO (az (fC (.bl d_))) (fun ρ=>a_ (.nx ρ))) (au (aQ oP (az (fC (.bl d_))) (fun ρ=>a_ (.nx ρ))) (au (ba 9 lE) (au (aQ oQ (az (fC (.bl d_))) (fun ρ=>a_ (.nx ρ))) (au (ba 10 lF) (au (aQ oR (az (fC (.bl d_))) (fun ρ=>a_ (.nx ρ))) (au (ba 11 lG) (au (aQ oU (az (fC (.bl d_))) (fun ρ=>a_ (.nx ρ))) (au (ba 12 lH) (au (aQ oV (az (fC (.bl d_))) (fun ρ=>a_ (.nx ρ))) (au (aQ oW (az (fC (.bl e_))) (fun ρ=>a_ (.nx ρ))) (au (wg 6 13 lI (fC (.bl e_))) (az (fC (.bl d_)))))))))))))))))))))))
def ul:List Dv→Option (Rs Dv):=bp 13 uj
theorem DA {fd:JZ} (A:Fun K "law" "law" (top 124) f fd) (t:HA P w K mg base T50) (te:HAE P w K mg base HR) (tu:xF P w K mg base Pt qL TU1):FnOk P w K mg base CX0 12 f fd ["_law_script"] (spT Pt qL K ul 1) :=
 C0 (CT:=fun _=>True) ["_law_script","_law_table_here","_law_jar_here","_law_now","_law_ask_here","_law_given_here","_law_note","_law_behind","_law_before","_law_rows","_law_safe","_law_home","_law_longer"] ["_law_script"] uj (by kernel_rfl) (by kernel_rfl) A (CS (by kernel_rfl)) trivial (by delta uj oD oE oF oG oH lC lD oJ oK oM oN oO oP lE oQ lF oR lG oU lH oV oW lI; walk_at "b")
end
theorem af {K:f_} {x:Str} {st:Ky} (f:k_) (m:String:="law_notejar_k54_whole_safe_ones") (t:Nat:=853) (c:Nat:=Nat.pred f) (a:nsM K x=a_ (a_ (.ref f)):=by kernel_rfl) (l:K.lookup f=a_ ⟨x_ "function",ck,.func (LK x x (iQ st) (cM st) (aF st) .none .none .none (kS m t) ck (kR c) .none),#[]⟩:=by kernel_rfl) (cc:NI K (kR c) x=e_:=by kernel_rfl) (k:Ka K (.ref f)=e_:=by kernel_rfl):Af K x st f:=⟨a,⟨_,Bj l cc k⟩,k⟩
theorem all_mk {l:OI} {w:C_} {K:f_} {h:H_} {mg:Str→Option g_} {fa:k_} (X:K.In h) (G:h.Ns y_ mg) (hfa:mg "law"=a_ (.ref fa))
 {f1 f2 f3 f4 f5 f6 f7 f8 f9 f10 f11 f12 f13 f14 f15 f16 f17 f18 f19 f20 f21 f22 f23 f24 f25 f26 f27 f28 f29 f30 f31 f32 f33 f34 f35 f36 f37 f38 f39 f40 f41 f42 f43 f44 f45 f46 f47 f48 f49 f50 f51 f52 f53 f54 f55 f56 f57 f58 f59 f60 f61 f62 f63 f64 f65 f66 f67 f68 f69 fl:k_}
 (A1:Af K "_law_cell" (top 115) f1)
 (A2:Af K "_law_drawn" (top 116) f2)
 (A3:Af K "_law_name" (top 117) f3)
 (A4:Af K "_law_path" (top 119) f4)
 (A5:Af K "_law_ask" (top 120) f5)
 (A6:Af K "_law_given" (top 121) f6)
 (A7:Af K "_law_jar" (top 123) f7)
 (A8:Af K "_law_table" (top 118) f8)
 (A9:Af K "_law_text" (top 122) f9)
 (A10:Af K "ends_longest_first" (top 24) f10)
 (A11:Af K "behind_first_dot" (top 25) f11)
 (A12:Af K "is_told_open" (top 26) f12)
 (A13:Af K "find_open_end" (top 27) f13)
 (A14:Af K "find_own_end" (top 28) f14)
 (A15:Af K "comes_from_near" (top 48) f15)
 (A16:Af K "has_ended" (top 94) f16)
 (A17:Af K "lies_within" (top 23) f17)
 (A18:Af K "is_for" (top 95) f18)
 (A19:Af K "lies_under" (top 35) f19)
 (A20:Af K "goes" (top 96) f20)
 (A21:Af K "is_text_of" (top 9) f21)
 (A22:Af K "is_label" (top 18) f22)
 (A23:Af K "is_name" (top 19) f23)
 (A24:Af K "is_path" (top 32) f24)
 (A25:Af K "is_tuple_of" (top 11) f25)
 (A26:Af K "is_ask" (top 46) f26)
 (A27:Af K "need_ask" (top 47) f27)
 (A28:Af K "key" (top 93) f28)
 (A29:Af K "has_no_key_twice" (top 101) f29)
 (A30:Af K "is_by_made" (top 100) f30)
 (A31:Af K "is_whole_number" (top 10) f31)
 (A32:Af K "is_moment" (top 43) f32)
 (A33:Af K "is_moment_or_none" (top 44) f33)
 (A34:Af K "is_note_name" (top 64) f34)
 (A35:Af K "is_reach" (top 66) f35)
 (A36:Af K "is_worth" (top 65) f36)
 (A37:Af K "is_note" (top 88) f37)
 (A38:Af K "is_jar" (top 99) f38)
 (A39:Af K "need_jar" (top 102) f39)
 (A40:Af K "need_moment" (top 45) f40)
 (A41:Af K "is_rule" (top 20) f41)
 (A42:Af K "is_table" (top 21) f42)
 (A43:Af K "need_table" (top 22) f43)
 (A44:Af K "need_sending" (top 112) f44)
 (A45:Af K "sent" (top 113) f45)
 (A46:Af K "without_ended" (top 105) f46)
 (A47:Af K "swept" (top 104) f47)
 (A48:Af K "need_no_more_than_a_jar_has" (top 103) f48)
 (A49:Af K "is_written_moment" (top 69) f49)
 (A50:Af K "what_is_told" (top 70) f50)
 (A51:Af K "read_given" (top 71) f51)
 (A52:Af K "read_what_is_given" (top 107) f52)
 (A53:Af K "end_for" (top 91) f53)
 (A54:Af K "house_for" (top 89) f54)
 (A55:Af K "is_open" (top 84) f55)
 (A56:Af K "is_exact" (top 85) f56)
 (A57:Af K "is_given" (top 67) f57)
 (A58:Af K "need_given" (top 68) f58)
 (A59:Af K "need_path" (top 33) f59)
 (A60:Af K "folder" (top 34) f60)
 (A61:Af K "path_for" (top 90) f61)
 (A62:Af K "keeps_its_mark" (top 86) f62)
 (A63:Af K "why_refused" (top 87) f63)
 (A64:Af K "made" (top 92) f64)
 (A65:Af K "put" (top 106) f65)
 (A66:Af K "shadows" (top 109) f66)
 (A67:Af K "word_of" (top 108) f67)
 (A68:Af K "take_in" (top 111) f68)
 (A69:Af K "taken" (top 110) f69)
 (AL:Af K "law" (top 124) fl) (ma:CC.all (Go K)=e_) {Pt:k_} (ct:ctB K f45 Pt=e_) (bb:bmB K=e_) {C1 C2 C3 C4 C5 C6 CJ:k_} (cb:caB K [1,2,3,4,5,6] [0,C1,C2,C3,C4,C5,C6] CJ 7=e_) :
 ∃ fd:JZ,(∀ (s:h_) (v:g_),Oz s fd ⟨[v],[]⟩ [("_law_script",v)])∧∀ base:H_,K.In base→base.Ns y_ mg→FnOk l.prog w K mg base CX0 12 fa fd ["_law_script"] (spT Pt qL K ul 1):=by
 have e:=hfa.symm.trans (LU X G AL.a);cases e;have M:=CP X G CC ma;obtain ⟨fd,Fn⟩:=AL.F;refine ⟨fd,?_,fun base _ _=>?_⟩
 · obtain ⟨oc,od,kV,doc,pm,an,cdv,ct,osl,rfl,lk,hcd⟩:=Fn.ex;exact fun s v=>.of_eq rfl
 obtain ⟨xa,ca⟩:=Gy X G cb;have bi:=GD X G bb;have t0:HA l.prog w K mg base T0:=CO;have te0:HAE l.prog w K mg base TE0:=zi;have tl0:HAT l.prog w K mg base Pt qL TL0:=zr;have tu0:xF l.prog w K mg base Pt qL TU0:=we;have t1:=mF X G M bi xa ca A1 t0;have t2:=ln X G M bi xa ca A2 t1;have t3:=mG X G M bi xa ca A3 t2;have t4:=mH X G M bi xa ca A4 t3;have t5:=og X G M bi xa ca A5 t4;have t6:=ls X G M bi xa ca A6 t5;have t7:=oh X G M bi xa ca A7 t6;have t8:=lu X G M bi xa ca A8 t7;have t9:=mI X G M bi xa ca A9 t8;have t10:=gu X G M bi xa ca A10 t9;have t11:=ik X G M bi xa ca A11 t10;have t12:=jX X G M bi xa ca A12 t11;have t13:=ju X G M bi xa ca A13 t12;have t14:=jY X G M bi xa ca A14 t13;have t15:=iF X G M bi xa ca A15 t14;have t16:=mJ X G M bi xa ca A16 t15;have t17:=kh X G M bi xa ca A17 t16;have t18:=uf X G M bi xa ca A18 t17;have t19:=lv X G M bi xa ca A19 t18;have t20:=zE X G M bi xa ca A20 t19;have t21:=lw X G M bi xa ca A21 t20;have t22:=oi X G M bi xa ca A22 t21;have t23:=qF X G M bi xa ca A23 t22;have t24:=qG X G M bi xa ca A24 t23;have t25:=ki X G M bi xa ca A25 t24;have t26:=ug X G M bi xa ca A26 t25;have te1:=oj X G M bi xa ca A27 t26 te0;have t27:=Dy X G M bi xa ca A28 t26;have t28:=il X G M bi xa ca A29 t27;have t29:=lx X G M bi xa ca A30 t28;have t30:=iG X G M bi xa ca A31 t29;have t31:=mM X G M bi xa ca A32 t30;have t32:=gW X G M bi xa ca A33 t31;have t33:=j4 X G M bi xa ca A34 t32;have t34:=om X G M bi xa ca A35 t33;have t35:=oq X G M bi xa ca A36 t34;have t36:=qH X G M bi xa ca A37 t35;have t37:=uh X G M bi xa ca A38 t36;have te2:=ot X G M bi xa ca A39 t37 te1;have te3:=kj X G M bi xa ca A40 t37 te2;have t38:=qI X G M bi xa ca A41 t37;have t39:=ou X G M bi xa ca A42 t38;have te4:=ly X G M bi xa ca A43 t39 te3;have te5:=j6 X G M bi xa ca A44 te4;have tu1:=zF X G M bi xa ca A45 t39 te5 tu0 ct;have t40:=jv X G M bi xa ca A46 t39;have te6:=wq X G M bi xa ca A47 t40 te5;have te7:=dw X G M bi xa ca A48 te6;have t41:=gX X G M bi xa ca A49 t40;have t42:=j8 X G M bi xa ca A50 t41;have te8:=lz X G M bi xa ca A51 t42 te7;have te9:=gC X G M bi xa ca A52 te8;have t43:=qJ X G M bi xa ca A53 t42;have t44:=mP X G M bi xa ca A54 t43;have t45:=qK X G M bi xa ca A55 t44;have t46:=ow X G M bi xa ca A56 t45;have t47:=oy X G M bi xa ca A57 t46;have te10:=lA X G M bi xa ca A58 t47 te9;have te11:=mQ X G M bi xa ca A59 t47 te10;have te12:=ui X G M bi xa ca A60 te11;have te13:=oz X G M bi xa ca A61 te12;have t48:=i7 X G M bi xa ca A62 t47;have te14:=kl X G M bi xa ca A63 t48 te13;have te15:=zI X G M bi xa ca A64 t48 te14;have t49:=Dz X G M bi xa ca A65 t48;have t50:=qM X G M bi xa ca A66 t49;have te16:=qN X G M bi xa ca A67 t50 te15;have te17:=qO X G M bi xa ca A68 t50 te16;have te18:=wu X G M bi xa ca A69 te17;exact DA X G M bi xa ca Fn t50 te18 tu1
end G
set_option maxHeartbeats 4000000
namespace FD
open PySem PySem.Spec
open PySem.StrLaws PySem.Builtin PySem.Builtin.Str
def J (S:List Nat):List Nat→List (List Nat)→List Nat
 | p,[]=>p
 | p,q :: r=>p ++ (S ++ J S q r)
theorem at_iff {x sep:Str} {k:Nat}:At x sep x.length k↔k + sep.length≤x.length∧(x.cps.toList.drop k).take sep.length=sep.cps.toList:=by
 unfold At;rw [subAt_eq];simp
theorem um {x sep:Str} {c:Nat} {rest:List Nat} (hS:sep.cps.toList=c :: rest) {k:Nat} (h:At x sep x.length k):x.cps.toList[k]?=a_ c:=by
 obtain ⟨_,h2⟩:=at_iff.mp h;rw [hS] at h2;have h3:=congrArg (fun l=>l[0]?) h2;simp only [List.getElem?_cons_zero] at h3;have hl:0 < sep.length:=by
  show 0 < sep.cps.size;rw [← JB,hS];simp
 rw [Ob hl,NV] at h3;simpa using h3
theorem zJ {x sep:Str} {c:Nat} {rest:List Nat} (hS:sep.cps.toList=c :: rest) {p tl:List Nat} {a k:Nat} (hd:x.cps.toList.drop a=p ++ tl) (hp:c ∉ p) (h1:a≤k) (h2:k < a + p.length):¬ At x sep x.length k:=by
 intro h;have e:=um hS h;have e2:(x.cps.toList.drop a)[k - a]?=a_ c:=by rw [NV,show a + (k - a)=k by omega]; exact e
 rw [hd,KG (by omega)] at e2;exact hp (Ll e2)
theorem pO {x sep:Str} {c:Nat} {rest:List Nat} (hS:sep.cps.toList=c :: rest):∀ (parts:List (List Nat)) (p:List Nat) (a:Nat) (cuts:List Nat) (f:Nat),(∀ q∈p :: parts,c ∉ q)→x.cps.toList.drop a=J sep.cps.toList p parts→a≤x.length →
 ChainG x sep x.length a cuts f→(∀ k,f≤k→¬ At x sep x.length k)→(partsFrom x sep.length a cuts).map (fun s=>s.cps.toList)=p :: parts
 | [],p,a,cuts,f,hp,hd,ha,hG,hn=>by
  have hlen:x.cps.toList.length=x.length:=by simp [NK]
  have hno:∀ k,a≤k→¬ At x sep x.length k:=fun k hk h=>by
   have e:=um hS h;have e2:(x.cps.toList.drop a)[k - a]?=a_ c:=by rw [NV,show a + (k - a)=k by omega]; exact e
   rw [hd] at e2;exact hp p n_ (Ll e2)
  cases cuts with
  | nil =>
   show [(strSub x a x.length).cps.toList]=[p];rw [strSub_toList,hd];show [p.take (x.length - a)]=[p];have:p.length=x.length - a:=by
    have:=congrArg Nh hd;rw [M_,hlen] at this;exact this.symm
   rw [MX (by omega)]
  | cons k ks=>exact absurd hG.2.1 (hno k hG.1)
 | q :: r,p,a,cuts,f,hp,hd,ha,hG,hn=>by
  have hlen:x.cps.toList.length=x.length:=by simp [NK]
  have hsl:sep.cps.toList.length=sep.length:=by simp [NK]
  have hd':x.cps.toList.drop a=p ++ (sep.cps.toList ++ J sep.cps.toList q r):=hd;have hdp:x.cps.toList.drop (a + p.length)=sep.cps.toList ++ J sep.cps.toList q r:=by
   rw [← List.drop_drop,hd',List.drop_left]
  have hl1:=congrArg Nh hdp;rw [M_,hlen,Kf,hsl] at hl1;have hs0:0 < sep.length:=by rw [← hsl,hS]; simp
  have hat:At x sep x.length (a + p.length):=at_iff.mpr ⟨by omega,by rw [hdp,← hsl,List.take_left]⟩;have hbe:∀ k,a≤k→k < a + p.length→¬ At x sep x.length k:=fun k h1 h2=>zJ hS hd' (hp p n_) h1 h2;cases cuts with
  | nil=>exact absurd hat (hn _ (by have:f=a:=hG; omega))
  | cons k ks =>
   obtain ⟨g1,g2,g3,g4⟩:=hG;have ek:k=a + p.length:=by
    rcases Nat.lt_trichotomy k (a + p.length) with h | h | h
    · exact absurd g2 (hbe k g1 h)
    · exact h
    · exact absurd hat (g3 _ (by omega) h)
   subst ek;show (strSub x a (a + p.length)).cps.toList :: (partsFrom x sep.length (a + p.length + sep.length) ks).map (fun s=>s.cps.toList)=p :: q :: r;rw [pO hS r q (a + p.length + sep.length) ks f (fun z hz=>hp z (o_ _ hz)) (by rw [← List.drop_drop,hdp,← hsl,List.drop_left]) (by omega) g4 hn,strSub_toList,hd',show a + p.length - a=p.length by omega,List.take_left]
theorem uo {a b:Str} (h:a.cps.toList=b.cps.toList):a=b:=by
 obtain ⟨⟨a⟩⟩:=a; obtain ⟨⟨b⟩⟩:=b;simp at h;rw [h]
theorem io:∀ {l m:List Str},l.map (fun s=>s.cps.toList)=m.map (fun s=>s.cps.toList)→l=m
 | [],[],_=>rfl
 | a :: l,b :: m,h=>by
  simp only [Ju,Mw] at h;rw [uo h.1,io h.2]
 | [],_ :: _,h=>by simp at h
 | _ :: _,[],h=>by simp at h
theorem oX {x sep:Str} {c:Nat} {rest:List Nat} (hS:sep.cps.toList=c :: rest) (hk:KZ sep=1) {p:Str} {parts:List Str} (hp:∀ q∈p :: parts,c ∉ q.cps.toList) (hx:x.cps.toList=J sep.cps.toList p.cps.toList (parts.map fun s=>s.cps.toList)) :
 Le x sep=p :: parts:=by
 have hsl:sep.cps.toList.length=sep.length:=by simp [NK]
 have hlen:x.cps.toList.length=x.length:=by simp [NK]
 obtain ⟨f,hG,hn⟩:=occ_tight x sep (by rw [← hsl,hS]; simp);have main:=pO hS (parts.map fun s=>s.cps.toList) p.cps.toList 0 _ f (by
  intro q hq;rcases w_.mp hq with rfl | hq
  · exact hp p n_
  · obtain ⟨s,hs,rfl⟩:=Jz.mp hq;exact hp s (o_ _ hs)) (by rw [Ph]; exact hx) (JA _) hG hn
 have hx1:1≤KZ x:=by unfold KZ; split; omega; split <;> omega
 unfold Le;split
 · rename_i hc;rw [QY,decide_eq_true_eq,decide_eq_true_eq] at hc;rcases hc with h | h
   · cases parts with
     | nil=>rw [uo (a:=x) (b:=p) hx]
     | cons q r =>
      have:=congrArg Nh hx;rw [hlen] at this;simp only [Ju,J,Kf,hsl] at this;omega
   · omega
 · split
   · rename_i he;have e0:occurrences x sep 0 x.length (x.length + 1)=[]:=List.isEmpty_iff.mp he;rw [e0] at main;have m2:[(strSub x 0 x.length).cps.toList]=p.cps.toList :: (parts.map fun s=>s.cps.toList):=main;rw [sub_whole] at m2;exact io (l:=[x]) (m:=p :: parts) m2
   · rw [partsBetween_eq];exact io (by rw [main]; rfl)
end FD
namespace FD
open PySem PySem.Spec PyProof.Rows L2
theorem pP {elt:FnE} {cap:Ev} {α:Type} (en:α→Dv) (f:α→Dv):∀ {l:List α},(∀ a∈l,elt (cap.set 0 (a_ (en a)))=a_ (.ok (f a)))→r9 ck elt cap (l.map en)=a_ (l.map f)
 | [],_=>rfl
 | a :: l,h=>by
  have ih:=pP (elt:=elt) (cap:=cap) en f (l:=l) fun b hb=>h b (o_ _ hb);rw [Ju,Ju];unfold r9;dsimp only;rw [h a n_,ih]
theorem mR {tst:FnB} {elt:FnE} {cap:Ev} {α:Type} (en:α→Dv) (p:α→Bool) (f:α→Dv):∀ {l:List α},(∀ a∈l,tst (cap.set 0 (a_ (en a)))=a_ (.ok (p a))∧elt (cap.set 0 (a_ (en a)))=a_ (.ok (f a)))→r9 (a_ tst) elt cap (l.map en)=a_ ((l.filter p).map f)
 | [],_=>rfl
 | a :: l,h=>by
  have ih:=mR (tst:=tst) (elt:=elt) (cap:=cap) en p f (l:=l) fun b hb=>h b (o_ _ hb);obtain ⟨h1,h2⟩:=h a n_;rw [Ju];unfold r9;dsimp only;rw [h1,ih];cases q:p a with
  | true=>dsimp only; rw [h2,Op q]; rfl
  | false=>dsimp only; rw [Oq (by rw [q]; decide)]
theorem pQ {elt:FnE} {cap:Ev} {α:Type} (en:α→Dv) (f:α→Dv):∀ {l:List α},(∀ a∈l,elt (cap.set 0 (a_ (en a)))=a_ (.ok (f a)))→jq (gN 0) ck elt cap (l.map en)=a_ (l.map f)
 | [],_=>rfl
 | a :: l,h=>by
  have ih:=pQ (elt:=elt) (cap:=cap) en f (l:=l) fun b hb=>h b (o_ _ hb);rw [Ju,Ju];unfold jq;show (match elt (cap.set 0 (a_ (en a))) with | some (.ok y)=>_ | _=>_)=_
  rw [h a n_,ih]
theorem mS {tst:FnB} {elt:FnE} {cap:Ev} {α:Type} (en:α→Dv) (p:α→Bool) (f:α→Dv):∀ {l:List α},(∀ a∈l,tst (cap.set 0 (a_ (en a)))=a_ (.ok (p a))∧elt (cap.set 0 (a_ (en a)))=a_ (.ok (f a)))→jq (gN 0) (a_ tst) elt cap (l.map en)=a_ ((l.filter p).map f)
 | [],_=>rfl
 | a :: l,h=>by
  have ih:=mS (tst:=tst) (elt:=elt) (cap:=cap) en p f (l:=l) fun b hb=>h b (o_ _ hb);obtain ⟨h1,h2⟩:=h a n_;rw [Ju];unfold jq;show (match tst (cap.set 0 (a_ (en a))) with | some (.ok e_)=>_ | some (.ok d_)=>_ | _=>_)=_
  rw [h1,ih];cases q:p a with
  | true=>dsimp only; rw [h2,Op q]; rfl
  | false=>dsimp only; rw [Oq (by rw [q]; decide)]
theorem gR {cs:List (Str×Nat)} {src:FnA} {elt:FnE} {ρ:Ev} {α:Type} (en f:α→Dv) {l:List α} (hs:src ρ=a_ (.ok (l.map en))) (hl:l.length≤100000) (h:∀ a∈l,elt ((vk cs ρ).set 0 (a_ (en a)))=a_ (.ok (f a))):bX cs src ck elt ρ=a_ (.ok (.lst (l.map f))):=by
 unfold bX;rw [hs];show (match r9 ck elt (vk cs ρ) (l.map en) with | some ys=>_ | none=>_)=_
 rw [pP en f h];dsimp only;rw [if_pos ⟨by simpa using hl,by simpa using hl⟩]
theorem iN {cs:List (Str×Nat)} {src:FnA} {tst:FnB} {elt:FnE} {ρ:Ev} {α:Type} (en:α→Dv) (p:α→Bool) (f:α→Dv) {l:List α} (hs:src ρ=a_ (.ok (l.map en))) (hl:l.length≤100000) (h:∀ a∈l,tst ((vk cs ρ).set 0 (a_ (en a)))=a_ (.ok (p a))∧elt ((vk cs ρ).set 0 (a_ (en a)))=a_ (.ok (f a))) :
 bX cs src (a_ tst) elt ρ=a_ (.ok (.lst ((l.filter p).map f))):=by
 unfold bX;rw [hs];show (match r9 (a_ tst) elt (vk cs ρ) (l.map en) with | some ys=>_ | none=>_)=_
 rw [mR en p f h];dsimp only;have:=Kk p l;rw [if_pos ⟨by simp; omega,by simpa using hl⟩]
theorem mT {cs:List (Str×Nat)} {src:FnA} {elt:FnE} {ρ:Ev} {α:Type} (en f:α→Dv) {l:List α} (hs:src ρ=a_ (.ok (l.map en))) (hl:l.length≤100000) (h:∀ a∈l,elt ((gT 1 cs ρ).set 0 (a_ (en a)))=a_ (.ok (f a))):cj 1 cs src (gN 0) ck elt ρ=a_ (.ok (.lst (l.map f))):=by
 unfold cj;rw [hs];show (match jq (gN 0) ck elt (gT 1 cs ρ) (l.map en) with | some ys=>_ | none=>_)=_
 rw [pQ en f h];dsimp only;rw [if_pos ⟨by simpa using hl,by simpa using hl⟩]
theorem kH {cs:List (Str×Nat)} {src:FnA} {tst:FnB} {elt:FnE} {ρ:Ev} {α:Type} (en:α→Dv) (p:α→Bool) (f:α→Dv) {l:List α} (hs:src ρ=a_ (.ok (l.map en))) (hl:l.length≤100000) (h:∀ a∈l,tst ((gT 1 cs ρ).set 0 (a_ (en a)))=a_ (.ok (p a))∧elt ((gT 1 cs ρ).set 0 (a_ (en a)))=a_ (.ok (f a))) :
 cj 1 cs src (gN 0) (a_ tst) elt ρ=a_ (.ok (.lst ((l.filter p).map f))):=by
 unfold cj;rw [hs];show (match jq (gN 0) (a_ tst) elt (gT 1 cs ρ) (l.map en) with | some ys=>_ | none=>_)=_
 rw [mS en p f h];dsimp only;have:=Kk p l;rw [if_pos ⟨by simp; omega,by simpa using hl⟩]
theorem zK {i j:Int} (h:-(2 ^ 62)≤i∧i < 2 ^ 62∧-(2 ^ 62)≤j∧j < 2 ^ 62):uT [.int i,.int j]=a_ (.ok (rng i (j - i).toNat)):=by rw [uT,if_pos h]
theorem zL {j:Int} (h:-(2 ^ 62)≤j∧j < 2 ^ 62):qS [.int j]=a_ (.ok (rng 0 j.toNat)):=by rw [qS,if_pos h]
theorem zM {n:Nat} (h:n≤1000):-(2 ^ 62)≤(1:Int)∧(1:Int) < 2 ^ 62∧-(2 ^ 62)≤(n:Int)∧(n:Int) < 2 ^ 62:=by omega
theorem DB {n:Nat} (h:n≤1000):uT [.int 1,.int (n:Int)]=a_ (.ok (rng 1 ((n:Int) - 1).toNat)):=zK (zM h)
theorem DC {n:Nat} (h:n≤1000):qS [.int (n:Int)]=a_ (.ok (rng 0 n)):=by
 rw [zL (by omega)]; rfl
theorem ka {α:Type} (p:α→Bool):∀ l:List α,dD (l.map fun a=>Dv.bl (p a))=a_ (l.map p)
 | []=>rfl
 | a :: l=>by
  show (match dD (l.map fun a=>Dv.bl (p a)) with | some bs=>a_ (p a :: bs) | none=>ck)=_
  rw [ka p l];rfl
mutual
def pln:Dv→Bool
 | .exn _=>d_
 | .tup ds=>plns ds
 | .lst ds=>plns ds
 | _=>e_
def plns:List Dv→Bool
 | []=>e_
 | d :: ds=>pln d && plns ds
end
mutual
theorem ww:∀ d:Dv,pln d=e_→JH (cX d) (cX d)=e_
 | .non,_=>by simp [cX,JH]
 | .bl b,_=>by simp [cX,JH]
 | .int b,_=>by simp [cX,JH]
 | .str b,_=>by simp [cX,JH]
 | .tup ds,h=>by simp only [cX,JH]; exact eqvs_refl ds (by simpa [pln] using h)
 | .lst ds,h=>by simp only [cX,JH]; exact eqvs_refl ds (by simpa [pln] using h)
 | .scr ns,_=>by
  simp only [cX,JH]
  induction ns with
  | nil=>simp [KO]
  | cons n ns ih=>simp [KO,JH]; exact ih rfl
 | .exn _,h=>by simp [pln] at h
theorem eqvs_refl:∀ ds:List Dv,plns ds=e_→KO (toPys ds) (toPys ds)=e_
 | [],_=>by simp [toPys,KO]
 | d :: ds,h=>by
  have h':pln d=e_∧plns ds=e_:=by simpa [plns] using h
  simp only [toPys,KO,on];exact ⟨ww d h'.1,eqvs_refl ds h'.2⟩
end
structure It1 (k:Nat) (d:Dv):Prop where
 c:JP (cX d)=e_
 dp:(cX d).depth≤k
 p:pln d=e_
theorem wx {k:Nat}:∀ {ds:List Dv},(∀ d∈ds,It1 k d)→KB (toPys ds)=e_∧Mt (toPys ds)≤k∧plns ds=e_
 | [],_=>by simp [toPys,KB,Mt,plns]
 | d :: ds,h=>by
  obtain ⟨h1,h2,h3⟩:=wx (ds:=ds) fun d' hd=>h d' (o_ _ hd);have h0:=h d n_;simp only [toPys,KB,Mt,plns,on];exact ⟨⟨h0.c,h1⟩,by have:=h0.dp; omega,h0.p,h3⟩
theorem uq {k:Nat} {ds:List Dv} (h:∀ d∈ds,It1 k d):It1 (k + 1) (.tup ds):=by
 obtain ⟨h1,h2,h3⟩:=wx h;exact ⟨by simpa [cX,JP] using h1,by simp [cX,MP]; exact h2,by simpa [pln] using h3⟩
theorem xG {k:Nat} {ds:List Dv} (h:∀ d∈ds,It1 k d):It1 (k + 1) (.lst ds):=by
 obtain ⟨h1,h2,h3⟩:=wx h;exact ⟨by simpa [cX,JP] using h1,by simp [cX,MP]; exact h2,by simpa [pln] using h3⟩
theorem It1.okP {k:Nat} {d:Dv} (h:It1 k d) (hk:k≤64):okP d=e_:=by
 unfold FD.okP SeqAt.shaped;rw [h.c];have:=h.dp;simp;omega
theorem It1.le {k m:Nat} {d:Dv} (h:It1 k d) (hk:k≤m):It1 m d:=⟨h.c,Jy h.dp hk,h.p⟩
theorem jk {x:Str} (h:JP (.str x)=e_):It1 0 (.str x):=⟨h,by simp [cX,MP],rfl⟩
theorem pR {i:Int}:It1 0 (.int i):=⟨rfl,by simp [cX,MP],rfl⟩
theorem DD {i:Bool}:It1 0 (.bl i):=⟨rfl,by simp [cX,MP],rfl⟩
theorem xH:It1 0 .non:=⟨rfl,by simp [cX,MP],rfl⟩
theorem mU {α:Type} (f:α→Dv):∀ l:List α,toPys (l.map f)=l.map fun a=>cX (f a)
 | []=>rfl
 | a :: l=>by simp [toPys,mU f l]
theorem GN {x:Dv} {α:Type} {en:α→Dv} {l:List α} {p:α→Bool} (hx:It1 5 x) (hf:iR x=d_) (hl:∀ a∈l,It1 5 (en a)) (hp:∀ a∈l,JH (cX (en a)) (cX x)=p a):inX x (.lst (l.map en))=a_ (.ok (.bl (l.any p)))∧eH x (.lst (l.map en))=a_ (.ok (.bl (!l.any p)))∧inX x (.tup (l.map en))=a_ (.ok (.bl (l.any p)))∧eH x (.tup (l.map en))=a_ (.ok (.bl (!l.any p))):=by
 have e:inP x (l.map en)=a_ (l.any p):=by
  unfold inP;have h1:=hx.okP (by omega);have h2:=(wx (k:=5) (ds:=l.map en) (by intro d hd; obtain ⟨a,ha,rfl⟩:=Jz.mp hd; exact hl a ha)).1;have h3:u_ ((cX x).depth≤63)=e_:=by have:=hx.dp; simp; omega
  rw [h1,h2,h3];simp only [PR,if_true];rw [mU];congr 1;clear h1 h2 h3 hl hx
  induction l with
  | nil=>rfl
  | cons a l ih =>
   simp only [Ju,Nd];rw [hp a n_,ih fun b hb=>hp b (o_ _ hb)]
 have e0:∀ ys,inL x ys=ck:=fun ys=>by unfold inL; rw [hf]; rfl
 have n1:Ao x (.lst (l.map en))=ck:=by cases x <;> first | exact e0 _ | rfl
 have n2:Ao x (.tup (l.map en))=ck:=by cases x <;> first | exact e0 _ | rfl
 refine ⟨?_,?_,?_,?_⟩ <;> simp [inX,eH,Ez,n1,n2,e]
end FD
namespace G
open PySem PySem.Spec PyProof.Rows L2 FD
theorem kn {n:Nat} {B:FnS} {ds:List Dv} {d:Dv} (h:B (ds.map a_ ++ Jj (n - ds.length) ck)=a_ (.rt d)):eE n B ds=a_ (.ok d):=by unfold eE; rw [h]
theorem IH {n:Nat} {B:FnS} {ds:List Dv} {c:Nat} (h:B (ds.map a_ ++ Jj (n - ds.length) ck)=a_ (.exc c)):eE n B ds=a_ (.exc c):=by unfold eE; rw [h]
theorem cE (F:List Dv→Option (Rs Dv)) {n:Nat} {g:FnA} {ρ:Ev} {ds:List Dv} {r:Option (Rs Dv)} (h:g ρ=a_ (.ok ds)) (hl:ds.length=n) (hF:F ds=r):al F n g ρ=r:=by
 unfold al;rw [h,← hF];exact if_pos hl
theorem II {a b:FnS} {ρ:Ev} {c:Nat} (h:a ρ=a_ (.exc c)):au a b ρ=a_ (.exc c):=by unfold au; rw [h]; rfl
theorem GO {c:FnB} {f:FnS} {g:FnS} {ρ:Ev} {k:Nat} (h:c ρ=a_ (.ok e_)) (hf:f ρ=a_ (.exc k)):aQ c f g ρ=a_ (.exc k):=by rw [qE h,hf]
theorem zN (ns:List Int) (hl:ns.length≤63) (k:Int):∃ c,cP [.scr ns,.int k]=a_ (.ok (.int c)):=by
 cases ns with
 | nil=>exact ⟨7 * k,by kernel_rfl⟩
 | cons n r =>
  have h0:0 < (n :: r).length:=by simp
  have h1:(0:Int) < ((n :: r).length:Int):=by omega
  have h2:((n :: r).length:Int) < 1073741824:=by omega
  have h3:0≤k % ((n :: r).length:Int):=Lf _ (by omega);have h4:k % ((n :: r).length:Int) < ((n :: r).length:Int):=KM _ h1;have h5:(k % ((n :: r).length:Int)).toNat < (n :: r).length:=by omega
  refine ⟨(n :: r)[(k % ((n :: r).length:Int)).toNat] + 6553 * (k / ((n :: r).length:Int)),?_⟩;have hat:atD (n :: r) (k % ((n :: r).length:Int))=a_ (n :: r)[(k % ((n :: r).length:Int)).toNat]:=by
   unfold atD;rw [if_pos h3,B_ h5]
  have hm:ip (.int k) (.int ((n :: r).length:Int))=a_ (.ok (.int (k % ((n :: r).length:Int)))):=by
   show (if 0 < ((n :: r).length:Int) then _ else _)=_;rw [if_pos h1]
  have hd:iy (.int k) (.int ((n :: r).length:Int))=a_ (.ok (.int (k / ((n :: r).length:Int)))):=by
   show (if 0 < ((n :: r).length:Int)∧((n :: r).length:Int) < 1073741824 then _ else _)=_;rw [if_pos ⟨h1,h2⟩]
  have hi:ixD (.scr (n :: r)) (.int (k % ((n :: r).length:Int)))=a_ (.ok (.int (n :: r)[(k % ((n :: r).length:Int)).toNat])):=by
   show (match atD (n :: r) (k % ((n :: r).length:Int)) with | some d=>_ | none=>_)=_
   rw [hat]
  show (match dU [a_ (.scr (n :: r)),a_ (.int k)] with | some (.nx _)=>_ | some (.rt d)=>_ | _=>_)=_
  have e:dU [a_ (.scr (n :: r)),a_ (.int k)]=bN (bnd (bnd (ip (.int k) (.int ((n :: r).length:Int))) fun i=>ixD (.scr (n :: r)) i) fun x=>bnd (bnd (iy (.int k) (.int ((n :: r).length:Int))) fun q=>jp (.int 6553) q) fun y=>cO x y) fun d=>a_ (.rt d):=by kernel_rfl
  rw [e,hm,hd];show (match bN (bnd (ixD (.scr (n :: r)) (.int (k % ((n :: r).length:Int)))) fun x=>_) _ with | some (.nx _)=>_ | some (.rt d)=>_ | _=>_)=_
  rw [hi]
  kernel_rfl
def dr1 (c k:Int):Int:=(c % 2147483563 * 69069 + 104723 * (k + 1)) % 2147483563
def dr2 (c:Int):Int:=(c * c + c / 3) % 2147483399
def dr3 (c m:Int):Int:=(c * c + c / 7) % 2147483647 / 11 % m
theorem mV {i j:Int} (h:(-18446744073709551616 < i∧i < 18446744073709551616)∨(-18446744073709551616 < j∧j < 18446744073709551616)):jp (.int i) (.int j)=a_ (.ok (.int (i * j))):=by
 show (if _ then _ else _)=_;rw [if_pos h]
theorem mW {i j:Int} (h:0 < j):ip (.int i) (.int j)=a_ (.ok (.int (i % j))):=by
 show (if _ then _ else _)=_;rw [if_pos h]
theorem aR (ns:List Int) (hl:ns.length≤63) (k m:Int) (hm:0 < m):∃ d:Int,0≤d∧d < m∧ae [.scr ns,.int k,.int m]=a_ (.ok (.int d)):=by
 obtain ⟨c,hc⟩:=zN ns hl k;refine ⟨dr3 (dr2 (dr1 c k)) m,Lf _ (by omega),KM _ hm,?_⟩;have b1:0≤dr1 c k∧dr1 c k < 2147483563:=⟨Lf _ (by omega),KM _ (by omega)⟩;have b2:0≤dr2 (dr1 c k)∧dr2 (dr1 c k) < 2147483399:=⟨Lf _ (by omega),KM _ (by omega)⟩;have b0:0≤c % 2147483563∧c % 2147483563 < 2147483563:=⟨Lf _ (by omega),KM _ (by omega)⟩;show bp 4 cV [.scr ns,.int k,.int m]=_;have s1:(ag cP 2 (aa (ac 0) (aa (ac 1) ah))) [a_ (.scr ns),a_ (.int k),a_ (.int m),ck]=a_ (.ok (.int c)):=by
  show (match cP [.scr ns,.int k] with | some (.ok d)=>(a_ (.ok d):Option (Rs Dv)) | _=>ck)=_
  rw [hc]
 have e1:(ba 3 (f2 ip (f2 cO (f2 jp (f2 ip (ag cP 2 (aa (ac 0) (aa (ac 1) ah))) (fC (.int 2147483563))) (fC (.int 69069))) (f2 jp (fC (.int 104723)) (f2 cO (ac 1) (fC (.int 1))))) (fC (.int 2147483563)))) [a_ (.scr ns),a_ (.int k),a_ (.int m),ck]=a_ (.nx [a_ (.scr ns),a_ (.int k),a_ (.int m),a_ (.int (dr1 c k))]):=by
  show bN (bnd (bnd (bnd (bnd ((ag cP 2 (aa (ac 0) (aa (ac 1) ah))) [a_ (.scr ns),a_ (.int k),a_ (.int m),ck]) fun x=>ip x (.int 2147483563)) fun x=>jp x (.int 69069)) fun x=>bnd (jp (.int 104723) (.int (k + 1))) fun y=>cO x y) fun x=>ip x (.int 2147483563)) (fun d=>a_ (.nx [a_ (.scr ns),a_ (.int k),a_ (.int m),a_ d]))=_;rw [s1];show bN (bnd (bnd (bnd (ip (.int c) (.int 2147483563)) fun x=>jp x (.int 69069)) fun x=>bnd (jp (.int 104723) (.int (k + 1))) fun y=>cO x y) fun x=>ip x (.int 2147483563)) _=_;rw [mW (by omega),mV (i:=104723) (.inl (by omega))];show bN (bnd (bnd (jp (.int (c % 2147483563)) (.int 69069)) fun x=>cO x (.int (104723 * (k + 1)))) fun x=>ip x (.int 2147483563)) _=_;rw [mV (.inl (by omega))];show bN (ip (.int (c % 2147483563 * 69069 + 104723 * (k + 1))) (.int 2147483563)) _=_;rw [mW (by omega)];rfl
 generalize hd1:dr1 c k=d1 at *;have e2:(ba 3 (f2 ip (f2 cO (f2 jp (ac 3) (ac 3)) (f2 iy (ac 3) (fC (.int 3)))) (fC (.int 2147483399)))) [a_ (.scr ns),a_ (.int k),a_ (.int m),a_ (.int d1)]=a_ (.nx [a_ (.scr ns),a_ (.int k),a_ (.int m),a_ (.int (dr2 d1))]):=by
  show bN (bnd (bnd (jp (.int d1) (.int d1)) fun x=>cO x (.int (d1 / 3))) fun x=>ip x (.int 2147483399)) (fun d=>a_ (.nx [a_ (.scr ns),a_ (.int k),a_ (.int m),a_ d]))=_;rw [mV (.inl (by omega))];show bN (ip (.int (d1 * d1 + d1 / 3)) (.int 2147483399)) _=_;rw [mW (by omega)];rfl
 generalize hd2:dr2 d1=d2 at *;have e3:(az (f2 ip (f2 iy (f2 ip (f2 cO (f2 jp (ac 3) (ac 3)) (f2 iy (ac 3) (fC (.int 7)))) (fC (.int 2147483647))) (fC (.int 11))) (ac 2))) [a_ (.scr ns),a_ (.int k),a_ (.int m),a_ (.int d2)]=a_ (.rt (.int (dr3 d2 m))):=by
  show bN (bnd (bnd (bnd (bnd (jp (.int d2) (.int d2)) fun x=>cO x (.int (d2 / 7))) fun x=>ip x (.int 2147483647)) fun x=>iy x (.int 11)) fun x=>ip x (.int m)) (fun d=>a_ (.rt d))=_;rw [mV (.inl (by omega))];show bN (bnd (bnd (ip (.int (d2 * d2 + d2 / 7)) (.int 2147483647)) fun x=>iy x (.int 11)) fun x=>ip x (.int m)) _=_;rw [mW (by omega)];show bN (ip (.int ((d2 * d2 + d2 / 7) % 2147483647 / 11)) (.int m)) _=_;rw [mW hm];rfl
 show (match cV [a_ (.scr ns),a_ (.int k),a_ (.int m),ck] with | some (.nx _)=>_ | some (.rt d)=>_ | _=>_)=_
 have e:cV [a_ (.scr ns),a_ (.int k),a_ (.int m),ck]=a_ (.rt (.int (dr3 d2 m))):=by
  show sq ((ba 3 _) _) (fun ρ=>sq ((ba 3 _) ρ) _)=_;rw [e1];show sq ((ba 3 _) [a_ (.scr ns),a_ (.int k),a_ (.int m),a_ (.int d1)]) _=_;rw [e2];exact e3
 rw [e]
def menu:List Str:=[b_ "a.b",b_ "b",b_ "x.a.b",b_ "y.x.a.b",b_ "c.uk",b_ "uk",b_ "d.c.uk",b_ "e.d.c.uk",b_ "w.ck",b_ "v.w.ck",b_ "ck",b_ "g-1.a.b",b_ "7.b",b_ "p.q"]
def rules:List Dv:=[.str "!w.ck",.str "*.ck",.str "*.uk",.str "a.b",.str "b",.str "c.uk",.str "q",.str "uk"]
def jw:List Dv→List (List Dv)
 | []=>[[]]
 | x :: r=>(jw r).map (x :: ·) ++ jw r
def okO (o:Option (Rs Dv)):Option (Rs Dv):=match o with
 | some (.ok d)=>a_ (.ok d)
 | _=>ck
theorem lJ (ns:List Int) (hl:ns.length≤63) (k:Int):∃ p∈menu,aY [.scr ns,.int k]=a_ (.ok (.str p)):=by
 obtain ⟨d,h0,h1,hd⟩:=aR ns hl k 14 (by omega);have e:aY [.scr ns,.int k]=(match bN (bnd (match ae [.scr ns,.int k,.int 14] with | some (.ok d)=>(a_ (.ok d):Option (Rs Dv)) | _=>ck) fun i=>ixD (.lst (menu.map Dv.str)) i) fun d=>a_ (.rt d) with
  | some (.nx _)=>a_ (.ok .non)
  | some (.rt d)=>a_ (.ok d)
  | _=>ck):=by kernel_rfl
 rw [e,hd];have hc:d=0∨d=1∨d=2∨d=3∨d=4∨d=5∨d=6∨d=7∨d=8∨d=9∨d=10∨d=11∨d=12∨d=13:=by omega
 rcases hc with rfl | rfl | rfl | rfl | rfl | rfl | rfl | rfl | rfl | rfl | rfl | rfl | rfl | rfl
 · exact ⟨b_ "a.b",by simp [menu],by kernel_rfl⟩
 · exact ⟨b_ "b",by simp [menu],by kernel_rfl⟩
 · exact ⟨b_ "x.a.b",by simp [menu],by kernel_rfl⟩
 · exact ⟨b_ "y.x.a.b",by simp [menu],by kernel_rfl⟩
 · exact ⟨b_ "c.uk",by simp [menu],by kernel_rfl⟩
 · exact ⟨b_ "uk",by simp [menu],by kernel_rfl⟩
 · exact ⟨b_ "d.c.uk",by simp [menu],by kernel_rfl⟩
 · exact ⟨b_ "e.d.c.uk",by simp [menu],by kernel_rfl⟩
 · exact ⟨b_ "w.ck",by simp [menu],by kernel_rfl⟩
 · exact ⟨b_ "v.w.ck",by simp [menu],by kernel_rfl⟩
 · exact ⟨b_ "ck",by simp [menu],by kernel_rfl⟩
 · exact ⟨b_ "g-1.a.b",by simp [menu],by kernel_rfl⟩
 · exact ⟨b_ "7.b",by simp [menu],by kernel_rfl⟩
 · exact ⟨b_ "p.q",by simp [menu],by kernel_rfl⟩
def zO:FnB:=fB (f2 eqX (ag ae 3 (aa (ac 2) (aa (f2 cO (ac 3) (ac 0)) (aa (fC (.int 2)) ah)))) (fC (.int 0)))
theorem xI (ns:List Int) (hl:ns.length≤63) (z:Int):∀ (l:List Dv) (k:Nat),∃ t∈jw l,jq (gP 0 1) (a_ zO) (ac 1) [ck,ck,a_ (.scr ns),a_ (.int z)] (iS k l)=a_ t
 | [],k=>⟨[],by simp [jw],rfl⟩
 | x :: r,k=>by
  obtain ⟨t,ht,e⟩:=xI ns hl z r (k + 1);obtain ⟨d,h0,h1,hd⟩:=aR ns hl (z + k) 2 (by omega);have ht':zO [a_ (.int k),a_ x,a_ (.scr ns),a_ (.int z)]=bnd (bnd (okO (ae [.scr ns,.int (z + k),.int 2])) fun x=>eqX x (.int 0)) toB:=by kernel_rfl
  have hu:jq (gP 0 1) (a_ zO) (ac 1) [ck,ck,a_ (.scr ns),a_ (.int z)] (iS k (x :: r))=(match zO [a_ (.int k),a_ x,a_ (.scr ns),a_ (.int z)] with
   | some (.ok e_)=>(match jq (gP 0 1) (a_ zO) (ac 1) [ck,ck,a_ (.scr ns),a_ (.int z)] (iS (k + 1) r) with | some ys=>a_ (x :: ys) | none=>ck)
   | some (.ok d_)=>jq (gP 0 1) (a_ zO) (ac 1) [ck,ck,a_ (.scr ns),a_ (.int z)] (iS (k + 1) r)
   | _=>ck):=by kernel_rfl
  rw [hu,ht',hd,e];have hc:d=0∨d=1:=by omega
  rcases hc with rfl | rfl
  · exact ⟨x :: t,by simp [jw,ht],by kernel_rfl⟩
  · exact ⟨t,by simp [jw,ht],by kernel_rfl⟩
theorem lK:∀ {l t:List Dv},t∈jw l→t.length≤l.length
 | [],t,h=>by simp [jw] at h; simp [h]
 | x :: r,t,h=>by
  simp only [jw,Jn,Jz] at h;rcases h with ⟨u,hu,rfl⟩ | h
  · have:=lK hu; simp; omega
  · have:=lK h; simp; omega
theorem wz (ns:List Int) (hl:ns.length≤63):∃ t∈jw rules,dv [.scr ns,.int 0]=a_ (.ok (.tup t)):=by
 obtain ⟨t,ht,e⟩:=xI ns hl 0 rules 0;refine ⟨t,ht,?_⟩;have hle:t.length≤100000:=by have:=lK ht; have:rules.length=8:=rfl; omega
 have hu:dv [.scr ns,.int 0]=(match bN (bnd (bnd (match jq (gP 0 1) (a_ zO) (ac 1) [ck,ck,a_ (.scr ns),a_ (.int 0)] (iS 0 rules) with
  | some ys=>if ys.length≤100000∧(iS 0 rules).length≤100000 then (a_ (.ok (.lst ys)):Option (Rs Dv)) else ck
  | none=>ck) fun x=>bnd (a_ (.ok [])) fun ys=>a_ (.ok (x :: ys))) fX) fun d=>a_ (.rt d) with
  | some (.nx _)=>a_ (.ok .non)
  | some (.rt d)=>a_ (.ok d)
  | _=>ck):=by kernel_rfl
 rw [hu,e];dsimp only;rw [if_pos ⟨hle,by decide⟩];rfl
def pths : List Str := [b_ "/", b_ "/x", b_ "/x/", b_ "/x/y", b_ "/xy", b_ "/x/y/z.q", b_ "//", b_ "/-_.9", b_ "/x/y/"]
theorem oY (ns:List Int) (hl:ns.length≤63) (k:Int):∃ p∈pths,bZ [.scr ns,.int k]=a_ (.ok (.str p)):=by
 obtain ⟨d,h0,h1,hd⟩:=aR ns hl k 9 (by omega);have e:bZ [.scr ns,.int k]=(match bN (bnd (match ae [.scr ns,.int k,.int 9] with | some (.ok d)=>(a_ (.ok d):Option (Rs Dv)) | _=>ck) fun i=>ixD (.lst (pths.map Dv.str)) i) fun d=>a_ (.rt d) with
  | some (.nx _)=>a_ (.ok .non)
  | some (.rt d)=>a_ (.ok d)
  | _=>ck):=by kernel_rfl
 rw [e,hd];have hc:d=0∨d=1∨d=2∨d=3∨d=4∨d=5∨d=6∨d=7∨d=8:=by omega
 rcases hc with rfl | rfl | rfl | rfl | rfl | rfl | rfl | rfl | rfl
 · exact ⟨b_ "/",by simp [pths],by kernel_rfl⟩
 · exact ⟨b_ "/x",by simp [pths],by kernel_rfl⟩
 · exact ⟨b_ "/x/",by simp [pths],by kernel_rfl⟩
 · exact ⟨b_ "/x/y",by simp [pths],by kernel_rfl⟩
 · exact ⟨b_ "/xy",by simp [pths],by kernel_rfl⟩
 · exact ⟨b_ "/x/y/z.q",by simp [pths],by kernel_rfl⟩
 · exact ⟨b_ "//",by simp [pths],by kernel_rfl⟩
 · exact ⟨b_ "/-_.9", by simp [pths], by kernel_rfl⟩
 · exact ⟨b_ "/x/y/",by simp [pths],by kernel_rfl⟩
theorem mX (F:List Dv→Option (Rs Dv)) {f g k:FnE} {ρ:Ev} {a b c d:Dv} (h:f ρ=a_ (.ok a)) (h':g ρ=a_ (.ok b)) (h'':k ρ=a_ (.ok c)) (hF:F [a,b,c]=a_ (.ok d)):ag F 3 (aa f (aa g (aa k ah))) ρ=a_ (.ok d):=iB (ai h (ai h' (ai h'' aM))) rfl hF
theorem wA (ns:List Int) (hl:ns.length≤63) (z:Int):∃ s h p O,h∈menu∧p∈pths∧(O=Dv.non∨∃ o∈menu,O=.str o)∧dJ [.scr ns,.int z]=a_ (.ok (.tup [.bl s,.str h,.str p,O])):=by
 obtain ⟨d2,a0,a1,hd2⟩:=aR ns hl (z + 2) 3 (by omega);obtain ⟨o,ho,hn3⟩:=lJ ns hl (z + 3);obtain ⟨d0,b0,b1,hd0⟩:=aR ns hl z 2 (by omega);obtain ⟨h,hh,hn1⟩:=lJ ns hl (z + 1);obtain ⟨p,hp,hp4⟩:=oY ns hl (z + 4);have hO:∃ O,(O=Dv.non∨∃ o∈menu,O=.str o)∧ixD (.lst [.non,.str o,.str o]) (.int d2)=a_ (.ok O):=by
  have hc:d2=0∨d2=1∨d2=2:=by omega
  rcases hc with rfl | rfl | rfl
  · exact ⟨.non,.inl rfl,rfl⟩
  · exact ⟨.str o,.inr ⟨o,ho,rfl⟩,rfl⟩
  · exact ⟨.str o,.inr ⟨o,ho,rfl⟩,rfl⟩
 obtain ⟨O,hO,hix⟩:=hO;refine ⟨(d0 == 0),h,p,O,hh,hp,hO,fY ?_⟩;show fw [a_ (.scr ns),a_ (.int z),ck]=_;unfold fw;have e:f2 ixD (bK (aa (fC .non) (aa (ag aY 2 (aa (ac 0) (aa (f2 cO (ac 1) (fC (.int 3))) ah))) (aa (ag aY 2 (aa (ac 0) (aa (f2 cO (ac 1) (fC (.int 3))) ah))) ah)))) (ag ae 3 (aa (ac 0) (aa (f2 cO (ac 1) (fC (.int 2))) (aa (fC (.int 3)) ah)))) [a_ (.scr ns),a_ (.int z),ck]=a_ (.ok O):=by
  rw [bD (nK (ai rfl (ai (fm aY rfl rfl hn3) (ai (fm aY rfl rfl hn3) aM))) (by show 3≤100000; decide)) (mX ae rfl rfl rfl hd2)];exact hix
 rw [am (ρ':=[a_ (.scr ns),a_ (.int z),a_ O]) (aV e rfl)];refine dP (k9 (ai ?_ (ai (fm aY rfl rfl hn1) (ai (fm bZ rfl rfl hp4) (ai rfl aM)))) (by show 4≤100000; decide));rw [bD (mX ae rfl rfl rfl hd0) rfl];rfl
abbrev bo (k:Bool):Option (Rs Dv):=a_ (.ok (.bl k))
def En:List Str:=menu ++ [b_ "q"]
theorem eU {x y:Str} (h:seq x y=e_):x=y:=by
 unfold seq at h;obtain ⟨⟨a⟩⟩:=x; obtain ⟨⟨b⟩⟩:=y;simp at h;rw [h]
theorem wB (x:Str):seq x x=e_:=by unfold seq; simp
theorem cG {α:Type} {l:List α} {p:α→Bool} (n:Nat) (h1:(l.take n).all p=e_) (h2:(l.drop n).all p=e_):l.all p=e_:=by
 rw [← List.take_append_drop n l,List.all_append,h1,h2]; rfl
def GP (t:List Dv) (n:Str):Bool:=match cw [.tup t,.str n],cL [.tup t,.str n] with
 | some (.ok (.str _)),a_ (.ok .non)=>e_
 | some (.ok (.str _)),a_ (.ok (.str _))=>e_
 | _,_=>d_
def gg (t:List Dv):Bool:=En.all fun n=>GP t n
def cC:Nat→List (List Dv)
 | 0=>jw rules
 | k + 1=>(cC k).drop 16
theorem IJ:((cC 0).take 16).all gg=e_:=by kernel_rfl
theorem IK:((cC 1).take 16).all gg=e_:=by kernel_rfl
theorem IL:((cC 2).take 16).all gg=e_:=by kernel_rfl
theorem IM:((cC 3).take 16).all gg=e_:=by kernel_rfl
theorem IN:((cC 4).take 16).all gg=e_:=by kernel_rfl
theorem IP:((cC 5).take 16).all gg=e_:=by kernel_rfl
theorem IQ:((cC 6).take 16).all gg=e_:=by kernel_rfl
theorem IR:((cC 7).take 16).all gg=e_:=by kernel_rfl
theorem IS:((cC 8).take 16).all gg=e_:=by kernel_rfl
theorem IT:((cC 9).take 16).all gg=e_:=by kernel_rfl
theorem GQ:((cC 10).take 16).all gg=e_:=by kernel_rfl
theorem GR:((cC 11).take 16).all gg=e_:=by kernel_rfl
theorem GS:((cC 12).take 16).all gg=e_:=by kernel_rfl
theorem GT:((cC 13).take 16).all gg=e_:=by kernel_rfl
theorem GU:((cC 14).take 16).all gg=e_:=by kernel_rfl
theorem GV:((cC 15).take 16).all gg=e_:=by kernel_rfl
theorem DE:(jw rules).all gg=e_:=(cG (l:=cC 0) 16 IJ (cG (l:=cC 1) 16 IK (cG (l:=cC 2) 16 IL (cG (l:=cC 3) 16 IM (cG (l:=cC 4) 16 IN (cG (l:=cC 5) 16 IP (cG (l:=cC 6) 16 IQ (cG (l:=cC 7) 16 IR (cG (l:=cC 8) 16 IS (cG (l:=cC 9) 16 IT (cG (l:=cC 10) 16 GQ (cG (l:=cC 11) 16 GR (cG (l:=cC 12) 16 GS (cG (l:=cC 13) 16 GT (cG (l:=cC 14) 16 GU (cG (l:=cC 15) 16 GV (show (cC 16).all gg=e_ by kernel_rfl)))))))))))))))))
theorem ur {t:List Dv} (ht:t∈jw rules) {n:Str} (hn:n∈En):∃ m o,cw [.tup t,.str n]=a_ (.ok (.str m))∧(o=Dv.non∨∃ z,o=.str z)∧cL [.tup t,.str n]=a_ (.ok o):=by
 have h:=aN (show (En.all fun n=>GP t n)=e_ from aN DE ht) hn;unfold GP at h;split at h
 · rename_i m h1 h2;exact ⟨m,_,h1,.inl rfl,h2⟩
 · rename_i m z h1 h2;exact ⟨m,_,h1,.inr ⟨z,rfl⟩,h2⟩
 · cases h
def okY:Option (Rs Dv)→Bool
 | some (.ok (.bl e_))=>e_
 | _=>d_
theorem gc {o:Option (Rs Dv)} (h:okY o=e_):o=a_ (.ok (.bl e_)):=by
 unfold okY at h; split at h
 · rfl
 · cases h
def okB:Option (Rs Dv)→Bool
 | some (.ok (.bl _))=>e_
 | _=>d_
theorem ut {o:Option (Rs Dv)} (h:okB o=e_):∃ k,o=bo k:=by
 unfold okB at h; split at h
 · exact ⟨_,rfl⟩
 · cases h
def okF:Option (Rs Dv)→Bool
 | some (.ok (.bl d_))=>e_
 | _=>d_
theorem uu:((jw rules).all fun t=>okY (dh [.tup t]))=e_:=by kernel_rfl
theorem gI {t:List Dv} (ht:t∈jw rules):dh [.tup t]=bo e_:=gc (aN (p:=fun t=>okY (dh [.tup t])) uu ht)
def nms:List Str:=[b_ "n",b_ "safe-a",b_ "own-b",b_ "N_2",b_ "m-1",b_ "safe-",b_ "own"]
def wts:List Str:=[b_ "5",b_ "",b_ "a!b~",b_ "x/y?z",b_ "123456789012",b_ "1"]
theorem uv:(nms.all fun n=>okY (aB [.str n]))=e_:=by kernel_rfl
theorem DF:(nms.all fun n=>!(Jv n (b_ "safe-") && Jv n (b_ "own-")))=e_:=by kernel_rfl
theorem uw:(wts.all fun n=>okY (bj [.str n]))=e_:=by kernel_rfl
theorem ux:(En.all fun n=>okY (bJ [.str n]))=e_:=by kernel_rfl
theorem uy:(pths.all fun n=>okY (bA [.str n]))=e_:=by kernel_rfl
theorem DG:(En.all fun p=>En.all fun q=>okB (aI [.str p,.str q]))=e_:=by kernel_rfl
def GW (p:Str):Bool:=match iM [.str p] with
 | some (.ok (.str f))=>pths.any (fun q=>seq q f)
 | _=>d_
theorem DH:(pths.all GW)=e_:=by kernel_rfl
theorem GX {n:Str} (h:n∈nms):aB [.str n]=bo e_:=gc (aN (p:=fun n=>okY (aB [.str n])) uv h)
theorem IU {n:Str} (h:n∈nms):Jv n (b_ "safe-")=d_∨Jv n (b_ "own-")=d_:=by
 have:=aN (p:=fun n=>!(Jv n (b_ "safe-") && Jv n (b_ "own-"))) DF h;simpa using this
theorem GY {n:Str} (h:n∈wts):bj [.str n]=bo e_:=gc (aN (p:=fun n=>okY (bj [.str n])) uw h)
theorem uX {n:Str} (h:n∈En):bJ [.str n]=bo e_:=gc (aN (p:=fun n=>okY (bJ [.str n])) ux h)
theorem xJ {n:Str} (h:n∈pths):bA [.str n]=bo e_:=gc (aN (p:=fun n=>okY (bA [.str n])) uy h)
theorem HS {p q:Str} (h:p∈En) (h':q∈En):∃ k,aI [.str p,.str q]=bo k:=ut (aN (p:=fun q=>okB (aI [.str p,.str q])) (aN (p:=fun p=>En.all fun q=>okB (aI [.str p,.str q])) DG h) h')
theorem IV {p:Str} (h:p∈pths):∃ f∈pths,iM [.str p]=a_ (.ok (.str f)):=by
 have q:=aN (p:=GW) DH h;unfold GW at q;split at q
 · rename_i f h1;obtain ⟨y,hy,ey⟩:=K3.mp q;have e:=eU ey;subst e;exact ⟨y,hy,h1⟩
 · cases q
section
variable {T:Dv}
theorem ED (h:dh [T]=bo e_):bF [T]=a_ (.ok .non):=by simp [bF,eE,dG,sq,aQ,bg,bN,bnd,bh,fB,toB,ag,aa,ah,ac,fC,aC,h]
theorem EE (h:dk [T]=bo e_):ce [T]=a_ (.ok .non):=by simp [ce,eE,fQ,sq,aQ,bg,bN,bnd,bh,fB,toB,ag,aa,ah,ac,fC,aC,h]
theorem HU (h:bI [T]=bo e_):db [T]=a_ (.ok .non):=by simp [db,eE,dH,sq,aQ,bg,bN,bnd,bh,fB,toB,ag,aa,ah,ac,fC,aC,h]
theorem wC (h:bf [T]=bo e_):bd [T]=a_ (.ok .non):=by simp [bd,eE,dq,sq,aQ,bg,bN,bnd,bh,fB,toB,ag,aa,ah,ac,fC,aC,h]
end
theorem mom_y {i:Int} (h0:0≤i) (h1:i≤9999):bf [.int i]=bo e_:=by
 have e:aO [.int i,.int 0,.int 9999]=bo e_:=by
  simp [aO,bp,bc,au,sq,aQ,az,bg,bN,bnd,bOr,bh,fB,toB,ac,fC,f1,f2,cK,cu,aD,bE,leX,h0,h1]
 simp [bf,bp,dg,au,sq,aQ,az,bg,aS,ba,bN,bnd,bOr,cH,bh,fB,toB,ag,al,aa,ah,ac,fC,f1,f2,ixD,atD,vOr,cK,eC,fIf,bS,bK,fB1,fM,aC,aX,isN,cY,cu,aD,bB,bx,bE,e]
def Mo (u:Dv):Prop:=u=.non∨∃ i:Int,0≤i∧i≤9999∧u=.int i
theorem pS {u:Dv} (h:Mo u):ar [u]=bo e_:=by
 rcases h with rfl | ⟨i,h0,h1,rfl⟩
 · simp [ar,bp,aT,sq,az,bg,bN,bnd,toB,ag,aa,ah,ac,fC,f2,vOr,isN]
 · simp [ar,bp,aT,au,sq,aQ,az,bg,aS,ba,bN,bnd,bOr,cH,bh,fB,toB,ag,al,aa,ah,ac,fC,f1,f2,ixD,atD,vOr,cK,eC,fIf,bS,bK,fB1,fM,aC,aX,isN,cY,cu,aD,bB,bx,bE,mom_y h0 h1]
structure Ak (h p:Str) (O:Dv):Prop where
 h:h∈En
 p:p∈pths
 o:O=.non∨∃ o∈menu,O=.str o
theorem me {h:Str} (q:h∈menu):h∈En:=A_ _ q
abbrev akn (s:Bool) (h p:Str) (O:Dv):Dv:=.tup [.bl s,.str h,.str p,O]
theorem wD {s:Bool} {h p:Str} {O:Dv} (a:Ak h p O):dk [akn s h p O]=bo e_:=by
 have e0:bQ [.tup [.bl s,.str h,.str p,O],.int 4]=bo e_:=by kernel_rfl
 have e1:=uX (a.h);have e2:=xJ a.p;rcases a.o with rfl | ⟨o,ho,rfl⟩
 · simp [dk,bp,fP,au,sq,aQ,az,bg,bN,bnd,bh,fB,toB,ag,aa,ah,ac,fC,f1,f2,ixD,atD,vOr,bK,fB1,isN,cu,aD,e0,e1,e2,iA,dD]
 · have e3:=uX (me ho);simp [dk,bp,fP,au,sq,aQ,az,bg,aS,ba,bN,bnd,bOr,cH,bh,fB,toB,ag,al,aa,ah,ac,fC,f1,f2,ixD,atD,vOr,cK,eC,fIf,bS,bK,fB1,fM,aC,aX,isN,cY,cu,aD,bB,bx,bE,e0,e1,e2,e3,iA,dD]
theorem DI {t:List Dv} (ht:t∈jw rules) {h p:Str} {O:Dv} (a:Ak h p O):∃ k,∀ s,aj [.tup t,akn s h p O]=bo k:=by
 rcases a.o with rfl | ⟨o,ho,rfl⟩
 · exact ⟨e_,fun s=>by simp [aj,bp,aA,au,sq,aQ,az,bg,aS,ba,bN,bnd,bOr,cH,bh,fB,toB,ag,al,aa,ah,ac,fC,f1,f2,ixD,atD,vOr,cK,eC,fIf,bS,bK,fB1,fM,aC,aX,isN,cY,cu,aD,bB,bx,bE]⟩
 · obtain ⟨m1,o1,_,h1,e1⟩:=ur ht (a.h);obtain ⟨m2,o2,_,h2,e2⟩:=ur ht (me ho);cases q:seq o h with
   | true=>exact ⟨e_,fun s=>by simp [aj,bp,aA,au,sq,aQ,az,bg,aS,ba,bN,bnd,bOr,cH,bh,fB,toB,ag,al,aa,ah,ac,fC,f1,f2,ixD,atD,vOr,cK,eC,fIf,bS,bK,fB1,fM,aC,aX,isN,cY,cu,aD,bB,bx,bE,eqX,eqS,q]⟩
   | false =>
    rcases h1 with rfl | ⟨z1,rfl⟩
    · exact ⟨d_,fun s=>by simp [aj,bp,aA,au,sq,aQ,az,bg,aS,ba,bN,bnd,bOr,cH,bh,fB,toB,ag,al,aa,ah,ac,fC,f1,f2,ixD,atD,vOr,cK,eC,fIf,bS,bK,fB1,fM,aC,aX,isN,cY,cu,aD,bB,bx,bE,eqX,eqS,q,e1,e2]⟩
    · rcases h2 with rfl | ⟨z2,rfl⟩
      · exact ⟨d_,fun s=>by simp [aj,bp,aA,au,sq,aQ,az,bg,aS,ba,bN,bnd,bOr,cH,bh,fB,toB,ag,al,aa,ah,ac,fC,f1,f2,ixD,atD,vOr,cK,eC,fIf,bS,bK,fB1,fM,aC,aX,isN,cY,cu,aD,bB,bx,bE,eqX,eqS,q,e1,e2]⟩
      · exact ⟨seq z1 z2,fun s=>by simp [aj,bp,aA,au,sq,aQ,az,bg,aS,ba,bN,bnd,bOr,cH,bh,fB,toB,ag,al,aa,ah,ac,fC,f1,f2,ixD,atD,vOr,cK,eC,fIf,bS,bK,fB1,fM,aC,aX,isN,cY,cu,aD,bB,bx,bE,eqX,eqS,q,e1,e2]⟩
theorem gf {l:List Dv} {d:Int} (h0:0≤d) (h1:d < l.length):∃ x∈l,ixD (.lst l) (.int d)=a_ (.ok x):=by
 have h2:d.toNat < l.length:=by omega
 refine ⟨l[d.toNat],Mh h2,?_⟩;show (match atD l d with | some d=>_ | none=>_)=_
 unfold atD;rw [if_pos h0,B_ h2]
structure Gv (nm w:Str) (H P u l:Dv) (S:Bool) (R:Str):Prop where
 nm:nm∈nms
 w:w∈wts
 hh:H=.non∨∃ n∈En,H=.str n
 pp:P=.non∨∃ p∈pths,P=.str p
 u:u=.non∨∃ i:Int,0≤i∧i < 60∧u=.int i
 l:l=.non∨∃ i:Int,0≤i∧i < 30∧l=.int i
 r:R=b_ "any"∨R=b_ "near"
abbrev gvn (nm w:Str) (H P u l:Dv) (S:Bool) (R:Str):Dv:=.tup [.str nm,.str w,H,P,u,l,.bl S,.str R]
def Az:Option (Rs Dv)→Bool
 | some (.ok (.str z))=>En.any fun q=>seq q z
 | _=>d_
theorem uz {o:Option (Rs Dv)} (h:Az o=e_):∃ n∈En,o=a_ (.ok (.str n)):=by
 unfold Az at h;split at h
 · rename_i z;obtain ⟨y,hy,ey⟩:=K3.mp h;have e:=eU ey;subst e;exact ⟨y,hy,rfl⟩
 · cases h
def wE:FnE:=(f2 ixD (fM (fW) (ac 2) (aa (fC (.str ".")) ah)) (f1 xh (fC (.int 1))))
def wF:FnE:=(fIf (fB (f2 inD (fC (.str ".")) (ac 2))) (qT (ac 2) (cg (f2 cO (fM Ch (ac 2) (aa (fC (.str ".")) ah)) (fC (.int 1)))) dc) (ac 2))
theorem wG:(menu.all fun h=>Az (wE [ck,ck,a_ (.str h)]))=e_:=by kernel_rfl
theorem wH:(menu.all fun h=>Az (wF [ck,ck,a_ (.str h)]))=e_:=by kernel_rfl
theorem DJ {h:Str} (q:h∈menu) {a b:Option Dv} {r:Ev}:∃ n∈En,wE (a :: b :: a_ (.str h) :: r)=a_ (.ok (.str n)):=uz (aN (p:=fun h=>Az (wE [ck,ck,a_ (.str h)])) wG q)
theorem DK {h:Str} (q:h∈menu) {a b:Option Dv} {r:Ev}:∃ n∈En,wF (a :: b :: a_ (.str h) :: r)=a_ (.ok (.str n)):=uz (aN (p:=fun h=>Az (wF [ck,ck,a_ (.str h)])) wH q)
theorem wI (ns:List Int) (hl:ns.length≤63) (z:Int) {h:Str} (hh:h∈menu):∃ nm w H P u l S R,Gv nm w H P u l S R∧du [.scr ns,.int z,.str h]=a_ (.ok (gvn nm w H P u l S R)):=by
 obtain ⟨d0,a0,b0,e0⟩:=aR ns hl z 7 (by omega);obtain ⟨d1,a1,b1,e1⟩:=aR ns hl (z + 1) 5 (by omega);obtain ⟨d2,a2,b2,e2⟩:=aR ns hl (z + 2) 6 (by omega);obtain ⟨d4,a4,b4,e4⟩:=aR ns hl (z + 4) 3 (by omega);obtain ⟨d6,a6,b6,e6⟩:=aR ns hl (z + 6) 3 (by omega);obtain ⟨d7,a7,b7,e7⟩:=aR ns hl (z + 7) 60 (by omega);obtain ⟨d8,a8,b8,e8⟩:=aR ns hl (z + 8) 3 (by omega);obtain ⟨d9,a9,b9,e9⟩:=aR ns hl (z + 9) 30 (by omega);obtain ⟨d10,a10,b10,e10⟩:=aR ns hl (z + 10) 2 (by omega);obtain ⟨d11,a11,b11,e11⟩:=aR ns hl (z + 11) 2 (by omega);obtain ⟨n3,hn3,e3⟩:=lJ ns hl (z + 3);obtain ⟨p5,hp5,e5⟩:=oY ns hl (z + 5);obtain ⟨x0,m0,i0⟩:=gf (l:=[.str "n",.str "safe-a",.str "own-b",.str "N_2",.str "m-1",.str "safe-",.str "n"]) a0 b0;obtain ⟨x1,m1,i1⟩:=gf (l:=[.str "5",.str "",.str "a!b~",.str "x/y?z",.str "123456789012"]) a1 b1;obtain ⟨L,hL,eL⟩:=DJ hh (a:=a_ (.scr ns)) (b:=a_ (.int z)) (r:=[a_ x0,a_ x1,ck,ck,ck,ck,ck,ck]);obtain ⟨TL,hT,eT⟩:=DK hh (a:=a_ (.scr ns)) (b:=a_ (.int z)) (r:=[a_ x0,a_ x1,ck,ck,ck,ck,ck,ck]);obtain ⟨x2,m2,i2⟩:=gf (l:=[.non,.non,.str h,.str L,.str n3,.str TL]) a2 b2;obtain ⟨x4,m4,i4⟩:=gf (l:=[.non,.str "/",.str p5]) a4 b4;obtain ⟨x6,m6,i6⟩:=gf (l:=[.non,.non,.int d7]) a6 b6;obtain ⟨x8,m8,i8⟩:=gf (l:=[.non,.non,.int d9]) a8 b8;obtain ⟨x11,m11,i11⟩:=gf (l:=[.str "any",.str "near"]) a11 b11;have g0:∃ nm∈nms,x0=.str nm:=by
  simp only [w_,Jl,or_false] at m0;rcases m0 with rfl | rfl | rfl | rfl | rfl | rfl | rfl <;> exact ⟨_,by simp [nms],rfl⟩
 have g1:∃ nm∈wts,x1=.str nm:=by
  simp only [w_,Jl,or_false] at m1;rcases m1 with rfl | rfl | rfl | rfl | rfl <;> exact ⟨_,by simp [wts],rfl⟩
 have g2:x2=.non∨∃ n∈En,x2=.str n:=by
  simp only [w_,Jl,or_false] at m2;rcases m2 with rfl | rfl | rfl | rfl | rfl | rfl
  · exact .inl rfl
  · exact .inl rfl
  · exact .inr ⟨_,me hh,rfl⟩
  · exact .inr ⟨_,hL,rfl⟩
  · exact .inr ⟨_,me hn3,rfl⟩
  · exact .inr ⟨_,hT,rfl⟩
 have g4:x4=.non∨∃ n∈pths,x4=.str n:=by
  simp only [w_,Jl,or_false] at m4;rcases m4 with rfl | rfl | rfl
  · exact .inl rfl
  · exact .inr ⟨_,by simp [pths],rfl⟩
  · exact .inr ⟨_,hp5,rfl⟩
 have g6:x6=.non∨∃ i:Int,0≤i∧i < 60∧x6=.int i:=by
  simp only [w_,Jl,or_false] at m6;rcases m6 with rfl | rfl | rfl
  · exact .inl rfl
  · exact .inl rfl
  · exact .inr ⟨_,a7,b7,rfl⟩
 have g8:x8=.non∨∃ i:Int,0≤i∧i < 30∧x8=.int i:=by
  simp only [w_,Jl,or_false] at m8;rcases m8 with rfl | rfl | rfl
  · exact .inl rfl
  · exact .inl rfl
  · exact .inr ⟨_,a9,b9,rfl⟩
 have g11:∃ R,(R=b_ "any"∨R=b_ "near")∧x11=.str R:=by
  simp only [w_,Jl,or_false] at m11;rcases m11 with rfl | rfl
  · exact ⟨_,.inl rfl,rfl⟩
  · exact ⟨_,.inr rfl,rfl⟩
 obtain ⟨nm,hnm,rfl⟩:=g0;obtain ⟨w,hw,rfl⟩:=g1;obtain ⟨R,hR,rfl⟩:=g11;refine ⟨nm,w,x2,x4,x6,x8,d10 == 0,R,⟨hnm,hw,g2,g4,g6,g8,hR⟩,?_⟩;have eB:eQ=(au (ba 3 (f2 ixD (bK (aa (fC (.str "n")) (aa (fC (.str "safe-a")) (aa (fC (.str "own-b")) (aa (fC (.str "N_2")) (aa (fC (.str "m-1")) (aa (fC (.str "safe-")) (aa (fC (.str "n")) ah)))))))) (ag ae 3 (aa (ac 0) (aa (ac 1) (aa (fC (.int 7)) ah)))))) (au (ba 4 (f2 ixD (bK (aa (fC (.str "5")) (aa (fC (.str "")) (aa (fC (.str "a!b~")) (aa (fC (.str "x/y?z")) (aa (fC (.str "123456789012")) ah)))))) (ag ae 3 (aa (ac 0) (aa (f2 cO (ac 1) (fC (.int 1))) (aa (fC (.int 5)) ah)))))) (sJ 5 (aa (fC .non) (aa (fC .non) (aa (ac 2) (aa wE (aa (ag aY 2 (aa (ac 0) (aa (f2 cO (ac 1) (fC (.int 3))) ah))) ah))))) (dI (vK wF) (dI (eK 6 (f2 ixD (bK (aa (fC .non) (aa (fC (.str "/")) (aa (ag bZ 2 (aa (ac 0) (aa (f2 cO (ac 1) (fC (.int 5))) ah))) ah)))) (ag ae 3 (aa (ac 0) (aa (f2 cO (ac 1) (fC (.int 4))) (aa (fC (.int 3)) ah)))))) (dI (eK 7 (f2 ixD (bK (aa (fC .non) (aa (fC .non) (aa (ag ae 3 (aa (ac 0) (aa (f2 cO (ac 1) (fC (.int 7))) (aa (fC (.int 60)) ah)))) ah)))) (ag ae 3 (aa (ac 0) (aa (f2 cO (ac 1) (fC (.int 6))) (aa (fC (.int 3)) ah)))))) (dI (eK 8 (f2 ixD (bK (aa (fC .non) (aa (fC .non) (aa (ag ae 3 (aa (ac 0) (aa (f2 cO (ac 1) (fC (.int 9))) (aa (fC (.int 30)) ah)))) ah)))) (ag ae 3 (aa (ac 0) (aa (f2 cO (ac 1) (fC (.int 8))) (aa (fC (.int 3)) ah)))))) (dI (eK 9 (f2 ixD (bK (aa (fC (.str "any")) (aa (fC (.str "near")) ah))) (ag ae 3 (aa (ac 0) (aa (f2 cO (ac 1) (fC (.int 11))) (aa (fC (.int 2)) ah)))))) (dI (eK 10 (f2 eqX (ag ae 3 (aa (ac 0) (aa (f2 cO (ac 1) (fC (.int 10))) (aa (fC (.int 2)) ah)))) (fC (.int 0)))) (sE 5 (bS (aa (ac 3) (aa (ac 4) (aa (f2 ixD (ac 5) (ag ae 3 (aa (ac 0) (aa (f2 cO (ac 1) (fC (.int 2))) (aa (fC (.int 6)) ah))))) (aa (ac 6) (aa (ac 7) (aa (ac 8) (aa (ac 10) (aa (ac 9) ah))))))))))))))))))):=rfl;unfold du bp;rw [eB];simp [au,sq,az,ba,bN,bnd,ag,aa,ah,ac,fC,f2,bS,bK,sJ,dI,vK,eK,sE,qo,cO,e0,e1,e2,e3,e4,e5,e6,e7,e8,e9,e10,e11,i0,i1,i2,i4,i6,i8,i11,eL,eT,eqX,eqS]
section
variable {nm w:Str} {H P u l:Dv} {S:Bool} {R:Str} {t:List Dv} {h p:Str} {O:Dv}
theorem lL (h:R=b_ "any"∨R=b_ "near"):dL [.str R]=bo e_∧∃ r,eqX (.str R) (.str "near")=bo (!r):=by
 rcases h with rfl | rfl
 · exact ⟨by kernel_rfl,e_,by kernel_rfl⟩
 · exact ⟨by kernel_rfl,d_,by kernel_rfl⟩
theorem Gv.mu (g:Gv nm w H P u l S R):Mo u:=by
 rcases g.u with h | ⟨i,h0,h1,h2⟩
 · exact .inl h
 · exact .inr ⟨i,h0,by omega,h2⟩
theorem Gv.ml (g:Gv nm w H P u l S R):Mo l:=by
 rcases g.l with h | ⟨i,h0,h1,h2⟩
 · exact .inl h
 · exact .inr ⟨i,h0,by omega,h2⟩
theorem wJ (x:Str) {k:Bool} (e1:aB [.str x]=bo k) (g:Gv nm w H P u l S R):bI [gvn x w H P u l S R]=bo k:=by
 have e0:bQ [gvn x w H P u l S R,.int 8]=bo e_:=by kernel_rfl
 have e2:=GY g.w;have e3:=pS g.mu;have e4:=pS g.ml;have e5:=(lL g.r).1;cases k
 · rcases g.hh with rfl | ⟨n,hn,rfl⟩
   · rcases g.pp with rfl | ⟨q,hq,rfl⟩
     · simp [bI,bp,bV,au,sq,aQ,az,bg,bN,bnd,bh,fB,toB,ag,aa,ah,ac,fC,f1,f2,ixD,atD,vOr,bK,fB1,isN,cu,aD,e0,e1,e2,e3,e4,e5,iA,dD]
     · simp [bI,bp,bV,au,sq,aQ,az,bg,aS,ba,bN,bnd,bOr,cH,bh,fB,toB,ag,al,aa,ah,ac,fC,f1,f2,ixD,atD,vOr,cK,eC,fIf,bS,bK,fB1,fM,aC,aX,isN,cY,cu,aD,bB,bx,bE,e0,e1,e2,e3,e4,e5,xJ hq,iA,dD]
   · rcases g.pp with rfl | ⟨q,hq,rfl⟩
     · simp [bI,bp,bV,au,sq,aQ,az,bg,aS,ba,bN,bnd,bOr,cH,bh,fB,toB,ag,al,aa,ah,ac,fC,f1,f2,ixD,atD,vOr,cK,eC,fIf,bS,bK,fB1,fM,aC,aX,isN,cY,cu,aD,bB,bx,bE,e0,e1,e2,e3,e4,e5,uX hn,iA,dD]
     · simp [bI,bp,bV,au,sq,aQ,az,bg,aS,ba,bN,bnd,bOr,cH,bh,fB,toB,ag,al,aa,ah,ac,fC,f1,f2,ixD,atD,vOr,cK,eC,fIf,bS,bK,fB1,fM,aC,aX,isN,cY,cu,aD,bB,bx,bE,e0,e1,e2,e3,e4,e5,uX hn,xJ hq,iA,dD]
 · rcases g.hh with rfl | ⟨n,hn,rfl⟩
   · rcases g.pp with rfl | ⟨q,hq,rfl⟩
     · simp [bI,bp,bV,au,sq,aQ,az,bg,aS,ba,bN,bnd,bOr,cH,bh,fB,toB,ag,al,aa,ah,ac,fC,f1,f2,ixD,atD,vOr,cK,eC,fIf,bS,bK,fB1,fM,aC,aX,isN,cY,cu,aD,bB,bx,bE,e0,e1,e2,e3,e4,e5,iA,dD]
     · simp [bI,bp,bV,au,sq,aQ,az,bg,aS,ba,bN,bnd,bOr,cH,bh,fB,toB,ag,al,aa,ah,ac,fC,f1,f2,ixD,atD,vOr,cK,eC,fIf,bS,bK,fB1,fM,aC,aX,isN,cY,cu,aD,bB,bx,bE,e0,e1,e2,e3,e4,e5,xJ hq,iA,dD]
   · rcases g.pp with rfl | ⟨q,hq,rfl⟩
     · simp [bI,bp,bV,au,sq,aQ,az,bg,aS,ba,bN,bnd,bOr,cH,bh,fB,toB,ag,al,aa,ah,ac,fC,f1,f2,ixD,atD,vOr,cK,eC,fIf,bS,bK,fB1,fM,aC,aX,isN,cY,cu,aD,bB,bx,bE,e0,e1,e2,e3,e4,e5,uX hn,iA,dD]
     · simp [bI,bp,bV,au,sq,aQ,az,bg,aS,ba,bN,bnd,bOr,cH,bh,fB,toB,ag,al,aa,ah,ac,fC,f1,f2,ixD,atD,vOr,cK,eC,fIf,bS,bK,fB1,fM,aC,aX,isN,cY,cu,aD,bB,bx,bE,e0,e1,e2,e3,e4,e5,uX hn,xJ hq,iA,dD]
theorem uA (g:Gv nm w H P u l S R):bI [gvn nm w H P u l S R]=bo e_:=wJ nm (GX g.nm) g
def word (fo op un mk fr:Bool):Dv:=if fo then .str "foreign" else if op then .str "open" else if un then .str "unsafe" else if mk then .str "marked" else if fr then .str "far" else .non
theorem word_of (ht:t∈jw rules) (a:Ak h p O) (g:Gv nm w H P u l S R) {fo op km nr r:Bool} {s:Bool}
 (hK:bw [.tup t,akn s h p O,gvn nm w H P u l S R]=bo km)
 (hN:aj [.tup t,akn s h p O]=bo nr) (hr:eqX (.str R) (.str "near")=bo (!r))
 (hH:(H=.non∧fo=d_∧op=d_)∨∃ n q k,H=.str n∧aI [.str h,.str n]=bo (!fo)∧neX (.str n) (.str h)=bo q∧fD [.tup t,.str n]=bo k∧op=(q && k)) :
 aJ [.tup t,akn s h p O,gvn nm w H P u l S R]=a_ (.ok (word fo op (S && !s) (!km) (!r && !nr))):=by
 have e1:=ED (gI ht);have e3:=HU (uA g);have e2:=EE (wD (s:=s) a);rcases hH with ⟨rfl,rfl,rfl⟩ | ⟨n,q,k,rfl,h1,h2,h3,rfl⟩
 · cases km <;> cases r <;> cases nr <;> cases S <;> cases s <;> simp [aJ,eE,bH,au,sq,aQ,az,bg,aS,ba,bN,bnd,cH,bh,fB,toB,ag,al,aa,ah,ac,fC,f2,ixD,atD,cY,e1,e2,e3,hK,hN,hr,word]
 · cases fo with
   | true=>simp [aJ,eE,bH,au,sq,aQ,az,bg,aS,ba,bN,bnd,bOr,cH,bh,fB,toB,ag,al,aa,ah,ac,fC,f1,f2,ixD,atD,vOr,cK,eC,fIf,bS,bK,fB1,fM,aC,aX,isN,cY,cu,aD,bB,bx,bE,e1,e2,e3,hK,hN,hr,word,h1,h2,h3]
   | false =>
    have h4:q=e_∧k=e_∨(q && k)=d_∧(q=d_∨k=d_):=by cases q <;> cases k <;> simp
    rcases h4 with ⟨rfl,rfl⟩ | ⟨h5,h6⟩
    · simp [aJ,eE,bH,au,sq,aQ,az,bg,aS,ba,bN,bnd,bOr,cH,bh,fB,toB,ag,al,aa,ah,ac,fC,f1,f2,ixD,atD,vOr,cK,eC,fIf,bS,bK,fB1,fM,aC,aX,isN,cY,cu,aD,bB,bx,bE,e1,e2,e3,hK,hN,hr,word,h1,h2,h3]
    · rw [h5];have h6:q=d_∨(q=e_∧k=d_):=by cases q <;> simp at h6 ⊢; exact h6
      rcases h6 with rfl | ⟨rfl,rfl⟩
      · cases km <;> cases r <;> cases nr <;> cases S <;> cases s <;> simp [aJ,eE,bH,au,sq,aQ,az,bg,aS,ba,bN,bnd,bOr,cH,bh,fB,toB,ag,al,aa,ah,ac,fC,f1,f2,ixD,atD,vOr,cK,eC,fIf,bS,bK,fB1,fM,aC,aX,isN,cY,cu,aD,bB,bx,bE,e1,e2,e3,hK,hN,hr,word,h1,h2,h3]
      · cases km <;> cases r <;> cases nr <;> cases S <;> cases s <;> simp [aJ,eE,bH,au,sq,aQ,az,bg,aS,ba,bN,bnd,bOr,cH,bh,fB,toB,ag,al,aa,ah,ac,fC,f1,f2,ixD,atD,vOr,cK,eC,fIf,bS,bK,fB1,fM,aC,aX,isN,cY,cu,aD,bB,bx,bE,e1,e2,e3,hK,hN,hr,word,h1,h2,h3]
def mark (q1 q2 S ex pe:Bool):Bool:=(q1 && !S) || (q2 && !(S && (ex && pe)))
theorem uB {pe ex:Bool} {s:Bool} (hnm:nm∈nms) (hP:eqX P (.str "/")=bo pe) (hW:cz [.tup t,akn s h p O,gvn nm w H P u l S R]=bo ex):bw [.tup t,akn s h p O,gvn nm w H P u l S R]=bo (!mark (Jv nm (b_ "safe-")) (Jv nm (b_ "own-")) S ex pe):=by
 have hm:=IU hnm;cases q1:Jv nm (b_ "safe-") with
 | true =>
  rw [q1] at hm;have q2:Jv nm (b_ "own-")=d_:=by simpa using hm
  rw [q2];cases S <;> simp [bw,bp,bO,au,sq,aQ,az,bg,ba,bN,bnd,fB,toB,ag,aa,ah,ac,fC,f2,ixD,atD,cK,fM,l4,q1,mark]
 | false =>
  cases q2:Jv nm (b_ "own-") with
  | true =>
   cases S <;> cases ex <;> cases pe <;> simp [bw,bp,bO,au,sq,aQ,az,bg,aS,ba,bN,bnd,bOr,cH,bh,fB,toB,ag,al,aa,ah,ac,fC,f1,f2,ixD,atD,vOr,cK,eC,fIf,bS,bK,fB1,fM,aC,aX,isN,cY,cu,aD,bB,bx,bE,l4,q1,q2,hW,hP,mark]
  | false=>simp [bw,bp,bO,au,sq,aQ,az,bg,aS,ba,bN,bnd,bOr,cH,bh,fB,toB,ag,al,aa,ah,ac,fC,f1,f2,ixD,atD,vOr,cK,eC,fIf,bS,bK,fB1,fM,aC,aX,isN,cY,cu,aD,bB,bx,bE,l4,q1,q2,mark]
structure Wt (t:List Dv) (h p:Str) (O:Dv) (nm w:Str) (H P u l:Dv) (S:Bool) (R:Str) (s:Bool) (house path:Str) (ex:Bool) (wd:Dv):Prop where
 hs:house∈En
 ph:path∈pths
 win:wd=.non∨∃ x∈["foreign","open","unsafe","marked","far"],wd=.str (b_ x)
 why:aJ [.tup t,akn s h p O,gvn nm w H P u l S R]=a_ (.ok wd)
 hf:el [akn s h p O,gvn nm w H P u l S R]=a_ (.ok (.str house))
 hl:(H=.non∧house=h)∨H=.str house
 ix:cz [.tup t,akn s h p O,gvn nm w H P u l S R]=bo ex
 pf:di [akn s h p O,gvn nm w H P u l S R]=a_ (.ok (.str path))
 un:wd=.non→s=d_→S=d_
theorem uC (fo op un mk fr:Bool):word fo op un mk fr=.non∨∃ x∈["foreign","open","unsafe","marked","far"],word fo op un mk fr=.str (b_ x):=by
 cases fo <;> cases op <;> cases un <;> cases mk <;> cases fr <;> first | exact .inl rfl | exact .inr ⟨"foreign",by simp,rfl⟩ | exact .inr ⟨"open",by simp,rfl⟩ | exact .inr ⟨"unsafe",by simp,rfl⟩ | exact .inr ⟨"marked",by simp,rfl⟩ | exact .inr ⟨"far",by simp,rfl⟩
theorem uD {fo op mk fr S s:Bool} (h:word fo op (S && !s) mk fr=.non) (hs:s=d_):S=d_:=by
 subst hs;cases S
 · rfl
 · cases fo <;> cases op <;> cases h
theorem GZ (ht:t∈jw rules) (a:Ak h p O) (g:Gv nm w H P u l S R) (s:Bool):∃ house path ex wd,Wt t h p O nm w H P u l S R s house path ex wd:=by
 obtain ⟨nr,hN⟩:=DI ht a;obtain ⟨_,r,r2⟩:=lL g.r;have hP:∃ pe,eqX P (.str "/")=bo pe:=by
  rcases g.pp with rfl | ⟨q,_,rfl⟩
  · exact ⟨d_,rfl⟩
  · exact ⟨_,rfl⟩
 obtain ⟨pe,hP⟩:=hP;have hpath:∃ path∈pths,di [akn s h p O,gvn nm w H P u l S R]=a_ (.ok (.str path)):=by
  rcases g.pp with rfl | ⟨q,hq,rfl⟩
  · obtain ⟨f,hf,k2⟩:=IV a.p;exact ⟨f,hf,by simp [di,eE,ez,au,sq,aQ,az,bg,bN,bnd,fB,toB,al,aa,ah,ac,fC,f2,ixD,atD,isN,k2]⟩
  · exact ⟨q,hq,by simp [di,eE,ez,au,sq,aQ,az,bg,aS,ba,bN,bnd,bOr,cH,bh,fB,toB,ag,al,aa,ah,ac,fC,f1,f2,ixD,atD,vOr,cK,eC,fIf,bS,bK,fB1,fM,aC,aX,isN,cY,cu,aD,bB,bx,bE]⟩
 obtain ⟨path,hpm,hpf⟩:=hpath;rcases g.hh with rfl | ⟨n,hn,rfl⟩
 · have hW:cz [.tup t,akn s h p O,gvn nm w .non P u l S R]=bo e_:=by simp [cz,bp,fE,au,sq,aQ,az,bg,aS,ba,bN,bnd,bOr,cH,bh,fB,toB,ag,al,aa,ah,ac,fC,f1,f2,ixD,atD,vOr,cK,eC,fIf,bS,bK,fB1,fM,aC,aX,isN,cY,cu,aD,bB,bx,bE]
   have k1:=word_of (fo:=d_) (op:=d_) ht a g (uB g.nm hP hW) (hN s) r2 (.inl ⟨rfl,rfl,rfl⟩);rw [Qn] at k1;exact ⟨h,path,e_,_,a.h,hpm,uC _ _ _ _ _,k1,by simp [el,bp,ei,au,sq,aQ,az,bg,aS,ba,bN,bnd,bOr,cH,bh,fB,toB,ag,al,aa,ah,ac,fC,f1,f2,ixD,atD,vOr,cK,eC,fIf,bS,bK,fB1,fM,aC,aX,isN,cY,cu,aD,bB,bx,bE],.inl ⟨rfl,rfl⟩,hW,hpf,uD⟩
 · obtain ⟨m,o,hm,_,_⟩:=ur ht hn;obtain ⟨wi,hwi⟩:=HS (a.h) hn;have hop:fD [.tup t,.str n]=bo (seq m n):=by simp [fD,bp,iL,au,sq,aQ,az,bg,aS,ba,bN,bnd,bOr,cH,bh,fB,toB,ag,al,aa,ah,ac,fC,f1,f2,ixD,atD,vOr,cK,eC,fIf,bS,bK,fB1,fM,aC,aX,isN,cY,cu,aD,bB,bx,bE,hm,eqX,eqS]
   have hW:cz [.tup t,akn s h p O,gvn nm w (.str n) P u l S R]=bo (seq n h && seq m n):=by
    simp [cz,bp,fE,au,sq,aQ,az,bg,aS,ba,bN,bnd,bOr,cH,bh,fB,toB,ag,al,aa,ah,ac,fC,f1,f2,ixD,atD,vOr,cK,eC,fIf,bS,bK,fB1,fM,aC,aX,isN,cY,cu,aD,bB,bx,bE,hop,eqX,eqS];cases seq n h <;> simp [au,sq,aQ,az,bg,aS,ba,bN,bnd,bOr,cH,bh,fB,toB,ag,al,aa,ah,ac,fC,f1,f2,ixD,atD,vOr,cK,eC,fIf,bS,bK,fB1,fM,aC,aX,isN,cY,cu,aD,bB,bx,bE]
   have k1:=word_of (fo:=!wi) (op:=!seq n h && seq m n) ht a g (uB g.nm hP hW) (hN s) r2 (.inr ⟨n,!seq n h,seq m n,rfl,by rw [hwi,Qn],by simp [neX,eqS],hop,rfl⟩);rw [Qn] at k1;exact ⟨n,path,_,_,hn,hpm,uC _ _ _ _ _,k1,by simp [el,bp,ei,au,sq,aQ,az,bg,aS,ba,bN,bnd,bOr,cH,bh,fB,toB,ag,al,aa,ah,ac,fC,f1,f2,ixD,atD,vOr,cK,eC,fIf,bS,bK,fB1,fM,aC,aX,isN,cY,cu,aD,bB,bx,bE],.inr rfl,hW,hpf,uD⟩
end
theorem fV (a b:Str):(a ++ b).length=a.length + b.length:=N5
theorem lM (a b c:Str):a ++ b ++ c=a ++ (b ++ c):=by
 show Str.mk (a.cps ++ b.cps ++ c.cps)=Str.mk (a.cps ++ (b.cps ++ c.cps));rw [NY]
theorem DM (a:Str):a ++ b_ ""=a:=by
 show Str.mk (a.cps ++ #[])=a;rw [Array.append_empty]
def step (t:Str) (o:Option Str):Str:=match o with
 | none=>t
 | some y=>t ++ b_ "; " ++ y
theorem iO (t:Str) (o:Option Str) (B:Nat) (h:∀ y,o=a_ y→y.length≤B):(step t o).length≤t.length + 2 + B:=by
 cases o with
 | none=>show t.length≤_; omega
 | some y =>
  have:=h y rfl;show (t ++ b_ "; " ++ y).length≤_;rw [fV,fV];have e:(b_ "; ").length=2:=by decide
  omega
theorem kb (sep:Str):∀ (l:List Str) (x:Str),L9 sep (x :: l)=l.foldl (fun t y=>t ++ sep ++ y) x
 | [],x=>rfl
 | y :: l,x=>kb sep l (x ++ sep ++ y)
theorem gS (t:Str) (o:Option Str) (l:List Str):(o.toList ++ l).foldl (fun t y=>t ++ b_ "; " ++ y) t=l.foldl (fun t y=>t ++ b_ "; " ++ y) (step t o):=by
 cases o <;> rfl
def eS:Option Str→Dv
 | none=>.non
 | some x=>.str x
def eO:Option Int→Dv
 | none=>.non
 | some x=>.int x
def is (i:Int):Str:=b_ (toString i)
theorem xK {i:Int} (h0:0≤i) (h1:i≤9999):(is i).length≤10001:=by
 have:=PyProof.Rows.len_str_of_int i;unfold is;omega
theorem G0 {i:Int} (h0:0≤i) (h1:i≤9999):Ge [.int i]=a_ (.ok (.str (is i))):=by
 show (if i.natAbs.log2 < 1920 then _ else ck)=_;rw [if_pos]
 · rfl
 · have e:i.natAbs < 2 ^ 1920:=G_ (show i.natAbs < 2 ^ 14 by omega) (Nat.pow_le_pow_right (by decide) (by decide));by_cases z:i.natAbs=0
   · rw [z]; decide
   · exact (Nat.log2_lt z).mpr e
structure Vv (nm w:Str) (h p:Option Str) (u l:Option Int) (R:Str):Prop where
 nm:nm.length≤50
 w:w.length≤50
 h:∀ x,h=a_ x→x.length≤50
 p:∀ x,p=a_ x→x.length≤50
 u:∀ i,u=a_ i→0≤i∧i≤9999
 l:∀ i,l=a_ i→0≤i∧i≤9999
abbrev gv (nm w:Str) (h p:Option Str) (u l:Option Int) (S:Bool) (R:Str):Dv:=.tup [.str nm,.str w,eS h,eS p,eO u,eO l,.bl S,.str R]
def oS (pre:String) (h:Option Str):Option Str:=h.map fun x=>b_ pre ++ x
def oI (pre:String) (h:Option Int):Option Str:=h.map fun x=>b_ pre ++ is x
def oB (x:String) (b:Bool):Option Str:=if b then a_ (b_ x) else ck
def Tz0 (nm w:Str):Str:=nm ++ b_ "=" ++ w
def jc (R:Str):Bool:=seq R (b_ "near")
def T (nm w:Str) (h p:Option Str) (u l:Option Int) (S:Bool) (R:Str):Str:=step (step (step (step (step (step (Tz0 nm w) (oS "for " h)) (oS "under " p)) (oI "until " u)) (oI "lasts " l)) (oB "safe" S)) (oB "near" (jc R))
theorem G1 {x y:Str} (h:x.length + y.length≤100000):cO (.str x) (.str y)=a_ (.ok (.str (x ++ y))):=by
 show (if x.length + y.length≤100000 then _ else ck)=_;rw [if_pos h]
theorem jm {x y:Str} (h:x.length + y.length≤100000):bP (.str x) (.str y)=a_ (.ok (.str (x ++ y))):=G1 h
theorem kJ (o:Option Str):o.toList.length≤1:=by cases o <;> simp
section
variable {nm w:Str} {h p:Option Str} {u l:Option Int} {S:Bool} {R:Str}
theorem HV {pre:String} (hp:(b_ pre).length≤10) (hh:∀ x,h=a_ x→x.length≤50):∀ y,oS pre h=a_ y→y.length≤60:=by
 intro y hy;cases h with
 | none=>cases hy
 | some x=>cases hy; rw [fV]; have:=hh x rfl; omega
theorem HW {pre:String} (hp:(b_ pre).length≤10) (hh:∀ x,u=a_ x→0≤x∧x≤9999):∀ y,oI pre u=a_ y→y.length≤10020:=by
 intro y hy;cases u with
 | none=>cases hy
 | some x=>cases hy; rw [fV]; have:=xK (hh x rfl).1 (hh x rfl).2; omega
theorem IW {x:String} {b:Bool} (hp:(b_ x).length≤10):∀ y,oB x b=a_ y→y.length≤60:=by
 intro y hy;cases b with
 | false=>cases hy
 | true=>cases hy; omega
end
theorem wK {f:FnE} {ρ:Ev} {d:Dv} (h:f ρ=a_ (.ok d)):az f ρ=a_ (.rt d):=by unfold az; rw [h]; rfl
section
variable {nm w:Str} {h p:Option Str} {u l:Option Int} {S:Bool} {R:Str}
def EL (nm w:Str) (h p:Option Str) (u l:Option Int) (S:Bool) (R:Str) (t:Str) (a b:Option Dv):Ev:=[a_ (gv nm w h p u l S R),a_ (.str nm),a_ (.str w),a_ (eS h),a_ (eS p),a_ (eO u),a_ (eO l),a_ (.bl S),a_ (.str R),a_ (.str t),a,b]
theorem mY {t wd:Str} {a b:Option Dv} {ds:List Dv}:gU (gP 10 11) [11,10] aH (.tup [.str wd,.non] :: ds) (EL nm w h p u l S R t a b)=gU (gP 10 11) [11,10] aH ds (EL nm w h p u l S R t (a_ (.str wd)) (a_ .non)):=rfl
theorem kK {t wd y:Str} {d:Dv} {a b:Option Dv} {ds:List Dv} (hn:cY d .non=bo e_) (hs:Au [d]=a_ (.ok (.str y))) (hl:t.length + 2 + wd.length + 1 + y.length≤100000) :
 gU (gP 10 11) [11,10] aH (.tup [.str wd,d] :: ds) (EL nm w h p u l S R t a b)=gU (gP 10 11) [11,10] aH ds (EL nm w h p u l S R (t ++ b_ "; " ++ wd ++ b_ " " ++ y) (a_ (.str wd)) (a_ d)):=by
 have e2:(b_ "; ").length=2:=by decide
 have e1:(b_ " ").length=1:=by decide
 have hb:aH (EL nm w h p u l S R t (a_ (.str wd)) (a_ d))=a_ (.nx (EL nm w h p u l S R (t ++ b_ "; " ++ wd ++ b_ " " ++ y) (a_ (.str wd)) (a_ d))):=by
  have c:fB (f2 cY (ac 11) (fC .non)) (EL nm w h p u l S R t (a_ (.str wd)) (a_ d))=a_ (.ok e_):=bM hn;have z:f2 bP (f2 bP (f2 bP (f2 bP (ac 9) (fC (.str "; "))) (ac 10)) (fC (.str " "))) (fB1 Au (aa (ac 11) ah)) (EL nm w h p u l S R t (a_ (.str wd)) (a_ d))=a_ (.ok (.str (t ++ b_ "; " ++ wd ++ b_ " " ++ y))):=by
   refine (bD ((bD ((bD ((bD (x:=.str t) (y:=.str "; ") rfl rfl).trans (jm (by omega))) (y:=.str wd) rfl).trans (jm (by rw [fV]; omega))) (y:=.str " ") rfl).trans (jm (by rw [fV,fV]; omega))) ((dt (ai (x:=d) rfl aM)).trans hs)).trans ?_;exact jm (by rw [fV,fV,fV]; omega)
  unfold aH aQ;rw [c];exact aV z rfl
 show (match aH (EL nm w h p u l S R t (a_ (.str wd)) (a_ d)) with
  | some (.nx ρ')=>gU (gP 10 11) [11,10] aH ds ρ'
  | o=>o)=_
 rw [hb]
theorem xL (t wd wd' y:Str) (hw:wd ++ b_ " "=wd'):t ++ b_ "; " ++ wd ++ b_ " " ++ y=t ++ b_ "; " ++ (wd' ++ y):=by
 rw [lM (t ++ b_ "; ") wd,hw,lM (t ++ b_ "; ") wd']
theorem DN {t wd wd':Str} {o:Option Str} {a b:Option Dv} {ds:List Dv} (hw:wd ++ b_ " "=wd') (ho:∀ x,o=a_ x→x.length≤50) (hl:t.length≤80000) (hwl:wd.length≤10) :
 ∃ a' b',gU (gP 10 11) [11,10] aH (.tup [.str wd,eS o] :: ds) (EL nm w h p u l S R t a b)=gU (gP 10 11) [11,10] aH ds (EL nm w h p u l S R (step t (o.map fun x=>wd' ++ x)) a' b'):=by
 cases o with
 | none=>exact ⟨_,_,mY⟩
 | some x =>
  have:=ho x rfl;refine ⟨a_ (.str wd),a_ (.str x),(kK (d:=.str x) (y:=x) rfl rfl (by omega)).trans ?_⟩;rw [xL t wd wd' x hw]; rfl
theorem DO {t wd wd':Str} {o:Option Int} {a b:Option Dv} {ds:List Dv} (hw:wd ++ b_ " "=wd') (ho:∀ x,o=a_ x→0≤x∧x≤9999) (hl:t.length≤80000) (hwl:wd.length≤10) :
 ∃ a' b',gU (gP 10 11) [11,10] aH (.tup [.str wd,eO o] :: ds) (EL nm w h p u l S R t a b)=gU (gP 10 11) [11,10] aH ds (EL nm w h p u l S R (step t (o.map fun x=>wd' ++ is x)) a' b'):=by
 cases o with
 | none=>exact ⟨_,_,mY⟩
 | some x =>
  have:=ho x rfl;have:=xK this.1 this.2;have e:Au [.int x]=a_ (.ok (.str (is x))):=G0 (ho x rfl).1 (ho x rfl).2;refine ⟨a_ (.str wd),a_ (.int x),(kK (d:=.int x) (y:=is x) rfl e (by omega)).trans ?_⟩;rw [xL t wd wd' (is x) hw]; rfl
theorem zP (v:Vv nm w h p u l R):dZ [gv nm w h p u l S R]=a_ (.ok (.str (T nm w h p u l S R))):=by
 have l1:=v.nm;have l2:=v.w;have lq:(b_ "=").length=1:=by decide
 have b0:(Tz0 nm w).length≤200:=by unfold Tz0; rw [fV,fV]; omega
 have b1:=iO (Tz0 nm w) (oS "for " h) 60 (HV (by decide) v.h);have b2:=iO (step (Tz0 nm w) (oS "for " h)) (oS "under " p) 60 (HV (by decide) v.p);have b3:=iO (step (step (Tz0 nm w) (oS "for " h)) (oS "under " p)) (oI "until " u) 10020 (HW (by decide) v.u);have b4:=iO (step (step (step (Tz0 nm w) (oS "for " h)) (oS "under " p)) (oI "until " u)) (oI "lasts " l) 10020 (HW (by decide) v.l);obtain ⟨a1,c1,e1⟩:=DN (nm:=nm) (w:=w) (h:=h) (p:=p) (u:=u) (l:=l) (S:=S) (R:=R) (t:=Tz0 nm w) (wd:=b_ "for") (wd':=b_ "for ") (o:=h) (a:=ck) (b:=ck) (ds:=[.tup [.str "under",eS p],.tup [.str "until",eO u],.tup [.str "lasts",eO l]]) (by kernel_rfl) v.h (by omega) (by decide);obtain ⟨a2,c2,e2⟩:=DN (nm:=nm) (w:=w) (h:=h) (p:=p) (u:=u) (l:=l) (S:=S) (R:=R) (t:=step (Tz0 nm w) (oS "for " h)) (wd:=b_ "under") (wd':=b_ "under ") (o:=p) (a:=a1) (b:=c1) (ds:=[.tup [.str "until",eO u],.tup [.str "lasts",eO l]]) (by kernel_rfl) v.p (by omega) (by decide);obtain ⟨a3,c3,e3⟩:=DO (nm:=nm) (w:=w) (h:=h) (p:=p) (u:=u) (l:=l) (S:=S) (R:=R) (t:=step (step (Tz0 nm w) (oS "for " h)) (oS "under " p)) (wd:=b_ "until") (wd':=b_ "until ") (o:=u) (a:=a2) (b:=c2) (ds:=[.tup [.str "lasts",eO l]]) (by kernel_rfl) v.u (by omega) (by decide);obtain ⟨a4,c4,e4⟩:=DO (nm:=nm) (w:=w) (h:=h) (p:=p) (u:=u) (l:=l) (S:=S) (R:=R) (t:=step (step (step (Tz0 nm w) (oS "for " h)) (oS "under " p)) (oI "until " u)) (wd:=b_ "lasts") (wd':=b_ "lasts ") (o:=l) (a:=a3) (b:=c3) (ds:=[]) (by kernel_rfl) v.l (by omega) (by decide)
 let t4:Str:=step (step (step (step (Tz0 nm w) (oS "for " h)) (oS "under " p)) (oI "until " u)) (oI "lasts " l)
 have t4l:t4.length≤90000:=by show (step (step (step (step (Tz0 nm w) (oS "for " h)) (oS "under " p)) (oI "until " u)) (oI "lasts " l)).length≤_; omega
 have hloop:gU (gP 10 11) [11,10] aH [.tup [.str "for",eS h],.tup [.str "under",eS p],.tup [.str "until",eO u],.tup [.str "lasts",eO l]] (EL nm w h p u l S R (Tz0 nm w) ck ck)=a_ (.nx (EL nm w h p u l S R t4 ck ck)) :=
  e1.trans (e2.trans (e3.trans (e4.trans rfl)))
 have hsrc:(fun ρ=>bnd ((aa (bS (aa (fC (.str "for")) (aa (fC (.str "under")) (aa (fC (.str "until")) (aa (fC (.str "lasts")) ah))))) (aa (eD (ac 0) (cg (fC (.int 2))) (cg (fC (.int 6)))) ah)) ρ) As) (EL nm w h p u l S R (Tz0 nm w) ck ck)=a_ (.ok [.tup [.str "for",eS h],.tup [.str "under",eS p],.tup [.str "until",eO u],.tup [.str "lasts",eO l]]):=by kernel_rfl
 have v9:f2 bP (f2 bP (ac 1) (fC (.str "="))) (ac 2) [a_ (gv nm w h p u l S R),a_ (.str nm),a_ (.str w),a_ (eS h),a_ (eS p),a_ (eO u),a_ (eO l),a_ (.bl S),a_ (.str R),ck,ck,ck]=a_ (.ok (.str (Tz0 nm w))) :=
  (bD ((bD (x:=.str nm) (y:=.str "=") rfl rfl).trans (jm (by omega))) (y:=.str w) rfl).trans (jm (by rw [fV]; omega))
 have f1:fIf (fB (ac 7)) (fC (.str "; safe")) (fC (.str "")) (EL nm w h p u l S R t4 ck ck)=a_ (.ok (.str (if S then b_ "; safe" else b_ ""))):=by cases S <;> rfl
 have g1:t4 ++ (if S then b_ "; safe" else b_ "")=step t4 (oB "safe" S):=by
  cases S
  · exact DM t4
  · show t4 ++ b_ "; safe"=t4 ++ b_ "; " ++ b_ "safe";rw [lM];rfl
 have b5:=iO t4 (oB "safe" S) 60 (IW (by decide));have z1:f2 bP (ac 9) (fIf (fB (ac 7)) (fC (.str "; safe")) (fC (.str ""))) (EL nm w h p u l S R t4 ck ck)=a_ (.ok (.str (step t4 (oB "safe" S)))):=by
  rw [← g1];refine (bD (x:=.str t4) rfl f1).trans (jm ?_);have:(if S then b_ "; safe" else b_ "").length≤10:=by cases S <;> decide
  omega
 have f2':fIf (fB (f2 eqX (ac 8) (fC (.str "near")))) (fC (.str "; near")) (fC (.str "")) (EL nm w h p u l S R t4 ck ck)=a_ (.ok (.str (if jc R then b_ "; near" else b_ ""))):=by
  have c:fB (f2 eqX (ac 8) (fC (.str "near"))) (EL nm w h p u l S R t4 ck ck)=a_ (.ok (jc R)):=rfl;unfold fIf;rw [c];cases jc R <;> rfl
 have g2:∀ t:Str,t ++ (if jc R then b_ "; near" else b_ "")=step t (oB "near" (jc R)):=by
  intro t;cases jc R
  · exact DM t
  · show t ++ b_ "; near"=t ++ b_ "; " ++ b_ "near";rw [lM];rfl
 have z2:(f2 bP (f2 bP (ac 9) (fIf (fB (ac 7)) (fC (.str "; safe")) (fC (.str "")))) (fIf (fB (f2 eqX (ac 8) (fC (.str "near")))) (fC (.str "; near")) (fC (.str "")))) (EL nm w h p u l S R t4 ck ck)=a_ (.ok (.str (T nm w h p u l S R))):=by
  refine (bD z1 f2').trans ((jm ?_).trans ?_)
  · have:(if jc R then b_ "; near" else b_ "").length≤10:=by cases jc R <;> decide
    omega
  · rw [g2]; rfl
 refine fY ?_;show dX [a_ (gv nm w h p u l S R),ck,ck,ck,ck,ck,ck,ck,ck,ck,ck,ck]=_;unfold dX;rw [am (show B8 [1,2,3,4] (eD (ac 0) dc (cg (fC (.int 4)))) [a_ (gv nm w h p u l S R),ck,ck,ck,ck,ck,ck,ck,ck,ck,ck,ck]=a_ (.nx [a_ (gv nm w h p u l S R),a_ (.str nm),a_ (.str w),a_ (eS h),a_ (eS p),ck,ck,ck,ck,ck,ck,ck]) by kernel_rfl)];rw [am (show B8 [5,6,7,8] (eD (ac 0) (cg (fC (.int 4))) dc) [a_ (gv nm w h p u l S R),a_ (.str nm),a_ (.str w),a_ (eS h),a_ (eS p),ck,ck,ck,ck,ck,ck,ck]=a_ (.nx [a_ (gv nm w h p u l S R),a_ (.str nm),a_ (.str w),a_ (eS h),a_ (eS p),a_ (eO u),a_ (eO l),a_ (.bl S),a_ (.str R),ck,ck,ck]) by kernel_rfl)];rw [am (aV (ρ':=EL nm w h p u l S R (Tz0 nm w) ck ck) v9 rfl)];have hfor:qt (gP 10 11) [11,10] (fun ρ=>bnd ((aa (bS (aa (fC (.str "for")) (aa (fC (.str "under")) (aa (fC (.str "until")) (aa (fC (.str "lasts")) ah))))) (aa (eD (ac 0) (cg (fC (.int 2))) (cg (fC (.int 6)))) ah)) ρ) As) aH (EL nm w h p u l S R (Tz0 nm w) ck ck)=a_ (.nx (EL nm w h p u l S R t4 ck ck)):=by
  unfold qt;rw [hsrc];exact hloop
 rw [am hfor];exact wK z2
end
def mZ (p:Str):Option (Nat×Dv):=match aU [.str p] with
 | some (.ok (.tup [.int k,d]))=>a_ (k.toNat,d)
 | _=>ck
def eT:Option (Nat×Dv)→Dv
 | none=>.non
 | some (k,d)=>.tup [.int k,d]
def okT (p:Str):Bool:=match aU [.str p] with
 | some (.ok .non)=>e_
 | some (.ok (.tup [.int k,_]))=>u_ (2≤k) && u_ (k < 8)
 | _=>d_
theorem zQ {p:Str} (h:okT p=e_):aU [.str p]=a_ (.ok (eT (mZ p)))∧∀ k d,mZ p=a_ (k,d)→2≤k∧k < 8:=by
 unfold okT at h;unfold mZ;split at h
 · rename_i e; rw [e]; exact ⟨rfl,fun k d z=>by cases z⟩
 · rename_i k d e;rw [e];rw [on,decide_eq_true_eq,decide_eq_true_eq] at h;refine ⟨?_,fun k' d' z=>?_⟩
   · show _=a_ (Rs.ok (Dv.tup [.int (k.toNat:Int),d]));rw [Int.toNat_of_nonneg (by omega)]
   · cases z; omega
 · cases h
def blk:Str:=b_ " "
def bl2:Str:=b_ "  "
def fF (pre p post:Str):Bool:=seq (KR (pre ++ p ++ post) blk) p && !((pre ++ p ++ post).cps.toList.contains 59)
def emp:Str:=b_ ""
def okS (p:Str):Bool:=fF emp p emp && (fF blk p emp && (fF bl2 p bl2 && (fF emp p bl2 && (fF bl2 p emp && u_ (p.length≤200)))))
def HX (p:Str):Bool:=okT p && okS p
def IX:List Str:=[b_ "x=y",b_ "until",b_ "for A",b_ "under b",b_ "lasts 99999",b_ "SAFE",b_ "",b_ "safe near",b_ "until  7"]
def DP:List Str:=[b_ "until 17",b_ "under /q",b_ "lasts 4",b_ "for q.r"]
def m5 (n:Nat):List Int:=(pi n).map fun i:Nat=>(i:Int)
def allP:List Str:=En.map (fun h=>b_ "for " ++ h) ++ (pths.map (fun h=>b_ "under " ++ h) ++ ((m5 60).map (fun i=>b_ "until " ++ is i) ++ ((m5 30).map (fun i=>b_ "lasts " ++ is i) ++ ([b_ "safe",b_ "near"] ++ (IX ++ DP)))))
theorem zR:allP.all HX=e_:=by kernel_rfl
theorem DQ:(En.all fun h=>match aU [.str (b_ "for " ++ h)] with | some (.ok (.tup [.int 2,.str z]))=>seq z h | _=>d_)=e_:=by kernel_rfl
theorem DR:(pths.all fun h=>match aU [.str (b_ "under " ++ h)] with | some (.ok (.tup [.int 3,.str z]))=>seq z h | _=>d_)=e_:=by kernel_rfl
theorem DS:((m5 60).all fun i=>match aU [.str (b_ "until " ++ is i)] with | some (.ok (.tup [.int 4,.int z]))=>z == i | _=>d_)=e_:=by kernel_rfl
theorem DT:((m5 30).all fun i=>match aU [.str (b_ "lasts " ++ is i)] with | some (.ok (.tup [.int 5,.int z]))=>z == i | _=>d_)=e_:=by kernel_rfl
theorem G2 {h:Str} (q:h∈En):mZ (b_ "for " ++ h)=a_ (2,.str h):=by
 have z:=aN DQ q;unfold mZ;split at z
 · rename_i y e; rw [e]; rw [eU z]; rfl
 · cases z
theorem G3 {h:Str} (q:h∈pths):mZ (b_ "under " ++ h)=a_ (3,.str h):=by
 have z:=aN DR q;unfold mZ;split at z
 · rename_i y e; rw [e]; rw [eU z]; rfl
 · cases z
theorem G4 {i:Int} (q:i∈m5 60):mZ (b_ "until " ++ is i)=a_ (4,.int i):=by
 have z:=aN DS q;unfold mZ;split at z
 · rename_i y e; rw [e]; rw [show y=i by simpa using z]; rfl
 · cases z
theorem G5 {i:Int} (q:i∈m5 30):mZ (b_ "lasts " ++ is i)=a_ (5,.int i):=by
 have z:=aN DT q;unfold mZ;split at z
 · rename_i y e; rw [e]; rw [show y=i by simpa using z]; rfl
 · cases z
theorem DU:mZ (b_ "safe")=a_ (6,.bl e_):=by kernel_rfl
theorem DV:mZ (b_ "near")=a_ (7,.str "near"):=by kernel_rfl
def put (ds:List Dv) (p:Str):List Dv:=match mZ p with
 | none=>ds
 | some (k,d)=>ds.set k d
theorem zS (ds:List Dv) (p:Str):(put ds p).length=ds.length:=by
 unfold put; split <;> simp
theorem m7:∀ l:List Str,imms (l.map Dv.str)=e_
 | []=>rfl
 | x :: l=>by show (imm (.str x) && imms (l.map Dv.str))=e_; rw [m7 l]; rfl
def ER (x:Str) (L T3:Dv) (a b:Option Dv):Ev:=[a_ (.str x),a_ L,a_ T3,ck,a,b]
theorem zT {x p:Str} {L T3:Dv} {b:Option Dv} {ds:List Dv} (h:okT p=e_) (hl:ds.length=8):∃ b',bq (ER x L T3 (a_ (.str p)) b) ds=a_ (.nx (ER x L T3 (a_ (.str p)) b') (put ds p)):=by
 obtain ⟨e,hk⟩:=zQ h;refine ⟨a_ (eT (mZ p)),?_⟩;have e1:eK 5 (ag aU 1 (aa (ac 4) ah)) (ER x L T3 (a_ (.str p)) b) ds=a_ (.nx (ER x L T3 (a_ (.str p)) (a_ (eT (mZ p)))) ds):=by
  unfold eK;rw [jr aU (f:=ac 4) (ρ:=ER x L T3 (a_ (.str p)) b) (a:=.str p) rfl e];rfl
 unfold bq;show (match eK 5 (ag aU 1 (aa (ac 4) ah)) (ER x L T3 (a_ (.str p)) b) ds with
  | some (.nx ρ' ds')=>(oIf (fB (f2 cY (ac 5) (fC .non))) (pI (f2 ixD (ac 5) (fC (.int 0))) (f2 ixD (ac 5) (fC (.int 1)))) Aq) ρ' ds'
  | o=>o)=_
 rw [e1];unfold put
 match ht:mZ p with
 | none=>rfl
 | some (k,d) =>
  have:=hk k d ht;show (if 0≤(k:Int)∧(k:Int) < ds.length then a_ (Fo.nx (ER x L T3 (a_ (.str p)) (a_ (.tup [.int k,d]))) (ds.set (k:Int).toNat d)) else ck)=_;rw [if_pos ⟨by omega,by omega⟩];rfl
theorem uE {x:Str} {L T3:Dv}:∀ (ps:List Str) (ds:List Dv) (a b:Option Dv),(∀ p∈ps,okT p=e_)→ds.length=8→kf 4 [4,5] bq (ps.map Dv.str) (ER x L T3 a b) ds=a_ (.nx (ER x L T3 ck ck) (ps.foldl put ds))
 | [],ds,a,b,_,_=>rfl
 | p :: ps,ds,a,b,h,hl=>by
  obtain ⟨b',e⟩:=zT (x:=x) (L:=L) (T3:=T3) (b:=ck) (ds:=ds) (h p n_) hl;show (match bq (ER x L T3 (a_ (.str p)) ck) ds with
   | some (.nx ρ' xs')=>kf 4 [4,5] bq (ps.map Dv.str) ρ' xs'
   | o=>o)=_
  rw [e];exact uE ps (put ds p) (a_ (.str p)) b' (fun q hq=>h q (o_ _ hq)) (by rw [zS]; exact hl)
def zU (nm w:Str):Bool:=okS (Tz0 nm w) && (match k8 (Tz0 nm w) [.str "="] with | some (.ok (.tup [.str a,.str b,.str c]))=>seq a nm && (seq b (b_ "=") && seq c w) | _=>d_) && (okY (aB [.str nm]) && okY (bj [.str w]))
theorem pU:(nms.all fun n=>wts.all fun w=>zU n w)=e_:=by kernel_rfl
def rd0 (nm w:Str):List Dv:=[.str nm,.str w,.non,.non,.non,.non,.bl d_,.str "any"]
theorem zV {x nm w:Str} {qs ps:List Str} (hx:x.length≤100000) (hnm:nm∈nms) (hw:w∈wts) (hs:Le x (b_ ";")=qs) (hq:qs.length≤100)
 (ht:qs.map (fun q=>KR q blk)=Tz0 nm w :: ps) (hl:∀ q∈qs,q.length≤1000) (hp:∀ p∈ps,okT p=e_):aW [.str x]=a_ (.ok (.tup (ps.foldl put (rd0 nm w)))):=by
 have hf:=aN (p:=fun w=>zU nm w) (aN (p:=fun n=>wts.all fun w=>zU n w) pU hnm) hw;unfold zU at hf;simp only [on] at hf;obtain ⟨⟨_,h2⟩,h3,h4⟩:=hf;have e3:=gc h3;have e4:=gc h4;have e2:k8 (Tz0 nm w) [.str "="]=a_ (.ok (.tup [.str nm,.str "=",.str w])):=by
  split at h2
  · rename_i a b c e;simp only [on] at h2;rw [e,eU h2.1,eU h2.2.1,eU h2.2.2]
  · cases h2
 have v1:cj 1 [] (dr (fM (fW) (ac 0) (aa (fC (.str ";")) ah))) (gN 0) ck (fM (jO) (ac 0) (aa (fC (.str " ")) ah)) [a_ (.str x),ck,ck,ck,ck,ck]=a_ (.ok (.lst ((Tz0 nm w :: ps).map Dv.str))):=by
  have hsrc:dr (fM (fW) (ac 0) (aa (fC (.str ";")) ah)) [a_ (.str x),ck,ck,ck,ck,ck]=a_ (.ok (qs.map Dv.str)):=by
   have z:fM (fW) (ac 0) (aa (fC (.str ";")) ah) [a_ (.str x),ck,ck,ck,ck,ck]=a_ (.ok (.lst (qs.map Dv.str))):=by
    show fW x [.str ";"]=_;show (if (b_ ";").length≠0∧x.length≤100000∧(Le x (b_ ";")).length≤100000 then _ else ck)=_;rw [if_pos ⟨by decide,hx,by rw [hs]; omega⟩,hs]
   unfold dr;rw [z];rfl
  have e:=mT (cs:=[]) (elt:=fM (jO) (ac 0) (aa (fC (.str " ")) ah)) Dv.str (fun q=>Dv.str (KR q blk)) hsrc (by omega) fun q hq'=>by
   show jO q [.str " "]=_;show (if q.length≤100000 then _ else ck)=_;rw [if_pos (by have:=hl q hq'; omega)];rfl
  rw [e,← ht,NB];rfl
 let L:Dv:=.lst ((Tz0 nm w :: ps).map Dv.str)
 let T3:Dv:=.tup [.str nm,.str "=",.str w]
 have v2:fM (k8) (f2 ixD (ac 1) (fC (.int 0))) (aa (fC (.str "=")) ah) [a_ (.str x),a_ L,ck,ck,ck,ck]=a_ (.ok T3):=e2;have c1:(bOr (fB (f2 eqX (f2 ixD (ac 2) (fC (.int 1))) (fC (.str "")))) (bOr (bh (fB (ag aB 1 (aa (f2 ixD (ac 2) (fC (.int 0))) ah)))) (bh (fB (ag bj 1 (aa (f2 ixD (ac 2) (fC (.int 2))) ah)))))) (ER x L T3 ck ck)=a_ (.ok d_):=by
  have y1:ag aB 1 (aa (f2 ixD (ac 2) (fC (.int 0))) ah) (ER x L T3 ck ck)=bo e_:=jr aB rfl e3;have y2:ag bj 1 (aa (f2 ixD (ac 2) (fC (.int 2))) ah) (ER x L T3 ck ck)=bo e_:=jr bj rfl e4;have y0:fB (f2 eqX (f2 ixD (ac 2) (fC (.int 1))) (fC (.str ""))) (ER x L T3 ck ck)=a_ (.ok d_):=by kernel_rfl
  unfold bOr;rw [y0];show (bOr (bh (fB (ag aB 1 (aa (f2 ixD (ac 2) (fC (.int 0))) ah)))) (bh (fB (ag bj 1 (aa (f2 ixD (ac 2) (fC (.int 2))) ah))))) (ER x L T3 ck ck)=_;unfold bOr bh;rw [bM y1,bM y2];rfl
 have hsrc2:dr (qT (ac 1) (cg (fC (.int 1))) dc) (ER x L T3 ck ck)=a_ (.ok (ps.map Dv.str)):=by
  have z:qT (ac 1) (cg (fC (.int 1))) dc (ER x L T3 ck ck)=a_ (.ok (.lst (ps.map Dv.str))):=by
   show a_ (Rs.ok (Dv.lst (xo ((Tz0 nm w :: ps).map Dv.str) (a_ 1) ck)))=_;congr 3;show (((Tz0 nm w :: ps).map Dv.str).drop (min 1 ((Tz0 nm w :: ps).map Dv.str).length)).take (((Tz0 nm w :: ps).map Dv.str).length - min 1 ((Tz0 nm w :: ps).map Dv.str).length)=_;rw [Nat.min_eq_left (by simp)];rw [Ju,List.drop_succ_cons,Ph,MX (by simp)]
  unfold dr;rw [z];rfl
 have hfor:sK 4 [4,5] (dr (qT (ac 1) (cg (fC (.int 1))) dc)) bq (ER x L T3 ck ck) (rd0 nm w)=a_ (.nx (ER x L T3 ck ck) (ps.foldl put (rd0 nm w))):=by
  unfold sK;rw [hsrc2];show (if imms (ps.map Dv.str)=e_ then _ else ck)=_;rw [if_pos (m7 ps)];exact uE ps (rd0 nm w) ck ck hp rfl
 refine kn ?_;show da [a_ (.str x),ck,ck,ck,ck,ck]=_;unfold da;rw [am (bC (show bh (fB (f1 (cu bx) (ac 0))) [a_ (.str x),ck,ck,ck,ck,ck]=a_ (.ok d_) from rfl))];rw [am (aV (ρ':=[a_ (.str x),a_ L,ck,ck,ck,ck]) v1 rfl)];rw [am (aV (ρ':=ER x L T3 ck ck) v2 rfl)];rw [am (bC c1)];unfold sJ;rw [show (aa (f2 ixD (ac 2) (fC (.int 0))) (aa (f2 ixD (ac 2) (fC (.int 2))) (aa (fC .non) (aa (fC .non) (aa (fC .non) (aa (fC .non) (aa (fC (.bl d_)) (aa (fC (.str "any")) ah)))))))) (ER x L T3 ck ck)=a_ (.ok (rd0 nm w)) from rfl];show (match (dI (sK 4 [4,5] (dr (qT (ac 1) (cg (fC (.int 1))) dc)) bq) (sE 3 (fB1 fX (aa (ac 3) ah)))) (ER x L T3 ck ck) (rd0 nm w) with
  | some (.nx ρ' ds')=>a_ (Fl.nx (ρ'.set 3 (a_ (.lst ds'))))
  | some (.rt d)=>a_ (.rt d)
  | none=>ck)=_
 unfold dI;rw [hfor];rfl
theorem gJ (a b:Str):(a ++ b).cps.toList=a.cps.toList ++ b.cps.toList:=Array.toList_append
def ko (po pr:Str):Str→Str→List Str→List Str
 | pre,x,[]=>[pre ++ x ++ emp]
 | pre,x,y :: l=>(pre ++ x ++ po) :: ko po pr pr y l
theorem pV (po pr:Str):∀ (l:List Str) (pre x:Str),∃ q r,ko po pr pre x l=q :: r
 | [],_,_=>⟨_,_,rfl⟩
 | _ :: _,_,_=>⟨_,_,rfl⟩
def JS:List Str→List Nat
 | []=>[]
 | q :: r=>J [59] q.cps.toList (r.map fun s=>s.cps.toList)
theorem uF (sep x y:Str) (l:List Str):L9 sep (x :: y :: l)=x ++ sep ++ L9 sep (y :: l):=by
 show Qg sep (x :: y :: l)=x ++ sep ++ Qg sep (y :: l);rw [OR,OR];rfl
theorem DW {sep po pr:Str} (hs:sep.cps.toList=po.cps.toList ++ 59 :: pr.cps.toList):∀ (l:List Str) (pre x:Str),pre.cps.toList ++ (L9 sep (x :: l)).cps.toList=JS (ko po pr pre x l)
 | [],pre,x=>by
  show pre.cps.toList ++ x.cps.toList=(pre ++ x ++ emp).cps.toList;rw [gJ,gJ];show _=_ ++ [];simp
 | y :: l,pre,x=>by
  have ih:=DW hs l pr y;obtain ⟨q,r,e⟩:=pV po pr l pr y;rw [uF,gJ,gJ,hs];show _=JS ((pre ++ x ++ po) :: ko po pr pr y l);rw [e] at ih ⊢;show _=(pre ++ x ++ po).cps.toList ++ ([59] ++ J [59] q.cps.toList (r.map fun s=>s.cps.toList));rw [show J [59] q.cps.toList (r.map fun s=>s.cps.toList)=JS (q :: r) from rfl,← ih,gJ,gJ];simp
def okQ (po pr p:Str):Bool:=fF emp p po && (fF emp p emp && (fF pr p po && fF pr p emp))
theorem kc {pre p post:Str} (h:fF pre p post=e_):KR (pre ++ p ++ post) blk=p∧59 ∉ (pre ++ p ++ post).cps.toList:=by
 unfold fF at h;rw [on] at h;exact ⟨eU h.1,by simpa using h.2⟩
theorem uG {po pr:Str}:∀ (l:List Str) (pre x:Str),(fF pre x po=e_∧fF pre x emp=e_)→(∀ p∈l,okQ po pr p=e_) →
 (ko po pr pre x l).map (fun q=>KR q blk)=x :: l∧∀ q∈ko po pr pre x l,59 ∉ q.cps.toList
 | [],pre,x,hx,_=>by
  obtain ⟨h1,h2⟩:=kc hx.2;exact ⟨by show [KR (pre ++ x ++ emp) blk]=[x]; rw [h1],fun q hq=>by rw [Jk.mp hq]; exact h2⟩
 | y :: l,pre,x,hx,hl=>by
  obtain ⟨h1,h2⟩:=kc hx.1;have hy:=hl y n_;unfold okQ at hy;simp only [on] at hy;obtain ⟨g1,g2⟩:=uG l pr y ⟨hy.2.2.1,hy.2.2.2⟩ fun p hp=>hl p (o_ _ hp);refine ⟨by show KR (pre ++ x ++ po) blk :: (ko po pr pr y l).map _=_; rw [h1,g1],fun q hq=>?_⟩;rcases w_.mp hq with rfl | hq
  · exact h2
  · exact g2 q hq
theorem pW {po pr:Str} (h1:po.length≤2) (h2:pr.length≤2):∀ (l:List Str) (pre x:Str),pre.length≤2→x.length≤200→(∀ p∈l,p.length≤200)→(ko po pr pre x l).length=l.length + 1∧∀ q∈ko po pr pre x l,q.length≤300
 | [],pre,x,hp,hx,_=>⟨rfl,fun q hq=>by
  rw [Jk.mp hq,fV,fV];have:emp.length=0:=by decide
  omega⟩
 | y :: l,pre,x,hp,hx,hl=>by
  obtain ⟨g1,g2⟩:=pW h1 h2 l pr y h2 (hl y n_) fun p hp=>hl p (o_ _ hp);refine ⟨by show (ko po pr pr y l).length + 1=_; rw [g1]; rfl,fun q hq=>?_⟩;rcases w_.mp hq with rfl | hq
  · rw [fV,fV]; omega
  · exact g2 q hq
theorem pX (sep:Str) (hs:sep.length≤10):∀ (l:List Str) (x:Str),(∀ p∈l,p.length≤200)→(l.foldl (fun t y=>t ++ sep ++ y) x).length≤x.length + l.length * 210
 | [],x,_=>by simp
 | y :: l,x,h=>by
  have ih:=pX sep hs l (x ++ sep ++ y) fun p hp=>h p (o_ _ hp);have h0:=h y n_;rw [fV,fV] at ih;show (l.foldl _ (x ++ sep ++ y)).length≤_;rw [LB];omega
theorem ke {sep po pr nm w:Str} {ps:List Str} (hs:sep.cps.toList=po.cps.toList ++ 59 :: pr.cps.toList) (hsl:sep.length≤10) (h1:po.length≤2) (h2:pr.length≤2) (hnm:nm∈nms) (hw:w∈wts) (hF:okQ po pr (Tz0 nm w)=e_) (hFl:(Tz0 nm w).length≤200)
 (hQ:∀ p∈ps,okQ po pr p=e_) (hl:∀ p∈ps,p.length≤200) (hn:ps.length≤50) (hT:∀ p∈ps,okT p=e_):aW [.str (L9 sep (Tz0 nm w :: ps))]=a_ (.ok (.tup (ps.foldl put (rd0 nm w)))):=by
 obtain ⟨q,r,e⟩:=pV po pr ps emp (Tz0 nm w);unfold okQ at hF;simp only [on] at hF;obtain ⟨g1,g2⟩:=uG (po:=po) (pr:=pr) ps emp (Tz0 nm w) ⟨hF.1,hF.2.1⟩ hQ;obtain ⟨k1,k2⟩:=pW h1 h2 ps emp (Tz0 nm w) (by decide) hFl hl;have hj:=DW hs ps emp (Tz0 nm w);rw [e] at hj g1 g2 k1 k2;have hx:(L9 sep (Tz0 nm w :: ps)).cps.toList=J (b_ ";").cps.toList q.cps.toList (r.map fun s=>s.cps.toList):=by
  have z:emp.cps.toList=[]:=by kernel_rfl
  rw [z] at hj;exact hj
 refine zV (qs:=q :: r) ?_ hnm hw (oX (c:=59) (rest:=[]) (by kernel_rfl) (by kernel_rfl) g2 hx) (by rw [k1]; omega) g1 (fun s hs'=>by have:=k2 s hs'; omega) hT;rw [kb];have:=pX sep hsl ps (Tz0 nm w) hl;omega
structure Gw (nm w:Str) (h p:Option Str) (u l:Option Int) (S:Bool) (R:Str):Prop where
 nm:nm∈nms
 w:w∈wts
 h:∀ x,h=a_ x→x∈En
 p:∀ x,p=a_ x→x∈pths
 u:∀ i,u=a_ i→0≤i∧i < 60
 l:∀ i,l=a_ i→0≤i∧i < 30
 r:R=b_ "any"∨R=b_ "near"
theorem G6 {nm w:Str} {H P u l:Dv} {S:Bool} {R:Str} (g:Gv nm w H P u l S R):∃ h p u' l',Gw nm w h p u' l' S R∧gvn nm w H P u l S R=gv nm w h p u' l' S R:=by
 have a1:∃ h,H=eS h∧∀ x,h=a_ x→x∈En:=by
  rcases g.hh with rfl | ⟨n,hn,rfl⟩
  · exact ⟨ck,rfl,fun x e=>by cases e⟩
  · exact ⟨a_ n,rfl,fun x e=>by cases e; exact hn⟩
 have a2:∃ h,P=eS h∧∀ x,h=a_ x→x∈pths:=by
  rcases g.pp with rfl | ⟨n,hn,rfl⟩
  · exact ⟨ck,rfl,fun x e=>by cases e⟩
  · exact ⟨a_ n,rfl,fun x e=>by cases e; exact hn⟩
 have a3:∃ h,u=eO h∧∀ x,h=a_ x→0≤x∧x < 60:=by
  rcases g.u with rfl | ⟨n,h0,h1,rfl⟩
  · exact ⟨ck,rfl,fun x e=>by cases e⟩
  · exact ⟨a_ n,rfl,fun x e=>by cases e; exact ⟨h0,h1⟩⟩
 have a4:∃ h,l=eO h∧∀ x,h=a_ x→0≤x∧x < 30:=by
  rcases g.l with rfl | ⟨n,h0,h1,rfl⟩
  · exact ⟨ck,rfl,fun x e=>by cases e⟩
  · exact ⟨a_ n,rfl,fun x e=>by cases e; exact ⟨h0,h1⟩⟩
 obtain ⟨h,rfl,q1⟩:=a1;obtain ⟨p,rfl,q2⟩:=a2;obtain ⟨u,rfl,q3⟩:=a3;obtain ⟨l,rfl,q4⟩:=a4;exact ⟨h,p,u,l,⟨g.nm,g.w,q1,q2,q3,q4,g.r⟩,rfl⟩
theorem lN:(nms.all fun x=>u_ (x.length≤50))=e_∧(wts.all fun x=>u_ (x.length≤50))=e_∧(En.all fun x=>u_ (x.length≤50))=e_∧(pths.all fun x=>u_ (x.length≤50))=e_:=⟨by kernel_rfl,by kernel_rfl,by kernel_rfl,by kernel_rfl⟩
theorem uH:(nms.all fun x=>JP (.str x))=e_∧(wts.all fun x=>JP (.str x))=e_∧(En.all fun x=>JP (.str x))=e_∧(pths.all fun x=>JP (.str x))=e_:=⟨by kernel_rfl,by kernel_rfl,by kernel_rfl,by kernel_rfl⟩
section
variable {nm w:Str} {h p:Option Str} {u l:Option Int} {S:Bool} {R:Str}
theorem G7 (g:Gw nm w h p u l S R):Vv nm w h p u l R :=
 ⟨by simpa using aN (p:=fun x:Str=>u_ (x.length≤50)) lN.1 g.nm,by simpa using aN (p:=fun x:Str=>u_ (x.length≤50)) lN.2.1 g.w,
  fun x e=>by simpa using aN (p:=fun x:Str=>u_ (x.length≤50)) lN.2.2.1 (g.h x e),fun x e=>by simpa using aN (p:=fun x:Str=>u_ (x.length≤50)) lN.2.2.2 (g.p x e),
  fun i e=>by have:=g.u i e; omega,fun i e=>by have:=g.l i e; omega⟩
theorem DX (o:Option Int):It1 0 (eO o):=by cases o; exact xH; exact pR
theorem xM (a b:Option Int):JH (cX (eO a)) (cX (eO b))=u_ (a=b):=by
 cases a <;> cases b <;> simp [eO,cX,JH];rw [JX]; simp
def PL (h p:Option Str) (u l:Option Int) (S:Bool) (R:Str):List Str:=(oS "for " h).toList ++ ((oS "under " p).toList ++ ((oI "until " u).toList ++ ((oI "lasts " l).toList ++ ((oB "safe" S).toList ++ ((oB "near" (jc R)).toList ++ [])))))
theorem DY:L9 (b_ "; ") (Tz0 nm w :: PL h p u l S R)=T nm w h p u l S R:=by
 rw [kb];unfold PL;rw [gS,gS,gS,gS,gS,gS];rfl
theorem jC {n:Nat} {i:Int} (h0:0≤i) (h1:i < n):i∈m5 n:=by
 unfold m5;exact Jz.mpr ⟨i.toNat,JQ.mpr (by omega),by omega⟩
theorem DZ (g:Gw nm w h p u l S R):∀ x∈PL h p u l S R,x∈allP:=by
 intro x hx;simp only [PL,Jn,Option.mem_toList,Jl,or_false] at hx;unfold allP;rcases hx with e | e | e | e | e | e
 · refine A_ _ ?_;cases h with
   | none=>cases e
   | some y=>cases e; exact Jz.mpr ⟨y,g.h y rfl,rfl⟩
 · refine m_ _ (A_ _ ?_);cases p with
   | none=>cases e
   | some y=>cases e; exact Jz.mpr ⟨y,g.p y rfl,rfl⟩
 · refine m_ _ (m_ _ (A_ _ ?_));cases u with
   | none=>cases e
   | some y=>cases e; exact Jz.mpr ⟨y,jC (g.u y rfl).1 (g.u y rfl).2,rfl⟩
 · refine m_ _ (m_ _ (m_ _ (A_ _ ?_)));cases l with
   | none=>cases e
   | some y=>cases e; exact Jz.mpr ⟨y,jC (g.l y rfl).1 (g.l y rfl).2,rfl⟩
 · refine m_ _ (m_ _ (m_ _ (m_ _ (A_ _ ?_))));unfold oB at e;split at e
   · cases e; simp
   · cases e
 · refine m_ _ (m_ _ (m_ _ (m_ _ (A_ _ ?_))));unfold oB at e;split at e
   · cases e; simp
   · cases e
structure Ptk (x:Str):Prop where
 t:okT x=e_
 q1:okQ emp blk x=e_
 q2:okQ emp emp x=e_
 q3:okQ bl2 bl2 x=e_
 l:x.length≤200
 n:59 ∉ x.cps.toList
theorem D4 {x:Str} (h:okS x=e_):okQ emp blk x=e_∧okQ emp emp x=e_∧okQ bl2 bl2 x=e_∧x.length≤200∧59 ∉ x.cps.toList:=by
 unfold okS at h;simp only [on,decide_eq_true_eq] at h;obtain ⟨h1,h2,h3,h4,h5,h6⟩:=h;unfold okQ;simp only [on];refine ⟨⟨h1,h1,h2,h2⟩,⟨h1,h1,h1,h1⟩,⟨h4,h1,h3,h5⟩,h6,?_⟩;have:=(kc h1).2;rw [gJ,gJ] at this;intro hm;exact this (A_ _ (m_ _ hm))
theorem ptk {x:Str} (hx:x∈allP):Ptk x:=by
 have h:=aN zR hx;unfold HX at h;rw [on] at h;obtain ⟨h1,h2,h3,h4,h5⟩:=D4 h.2;exact ⟨h.1,h1,h2,h3,h4,h5⟩
theorem zW (hnm:nm∈nms) (hw:w∈wts):okS (Tz0 nm w)=e_:=by
 have hf:=aN (p:=fun w=>zU nm w) (aN (p:=fun n=>wts.all fun w=>zU n w) pU hnm) hw;unfold zU at hf;simp only [on] at hf;exact hf.1.1
theorem zX {ps:List Str} (hnm:nm∈nms) (hw:w∈wts) (hp:∀ x∈ps,x∈allP) (hl:ps.length≤50) :
 aW [.str (L9 (b_ "; ") (Tz0 nm w :: ps))]=a_ (.ok (.tup (ps.foldl put (rd0 nm w))))∧aW [.str (L9 (b_ ";") (Tz0 nm w :: ps))]=a_ (.ok (.tup (ps.foldl put (rd0 nm w))))∧aW [.str (L9 (b_ "  ;  ") (Tz0 nm w :: ps))]=a_ (.ok (.tup (ps.foldl put (rd0 nm w)))):=by
 obtain ⟨f1,f2,f3,f4,f5⟩:=D4 (zW hnm hw);exact ⟨ke (po:=emp) (pr:=blk) (by kernel_rfl) (by decide) (by decide) (by decide) hnm hw f1 f4 (fun x hx=>(ptk (hp x hx)).q1) (fun x hx=>(ptk (hp x hx)).l) hl fun x hx=>(ptk (hp x hx)).t,
  ke (po:=emp) (pr:=emp) (by kernel_rfl) (by decide) (by decide) (by decide) hnm hw f2 f4 (fun x hx=>(ptk (hp x hx)).q2) (fun x hx=>(ptk (hp x hx)).l) hl fun x hx=>(ptk (hp x hx)).t,
  ke (po:=bl2) (pr:=bl2) (by kernel_rfl) (by decide) (by decide) (by decide) hnm hw f3 f4 (fun x hx=>(ptk (hp x hx)).q3) (fun x hx=>(ptk (hp x hx)).l) hl fun x hx=>(ptk (hp x hx)).t⟩
theorem D6:(PL h p u l S R).length≤6:=by
 have f1:=kJ (oS "for " h);have f2':=kJ (oS "under " p);have f3:=kJ (oI "until " u);have f4:=kJ (oI "lasts " l);have f5:=kJ (oB "safe" S);have f6:=kJ (oB "near" (jc R));simp [PL]; omega
def gs (o:Option Str) (c:Dv):Dv:=match o with | none=>c | some x=>.str x
def gi (o:Option Int) (c:Dv):Dv:=match o with | none=>c | some x=>.int x
def gb (o:Bool) (c d:Dv):Dv:=if o then d else c
theorem IY (hh:∀ x,h=a_ x→x∈En) (L:List Str) (a b c d e f g i:Dv):((oS "for " h).toList ++ L).foldl put [a,b,c,d,e,f,g,i]=L.foldl put [a,b,gs h c,d,e,f,g,i]:=by
 cases h with
 | none=>rfl
 | some x=>show L.foldl put (put _ (b_ "for " ++ x))=_; unfold put; rw [G2 (hh x rfl)]; rfl
theorem IZ (hh:∀ x,p=a_ x→x∈pths) (L:List Str) (a b c d e f g i:Dv):((oS "under " p).toList ++ L).foldl put [a,b,c,d,e,f,g,i]=L.foldl put [a,b,c,gs p d,e,f,g,i]:=by
 cases p with
 | none=>rfl
 | some x=>show L.foldl put (put _ (b_ "under " ++ x))=_; unfold put; rw [G3 (hh x rfl)]; rfl
theorem I0 (hh:∀ x,u=a_ x→0≤x∧x < 60) (L:List Str) (a b c d e f g i:Dv):((oI "until " u).toList ++ L).foldl put [a,b,c,d,e,f,g,i]=L.foldl put [a,b,c,d,gi u e,f,g,i]:=by
 cases u with
 | none=>rfl
 | some x=>show L.foldl put (put _ (b_ "until " ++ is x))=_; unfold put; rw [G4 (jC (hh x rfl).1 (hh x rfl).2)]; rfl
theorem Ja (hh:∀ x,l=a_ x→0≤x∧x < 30) (L:List Str) (a b c d e f g i:Dv):((oI "lasts " l).toList ++ L).foldl put [a,b,c,d,e,f,g,i]=L.foldl put [a,b,c,d,e,gi l f,g,i]:=by
 cases l with
 | none=>rfl
 | some x=>show L.foldl put (put _ (b_ "lasts " ++ is x))=_; unfold put; rw [G5 (jC (hh x rfl).1 (hh x rfl).2)]; rfl
theorem Jb (L:List Str) (a b c d e f g i:Dv):((oB "safe" S).toList ++ L).foldl put [a,b,c,d,e,f,g,i]=L.foldl put [a,b,c,d,e,f,gb S g (.bl e_),i]:=by
 cases S with
 | false=>rfl
 | true=>show L.foldl put (put _ (b_ "safe"))=_; unfold put; rw [DU]; rfl
theorem Jc (k:Bool) (L:List Str) (a b c d e f g i:Dv):((oB "near" k).toList ++ L).foldl put [a,b,c,d,e,f,g,i]=L.foldl put [a,b,c,d,e,f,g,gb k i (.str "near")]:=by
 cases k with
 | false=>rfl
 | true=>show L.foldl put (put _ (b_ "near"))=_; unfold put; rw [DV]; rfl
theorem D7 (g:Gw nm w h p u l S R) (a b c d e f k i:Dv):(PL h p u l S R).foldl put [a,b,c,d,e,f,k,i]=[a,b,gs h c,gs p d,gi u e,gi l f,gb S k (.bl e_),gb (jc R) i (.str "near")]:=by
 unfold PL;rw [IY g.h,IZ g.p,I0 g.u,Ja g.l,Jb,Jc];rfl
theorem D8 (g:Gw nm w h p u l S R):gb (jc R) (.str "any") (.str "near")=.str R:=by
 rcases g.r with e | e <;> rw [e] <;> rfl
theorem xN (o:Option Str):gs o .non=eS o:=by cases o <;> rfl
theorem xO (o:Option Int):gi o .non=eO o:=by cases o <;> rfl
theorem Je (S:Bool):gb S (.bl d_) (.bl e_)=.bl S:=by cases S <;> rfl
theorem G8 (g:Gw nm w h p u l S R):Dv.tup ((PL h p u l S R).foldl put (rd0 nm w))=gv nm w h p u l S R:=by
 unfold rd0;rw [D7 g,D8 g,xN,xN,xO,xO,Je]
theorem Ea (i:Int):ar [.int i]=bo (u_ (0≤i) && u_ (i≤9999)):=by
 have e:aO [.int i,.int 0,.int 9999]=bo (u_ (0≤i) && u_ (i≤9999)):=by
  by_cases h0:0≤i
  · simp [aO,bp,bc,au,sq,aQ,az,bg,bN,bnd,bOr,bh,fB,toB,ac,fC,f1,f2,cK,cu,aD,bE,leX,h0]
  · simp [aO,bp,bc,au,sq,aQ,az,bg,aS,ba,bN,bnd,bOr,cH,bh,fB,toB,ag,al,aa,ah,ac,fC,f1,f2,ixD,atD,vOr,cK,eC,fIf,bS,bK,fB1,fM,aC,aX,isN,cY,cu,aD,bB,bx,bE,leX,h0]
 have e2:bf [.int i]=bo (u_ (0≤i) && u_ (i≤9999)):=by simp [bf,bp,dg,au,sq,aQ,az,bg,aS,ba,bN,bnd,bOr,cH,bh,fB,toB,ag,al,aa,ah,ac,fC,f1,f2,ixD,atD,vOr,cK,eC,fIf,bS,bK,fB1,fM,aC,aX,isN,cY,cu,aD,bB,bx,bE,e]
 simp [ar,bp,aT,au,sq,aQ,az,bg,aS,ba,bN,bnd,bOr,cH,bh,fB,toB,ag,al,aa,ah,ac,fC,f1,f2,ixD,atD,vOr,cK,eC,fIf,bS,bK,fB1,fM,aC,aX,isN,cY,cu,aD,bB,bx,bE,e2]
theorem Eb (g:Gw nm w h p u l S R):aW [.str (T nm w h p u l S R)]=a_ (.ok (gv nm w h p u l S R)):=by
 have:=(zX (nm:=nm) (w:=w) g.nm g.w (DZ g) (Jy D6 (by omega))).1;rw [DY,G8 g] at this;exact this
end
section
variable {nm w:Str} {H P u l:Dv} {S:Bool} {R:Str} {t:List Dv} {h p:Str} {O:Dv} {s:Bool} {house path:Str} {ex:Bool} {wd:Dv} {now:Int}
abbrev ntn (nm w house:Str) (ex:Bool) (path:Str) (ends:Dv) (S:Bool) (R:Str) (now:Int):Dv:=.tup [.str nm,.str w,.str house,.bl ex,.str path,ends,.bl S,.str R,.int now,.int now]
def wL (u l:Dv) (now:Int):Dv:=match l with
 | .int i=>.int (if 9999 < now + i then 9999 else now + i)
 | _=>u
theorem Ec (g:Gv nm w H P u l S R):gE [gvn nm w H P u l S R,.int now]=a_ (.ok (wL u l now)):=by
 rcases g.l with rfl | ⟨i,i0,i1,rfl⟩
 · simp [gE,bp,gD,au,sq,aQ,az,bg,bN,bnd,fB,toB,aa,ah,ac,fC,f2,ixD,atD,fB1,isN,wL]
 · simp [gE,bp,gD,au,sq,aQ,az,bg,aS,ba,bN,bnd,bOr,cH,bh,fB,toB,ag,al,aa,ah,ac,fC,f1,f2,ixD,atD,vOr,cK,eC,fIf,bS,bK,fB1,fM,aC,aX,isN,cY,cu,aD,bB,bx,bE,cO,EA,wL]
theorem Ed (g:Gv nm w H P u l S R) (n0:0≤now):Mo (wL u l now):=by
 rcases g.l with rfl | ⟨i,i0,i1,rfl⟩
 · exact g.mu
 · refine .inr ⟨_,?_,?_,rfl⟩ <;> split <;> omega
theorem xP (ht:t∈jw rules) (a:Ak h p O) (g:Gv nm w H P u l S R) (n0:0≤now) (n1:now≤9999) (W:Wt t h p O nm w H P u l S R s house path ex .non) :
 cT [.tup t,akn s h p O,gvn nm w H P u l S R,.int now]=a_ (.ok (ntn nm w house ex path (wL u l now) S R now)):=by
 have e1:=ED (gI ht);have e2:=EE (wD (s:=s) a);have e3:=HU (uA g);have e4:=wC (mom_y n0 n1);have w2:=W.why;have k1:=W.hf;have k2:=W.ix;have k3:=W.pf;have k4:=Ec (now:=now) g;simp [cT,eE,lB,au,sq,aQ,az,bg,aS,bN,bnd,fB,toB,ag,al,aa,ah,ac,fC,f2,ixD,atD,bS,aC,cY,e1,e2,e3,e4,w2,k1,k2,k3,k4]
end
end G
namespace G
namespace J
open PySem PySem.Spec PyProof.Rows L2 FD
theorem uv:(nms.all fun n=>okY (aB [.str n]))=e_:=by kernel_rfl
theorem uw:(wts.all fun n=>okY (bj [.str n]))=e_:=by kernel_rfl
theorem ux:(En.all fun n=>okY (bJ [.str n]))=e_:=by kernel_rfl
theorem uy:(pths.all fun n=>okY (bA [.str n]))=e_:=by kernel_rfl
theorem GX {n:Str} (h:n∈nms):aB [.str n]=bo e_:=gc (aN (p:=fun n=>okY (aB [.str n])) uv h)
theorem GY {n:Str} (h:n∈wts):bj [.str n]=bo e_:=gc (aN (p:=fun n=>okY (bj [.str n])) uw h)
theorem uX {n:Str} (h:n∈En):bJ [.str n]=bo e_:=gc (aN (p:=fun n=>okY (bJ [.str n])) ux h)
theorem xJ {n:Str} (h:n∈pths):bA [.str n]=bo e_:=gc (aN (p:=fun n=>okY (bA [.str n])) uy h)
theorem gf {l:List Dv} {d:Int} (h0:0≤d) (h1:d < l.length):∃ x∈l,ixD (.lst l) (.int d)=a_ (.ok x):=by
 have h2:d.toNat < l.length:=by omega
 refine ⟨l[d.toNat],Mh h2,?_⟩;show (match atD l d with | some d=>_ | none=>_)=_
 unfold atD;rw [if_pos h0,B_ h2]
theorem wK {f:FnE} {ρ:Ev} {d:Dv} (h:f ρ=a_ (.ok d)):az f ρ=a_ (.rt d):=by unfold az; rw [h]; rfl
theorem bOr_of {a b:FnB} {ρ:Ev} {x y:Bool} (ha:a ρ=a_ (.ok x)) (hb:b ρ=a_ (.ok y)):bOr a b ρ=a_ (.ok (x || y)):=by
 unfold bOr; rw [ha]; cases x
 · exact hb
 · rfl
theorem Ea (i:Int):bf [.int i]=bo (u_ (0≤i) && u_ (i≤9999)):=by
 have e:aO [.int i,.int 0,.int 9999]=bo (u_ (0≤i) && u_ (i≤9999)):=by
  by_cases h0:0≤i
  · simp [aO,bp,bc,au,sq,aQ,az,bN,bnd,bOr,bh,fB,toB,ac,f1,f2,cK,cu,aD,bE,leX,h0]
  · simp [aO,bp,bc,au,sq,aQ,az,bN,bnd,bOr,bh,fB,toB,ac,f1,f2,cK,cu,aD,bE,leX,h0]
 simp [bf,bp,dg,az,bN,bnd,ag,aa,ah,ac,fC,e]
theorem mom_y {i:Int} (h0:0≤i) (h1:i≤9999):bf [.int i]=bo e_:=by
 rw [Ea]; simp [h0,h1]
def Mo (u:Dv):Prop:=u=.non∨∃ i:Int,0≤i∧i≤9999∧u=.int i
theorem pS {u:Dv} (h:Mo u):ar [u]=bo e_:=by
 rcases h with rfl | ⟨i,h0,h1,rfl⟩
 · simp [ar,bp,aT,az,bN,bnd,toB,ac,fC,f2,vOr,isN]
 · simp [ar,bp,aT,az,bN,bnd,toB,ag,aa,ah,ac,fC,f2,vOr,isN,mom_y h0 h1]
theorem lL {R:Str} (h:R=b_ "any"∨R=b_ "near"):dL [.str R]=bo e_∧∃ r,eqX (.str R) (.str "any")=bo r∧eqX (.str R) (.str "near")=bo (!r):=by
 rcases h with rfl | rfl
 · exact ⟨by kernel_rfl,e_,by kernel_rfl,by kernel_rfl⟩
 · exact ⟨by kernel_rfl,d_,by kernel_rfl,by kernel_rfl⟩
structure Note where
 nm:Str
 w:Str
 house:Str
 ex:Bool
 path:Str
 ends:Option Int
 S:Bool
 R:Str
 md:Int
 us:Int
deriving DecidableEq
def eO:Option Int→Dv
 | none=>.non
 | some i=>.int i
def enc (n:Note):Dv:=.tup [.str n.nm,.str n.w,.str n.house,.bl n.ex,.str n.path,eO n.ends,.bl n.S,.str n.R,.int n.md,.int n.us]
def ek (n:Note):Dv:=.tup [.str n.nm,.str n.house,.str n.path]
def key (n:Note):List Str:=[n.nm,n.house,n.path]
structure Good (n:Note):Prop where
 nm:n.nm∈nms
 w:n.w∈wts
 house:n.house∈En
 path:n.path∈pths
 R:n.R=b_ "any"∨n.R=b_ "near"
 ends:∀ i,n.ends=a_ i→0≤i∧i≤9999
 mk0:0≤n.md
 mu:n.md≤n.us
 us:n.us≤99
theorem G9 {n:Note} (g:Good n):Mo (eO n.ends):=by
 cases h:n.ends with
 | none=>exact .inl rfl
 | some i=>exact .inr ⟨i,(g.ends i h).1,by have:=(g.ends i h).2; omega,rfl⟩
theorem Ee {n:Note} (g:Good n):ef [enc n]=bo e_:=by
 have e0:bQ [enc n,.int 10]=bo e_:=by kernel_rfl
 have e1:=mom_y g.mk0 (by have:=g.mu; have:=g.us; omega);have e2:=mom_y (Int.le_trans g.mk0 g.mu) (by have:=g.us; omega);have e3:ar [eO n.ends]=bo e_:=pS (G9 g);unfold enc at e0 ⊢;simp [ef,bp,iH,au,sq,aQ,az,bN,bnd,bOr,bh,fB,toB,ag,aa,ah,ac,fC,f1,f2,ixD,atD,bK,fB1,cu,aD,e0,e1,e2,GX g.nm,GY g.w,uX g.house,xJ g.path,e3,(lL g.R).1,iA,dD,leX,g.mu]
def signs0:List Str:=nms ++ (wts ++ (En ++ (pths ++ [b_ "any",b_ "near"])))
theorem uH:(signs0.all fun x=>JP (.str x))=e_:=by kernel_rfl
theorem na {x:Str} (h:x∈signs0):JP (.str x)=e_:=aN (p:=fun x=>JP (.str x)) uH h
theorem DX (o:Option Int):It1 0 (eO o):=by cases o; exact xH; exact pR
theorem Good.sR {n:Note} (g:Good n):n.R∈signs0:=by
 unfold signs0;rcases g.R with h | h <;> rw [h] <;> simp
theorem nb {n:Note} (g:Good n):It1 1 (enc n):=by
 refine uq (k:=0) fun d hd=>?_;simp only [w_,Jl,or_false] at hd;rcases hd with rfl | rfl | rfl | rfl | rfl | rfl | rfl | rfl | rfl | rfl
 · exact jk (na (by simp [signs0,g.nm]))
 · exact jk (na (by simp [signs0,g.w]))
 · exact jk (na (by simp [signs0,g.house]))
 · exact DD
 · exact jk (na (by simp [signs0,g.path]))
 · exact DX _
 · exact DD
 · exact jk (na g.sR)
 · exact pR
 · exact pR
theorem Ef {n:Note} (g:Good n):It1 1 (ek n):=by
 refine uq (k:=0) fun d hd=>?_;simp only [w_,Jl,or_false] at hd;rcases hd with rfl | rfl | rfl
 · exact jk (na (by simp [signs0,g.nm]))
 · exact jk (na (by simp [signs0,g.house]))
 · exact jk (na (by simp [signs0,g.path]))
theorem Eg (a b:Note):JH (cX (ek a)) (cX (ek b))=u_ (key a=key b):=by
 rw [JX];simp [ek,key,cX,toPys,JH,KO]
theorem xM (a b:Option Int):JH (cX (eO a)) (cX (eO b))=u_ (a=b):=by
 cases a <;> cases b <;> simp [eO,cX,JH];rw [JX]; simp
theorem zY (a b:Note):JH (cX (enc a)) (cX (enc b))=u_ (a=b):=by
 rw [JX];have e:=xM a.ends b.ends;cases a; cases b;simp [enc,cX,toPys,JH,KO,e]
theorem zZ {a b:Note} (ga:Good a) (gb:Good b):eqX (ek a) (ek b)=bo (u_ (key a=key b))∧neX (ek a) (ek b)=bo (!u_ (key a=key b)):=by
 have h1:=(Ef ga).okP (by omega);have h2:=(Ef gb).okP (by omega);have h3:=Eg a b;have h0:eqS (ek a) (ek b)=ck:=rfl;constructor
 · unfold eqX; rw [h0,h1,h2,h3]; rfl
 · unfold neX; rw [h0,h1,h2,h3]; rfl
def ended (n:Note) (now:Int):Bool:=match n.ends with
 | none=>d_
 | some i=>u_ (i≤now)
def ej (js:List Note):Dv:=.tup (js.map enc)
structure Jar (js:List Note):Prop where
 g:∀ n∈js,Good n
 s:∀ i (h:i + 1 < js.length),js[i].md≤js[i + 1].md
 k:(js.map key).Nodup
 l:js.length≤18
theorem xQ {α β:Type} {o:Option (Rs α)} {a:α} {k:α→Option (Rs β)} (h:o=a_ (.ok a)):bnd o k=k a:=by rw [h]; rfl
theorem oZ:∀ (n:Nat) (lo:Int),rng lo n=(pi n).map fun i:Nat=>Dv.int (lo + (i:Int))
 | 0,lo=>rfl
 | n + 1,lo=>by
  rw [OE];show Dv.int lo :: rng (lo + 1) n=_;rw [oZ n (lo + 1)];simp only [Ju,NB];congr 1
  · simp
  · congr 1;funext i;simp only [Rl];congr 1;omega
theorem uI {f g:ji} {ρ ρ':Ev} {ds ds':List Dv} (h:f ρ ds=a_ (.nx ρ' ds')):dI f g ρ ds=g ρ' ds':=by unfold dI; rw [h]
theorem lsrc_of {xs:List Dv} {i:Nat} {ρ:Ev} (h:ρ[i]?=a_ (a_ (.lst xs))):dr (ac i) ρ=a_ (.ok xs):=by
 unfold dr ac;rw [h];rfl
theorem src_of {js:List Note} {i:Nat} {ρ:Ev} (h:ρ[i]?=a_ (a_ (ej js))):dr (ac i) ρ=a_ (.ok (js.map enc)):=by
 unfold dr ac;rw [h];rfl
theorem z0 {xs:List Note} (hg:∀ o∈xs,Good o):It1 2 (.lst (xs.map enc)):=xG fun d hd=>by
 obtain ⟨x,hx,rfl⟩:=Jz.mp hd;exact nb (hg x hx)
theorem Ha {xs:List Note} (hg:∀ o∈xs,Good o):It1 2 (ej xs):=uq fun d hd=>by
 obtain ⟨x,hx,rfl⟩:=Jz.mp hd;exact nb (hg x hx)
theorem nil_eq {xs:List Note} (hg:∀ o∈xs,Good o):eqX (.lst (xs.map enc)) (.lst [])=bo xs.isEmpty:=by
 cases xs with
 | nil=>kernel_rfl
 | cons o rest =>
  have i2:=(z0 hg).okP (by omega);have i3:okP (.lst [])=e_:=by kernel_rfl
  unfold eqX;rw [show eqS (.lst ((o :: rest).map enc)) (.lst [])=ck from rfl,i2,i3];simp [cX,toPys,JH,KO]
theorem ng:∀ l:List Int,imms (l.map Dv.int)=e_
 | []=>rfl
 | i :: l=>by show (imm (.int i) && imms (l.map Dv.int))=e_; rw [ng l]; rfl
theorem uJ (a b:Int):bP (.int a) (.int b)=a_ (.ok (.int (a + b))):=rfl
end J
namespace J
open PySem PySem.Spec PyProof.Rows L2 FD
structure JI (B:Nat) (js:List Note) (now:Int):Prop where
 g:∀ n∈js,Good n
 s:js.Pairwise fun a b=>a.md≤b.md
 k:(js.map key).Nodup
 l:js.length≤B
 n0:0≤now
 n1:now≤3 * B
 m:∀ n∈js,n.md≤now
 u:∀ n∈js,n.us≤39
theorem JI.keep {B:Nat} {js:List Note} {now d:Int} (J:JI B js now) (h0:0≤d) (h1:d < 4):JI (B + 1) js (now + d) :=
 ⟨J.g,J.s,J.k,by have:=J.l; omega,by have:=J.n0; omega,by have:=J.n1; omega,fun n hn=>by have:=J.m n hn; omega,J.u⟩
theorem JI.add {B:Nat} {js:List Note} {now d:Int} {n:Note} (J:JI B js now) (h0:0≤d) (h1:d < 4) (g:Good n) (hu:n.us≤39) (hm:n.md=now + d) (hf:js.filter (fun o=>u_ (key o=key n))=[]):JI (B + 1) (js ++ [n]) (now + d):=by
 have hk:∀ o∈js,key o≠key n:=fun o ho e=>by
  have:o∈js.filter (fun o=>u_ (key o=key n)):=Jw.mpr ⟨ho,by simp [e]⟩;rw [hf] at this; cases this
 refine ⟨fun x hx=>?_,?_,?_,by have:=J.l; simp; omega,by have:=J.n0; omega,by have:=J.n1; omega,fun x hx=>?_,fun x hx=>?_⟩
 · rcases Jn.mp hx with h | h
   · exact J.g x h
   · rw [Jk.mp h]; exact g
 · refine List.pairwise_append.mpr ⟨J.s,List.pairwise_singleton ..,fun a ha b hb=>?_⟩;rw [Jk.mp hb,hm];have:=J.m a ha;omega
 · rw [KY];refine List.nodup_append.mpr ⟨J.k,by simp,fun a ha b hb e=>?_⟩;obtain ⟨o,ho,rfl⟩:=Jz.mp ha;simp only [Ju,List.map_nil,Jk] at hb;exact hk o ho (e.trans hb)
 · rcases Jn.mp hx with h | h
   · have:=J.m x h; omega
   · rw [Jk.mp h,hm]; omega
 · rcases Jn.mp hx with h | h
   · exact J.u x h
   · rw [Jk.mp h]; exact hu
theorem JI.jar {B:Nat} {js:List Note} {now:Int} (J:JI B js now) (hB:B≤18):Jar js :=
 ⟨J.g,fun i h=>NZ.mp J.s i (i + 1) (by omega) h (by omega),J.k,by have:=J.l; omega⟩
def jb (ns:List Int) (z m now:Int):Ev:=[a_ (.scr ns),a_ (.int z),a_ (.int m),ck,a_ (.int now),ck,ck,ck,ck,ck,ck,ck,ck,ck,ck,ck]
def cJ:FnB:=(fB (f2 eqX (bX [("_law_note",15)] (dr (ac 3)) (a_ (fB (f2 eqX (bS (aa (f2 ixD (ac 0) (fC (.int 0))) (aa (f2 ixD (ac 0) (fC (.int 2))) (aa (f2 ixD (ac 0) (fC (.int 4))) ah)))) (bS (aa (f2 ixD (ac 1) (fC (.int 0))) (aa (f2 ixD (ac 1) (fC (.int 2))) (aa (f2 ixD (ac 1) (fC (.int 4))) ah))))))) (ac 0)) (bK ah)))
theorem Hb {js:List Note} {n:Note} {ρ:Ev} (hg:∀ o∈js,Good o) (gn:Good n) (hl:js.length≤18) (h3:ρ[3]?=a_ (a_ (.lst (js.map enc)))) (h15:ρ[15]?=a_ (a_ (enc n))):cJ ρ=a_ (.ok (js.filter (fun o=>u_ (key o=key n))).isEmpty):=by
 have hc:vk [("_law_note",15)] ρ=[ck,a_ (enc n)]:=by simp [vk,h15]
 have e1:=iN (cs:=[("_law_note",15)]) (src:=dr (ac 3)) (tst:=(fB (f2 eqX (bS (aa (f2 ixD (ac 0) (fC (.int 0))) (aa (f2 ixD (ac 0) (fC (.int 2))) (aa (f2 ixD (ac 0) (fC (.int 4))) ah)))) (bS (aa (f2 ixD (ac 1) (fC (.int 0))) (aa (f2 ixD (ac 1) (fC (.int 2))) (aa (f2 ixD (ac 1) (fC (.int 4))) ah))))))) (elt:=ac 0) (ρ:=ρ) enc (fun o=>u_ (key o=key n)) enc (lsrc_of h3) (by omega) fun o ho=>⟨by
  rw [hc];exact bM ((bD (x:=ek o) (y:=ek n) rfl rfl).trans (zZ (hg o ho) gn).1),by rw [hc]; rfl⟩
 exact bM ((bD e1 rfl).trans (nil_eq fun o ho=>hg o (Jw.mp ho).1))
theorem uK (ns:List Int) (hl:ns.length≤63) (z m now k:Int) {B:Nat} {js:List Note} (J:JI B js now) (hB:B≤10) :
 ∃ ρ' js' now',bG ((jb ns z m now).set 5 (a_ (.int k))) (js.map enc)=a_ (.nx ρ' (js'.map enc))∧fgt [5,6,7,8,9,10,11,12,13,14,15] ρ'=jb ns z m now'∧JI (B + 1) js' now':=by
 obtain ⟨here,hh⟩:∃ here,here=z + 1 + 14 * k:=⟨_,rfl⟩;obtain ⟨d0,a0,b0,e0⟩:=aR ns hl here 4 (by omega);obtain ⟨d1,a1,b1,e1⟩:=aR ns hl (here + 1) 4 (by omega);obtain ⟨d2,a2,b2,e2⟩:=aR ns hl (here + 2) 3 (by omega);obtain ⟨d4,a4,b4,e4⟩:=aR ns hl (here + 4) 2 (by omega);obtain ⟨d6,a6,b6,e6⟩:=aR ns hl (here + 6) 2 (by omega);obtain ⟨d7,a7,b7,e7⟩:=aR ns hl (here + 7) 60 (by omega);obtain ⟨d8,a8,b8,e8⟩:=aR ns hl (here + 8) 2 (by omega);obtain ⟨d9,a9,b9,e9⟩:=aR ns hl (here + 9) 3 (by omega);obtain ⟨d10,a10,b10,e10⟩:=aR ns hl (here + 10) 5 (by omega);obtain ⟨n3,hn3,e3⟩:=lJ ns hl (here + 3);obtain ⟨p5,hp5,e5⟩:=oY ns hl (here + 5);obtain ⟨x1,m1,i1⟩:=gf (l:=[.str "n",.str "m-1",.str "safe-a",.str "N_2"]) a1 b1;obtain ⟨x2,m2,i2⟩:=gf (l:=[.str "5",.str "",.str "a!b~"]) a2 b2;obtain ⟨x6,m6,i6⟩:=gf (l:=[.non,.int d7]) a6 b6;obtain ⟨x9,m9,i9⟩:=gf (l:=[.str "any",.str "any",.str "near"]) a9 b9;have g1:∃ nm∈nms,x1=.str nm:=by
  simp only [w_,Jl,or_false] at m1;rcases m1 with rfl | rfl | rfl | rfl <;> exact ⟨_,by simp [nms],rfl⟩
 have g2:∃ nm∈wts,x2=.str nm:=by
  simp only [w_,Jl,or_false] at m2;rcases m2 with rfl | rfl | rfl <;> exact ⟨_,by simp [wts],rfl⟩
 have g6:∃ o:Option Int,(∀ i,o=a_ i→0≤i∧i≤9999)∧x6=eO o:=by
  simp only [w_,Jl,or_false] at m6;rcases m6 with rfl | rfl
  · exact ⟨ck,by simp,rfl⟩
  · exact ⟨a_ d7,fun i hi=>by cases hi; omega,rfl⟩
 have g9:∃ R,(R=b_ "any"∨R=b_ "near")∧x9=.str R:=by
  simp only [w_,Jl,or_false] at m9;rcases m9 with rfl | rfl | rfl
  · exact ⟨_,.inl rfl,rfl⟩
  · exact ⟨_,.inl rfl,rfl⟩
  · exact ⟨_,.inr rfl,rfl⟩
 obtain ⟨nm,hnm,rfl⟩:=g1;obtain ⟨w,hw,rfl⟩:=g2;obtain ⟨o,ho,rfl⟩:=g6;obtain ⟨R,hR,rfl⟩:=g9
 let n:Note:=⟨nm,w,n3,d4 == 0,p5,o,d8 == 0,R,now + d0,now + d0 + d10⟩
 have q0:=J.n0;have q1:=J.n1;have gn:Good n:=⟨hnm,hw,me hn3,hp5,hR,ho,by show 0≤now + d0; omega,by show now + d0≤now + d0 + d10; omega,by show now + d0 + d10≤99; omega⟩
 let E15:Ev:=[a_ (.scr ns),a_ (.int z),a_ (.int m),ck,a_ (.int (now + d0)),a_ (.int k),a_ (.int here),a_ (.str nm),a_ (.str w),a_ (eO o),a_ (.bl (d4 == 0)),a_ (.tup [.str nm,.str w,.str n3,.bl (d4 == 0),.str p5]),a_ (.str R),a_ (.bl (d8 == 0)),a_ (.int (now + d0 + d10)),a_ (enc n)]
 have hc:=Hb (ρ:=E15.set 3 (a_ (.lst (js.map enc)))) J.g gn (by have:=J.l; omega) rfl rfl;have hmul:jp (.int 14) (.int k)=a_ (.ok (.int (14 * k))):=mV (.inl (by omega));have hrun:bG ((jb ns z m now).set 5 (a_ (.int k))) (js.map enc)=yS 3 cJ (vK (ac 15)) Aq E15 (js.map enc):=by
  have eB:bG=(dI (eK 6 (f2 bP (f2 bP (ac 1) (fC (.int 1))) (f2 jp (fC (.int 14)) (ac 5)))) (dI (eK 4 (f2 bP (ac 4) (ag ae 3 (aa (ac 0) (aa (ac 6) (aa (fC (.int 4)) ah)))))) (dI (eK 7 (f2 ixD (bK (aa (fC (.str "n")) (aa (fC (.str "m-1")) (aa (fC (.str "safe-a")) (aa (fC (.str "N_2")) ah))))) (ag ae 3 (aa (ac 0) (aa (f2 bP (ac 6) (fC (.int 1))) (aa (fC (.int 4)) ah)))))) (dI (eK 8 (f2 ixD (bK (aa (fC (.str "5")) (aa (fC (.str "")) (aa (fC (.str "a!b~")) ah)))) (ag ae 3 (aa (ac 0) (aa (f2 bP (ac 6) (fC (.int 2))) (aa (fC (.int 3)) ah)))))) (dI (eK 9 (f2 ixD (bK (aa (fC .non) (aa (ag ae 3 (aa (ac 0) (aa (f2 bP (ac 6) (fC (.int 7))) (aa (fC (.int 60)) ah)))) ah))) (ag ae 3 (aa (ac 0) (aa (f2 bP (ac 6) (fC (.int 6))) (aa (fC (.int 2)) ah)))))) (dI (eK 10 (f2 eqX (ag ae 3 (aa (ac 0) (aa (f2 bP (ac 6) (fC (.int 4))) (aa (fC (.int 2)) ah)))) (fC (.int 0)))) (dI (eK 11 (bS (aa (ac 7) (aa (ac 8) (aa (ag aY 2 (aa (ac 0) (aa (f2 bP (ac 6) (fC (.int 3))) ah))) (aa (ac 10) (aa (ag bZ 2 (aa (ac 0) (aa (f2 bP (ac 6) (fC (.int 5))) ah))) ah))))))) (dI (eK 12 (f2 ixD (bK (aa (fC (.str "any")) (aa (fC (.str "any")) (aa (fC (.str "near")) ah)))) (ag ae 3 (aa (ac 0) (aa (f2 bP (ac 6) (fC (.int 9))) (aa (fC (.int 3)) ah)))))) (dI (eK 13 (f2 eqX (ag ae 3 (aa (ac 0) (aa (f2 bP (ac 6) (fC (.int 8))) (aa (fC (.int 2)) ah)))) (fC (.int 0)))) (dI (eK 14 (f2 bP (ac 4) (ag ae 3 (aa (ac 0) (aa (f2 bP (ac 6) (fC (.int 10))) (aa (fC (.int 5)) ah)))))) (dI (eK 15 (f2 bP (ac 11) (bS (aa (ac 9) (aa (ac 13) (aa (ac 12) (aa (ac 4) (aa (ac 14) ah)))))))) (yS 3 cJ (vK (ac 15)) Aq)))))))))))):=rfl;rw [eB];subst hh;simp [jb,dI,eK,qo,bnd,ag,aa,ah,ac,fC,f2,bS,bK,uJ,hmul,e0,e1,e2,e3,e4,e5,e6,e7,e8,e9,e10,i1,i2,i6,i9,eqX,eqS,E15,enc,n];simp [bP]
 rw [hrun];cases hf:(js.filter (fun o=>u_ (key o=key n))) with
 | nil =>
  rw [hf] at hc;refine ⟨E15,js ++ [n],now + d0,?_,rfl,J.add a0 b0 gn (by show now + d0 + d10≤39; omega) rfl hf⟩;unfold yS;rw [hc];show (if (js.map enc).length < 100000 then _ else _)=_;rw [if_pos (by have:=J.l; simp; omega)];show a_ (Fo.nx _ (js.map enc ++ [enc n]))=_;simp
 | cons c r =>
  rw [hf] at hc;refine ⟨E15,js,now + d0,?_,rfl,J.keep a0 b0⟩;unfold yS;rw [hc];rfl
theorem pY (ns:List Int) (hl:ns.length≤63) (z m:Int):∀ (ks:List Int) (ρ:Ev) (now:Int) (B:Nat) (js:List Note),B + ks.length≤10→fgt [5,6,7,8,9,10,11,12,13,14,15] ρ=jb ns z m now→JI B js now →
 ∃ js' now',kf 5 [5,6,7,8,9,10,11,12,13,14,15] bG (ks.map Dv.int) ρ (js.map enc)=a_ (.nx (jb ns z m now') (js'.map enc))∧JI (B + ks.length) js' now'
 | [],ρ,now,B,js,_,hρ,J=>⟨js,now,by show a_ (Fo.nx _ _)=_; rw [hρ],J⟩
 | k :: ks,ρ,now,B,js,hb,hρ,J=>by
  simp only [LB] at hb;obtain ⟨ρ',js',now',e,hρ',J'⟩:=uK ns hl z m now k J (by omega);obtain ⟨js2,now2,e2,J2⟩:=pY ns hl z m ks ρ' now' (B + 1) js' (by omega) hρ' J';refine ⟨js2,now2,?_,by rw [LB,show B + (ks.length + 1)=B + 1 + ks.length by omega]; exact J2⟩;show (match bG ((fgt _ ρ).set 5 (a_ (.int k))) (js.map enc) with
   | some (.nx ρ' xs')=>kf 5 _ bG (ks.map Dv.int) ρ' xs'
   | o=>o)=_
  rw [hρ,e];exact e2
theorem jar_ok (ns:List Int) (hl:ns.length≤63) (z:Int) (m:Nat) (hm:m≤8):∃ js now,gO [.scr ns,.int z,.int m]=a_ (.ok (ej js))∧Jar js∧js.length≤m∧JI m js now:=by
 obtain ⟨d,a0,b0,e0⟩:=aR ns hl z (m + 1) (by omega);obtain ⟨c,rfl⟩:∃ c:Nat,d=(c:Int):=⟨d.toNat,by omega⟩;have hr:qS [.int (c:Int)]=a_ (.ok (((pi c).map fun i:Nat=>(i:Int)).map Dv.int)):=by
  rw [DC (by omega),oZ];simp
 obtain ⟨js,now,e,J⟩:=pY ns hl z m ((pi c).map fun i:Nat=>(i:Int)) (jb ns z m 0) 0 0 [] (by simp; omega) rfl ⟨by simp,N4,by simp,by simp,by omega,by omega,by simp,by simp⟩;have hlen:((pi c).map fun i:Nat=>(i:Int)).length=c:=by simp
 rw [hlen] at J;have J5:=J.l;refine ⟨js,now,?_,J.jar (by omega),by omega,⟨J.g,J.s,J.k,by omega,J.n0,by have:=J.n1; omega,J.m,J.u⟩⟩;refine fY (d:=ej js) ?_;show sJ 3 ah _ [a_ (.scr ns),a_ (.int z),a_ (.int m),ck,ck,ck,ck,ck,ck,ck,ck,ck,ck,ck,ck,ck]=_;have hsrc:(fun ρ=>bnd ((aa (ag ae 3 (aa (ac 0) (aa (ac 1) (aa (f2 bP (ac 2) (fC (.int 1))) ah)))) ah) ρ) qS) (jb ns z m 0)=a_ (.ok (((pi c).map fun i:Nat=>(i:Int)).map Dv.int)):=by
  have h:(aa (ag ae 3 (aa (ac 0) (aa (ac 1) (aa (f2 bP (ac 2) (fC (.int 1))) ah)))) ah) (jb ns z m 0)=a_ (.ok [.int (c:Int)]):=by
   simp [bnd,aa,ah,ag,fC,ac,f2,jb,uJ,e0]
  exact (xQ (k:=qS) h).trans hr
 have hfor:sK 5 [5,6,7,8,9,10,11,12,13,14,15] (fun ρ=>bnd ((aa (ag ae 3 (aa (ac 0) (aa (ac 1) (aa (f2 bP (ac 2) (fC (.int 1))) ah)))) ah) ρ) qS) bG (jb ns z m 0) []=a_ (.nx (jb ns z m now) (js.map enc)):=by
  unfold sK;rw [hsrc];show (if imms (((pi c).map fun i:Nat=>(i:Int)).map Dv.int)=e_ then _ else ck)=_;rw [if_pos (ng _)];exact e
 have hle:js.length≤100000:=by omega
 have hret:sE 3 (fB1 fX (aa (ac 3) ah)) (jb ns z m now) (js.map enc)=a_ (.rt (ej js)):=by
  unfold sE;rw [dt (ai (x:=.lst (js.map enc)) rfl aM)];rfl
 have hbody:(dI (eK 4 (fC (.int 0))) (dI (sK 5 [5,6,7,8,9,10,11,12,13,14,15] (fun ρ=>bnd ((aa (ag ae 3 (aa (ac 0) (aa (ac 1) (aa (f2 bP (ac 2) (fC (.int 1))) ah)))) ah) ρ) qS) bG) (sE 3 (fB1 fX (aa (ac 3) ah))))) [a_ (.scr ns),a_ (.int z),a_ (.int m),ck,ck,ck,ck,ck,ck,ck,ck,ck,ck,ck,ck,ck] []=a_ (.rt (ej js)):=by
  rw [uI (show eK 4 (fC (.int 0)) [a_ (.scr ns),a_ (.int z),a_ (.int m),ck,ck,ck,ck,ck,ck,ck,ck,ck,ck,ck,ck,ck] []=a_ (.nx (jb ns z m 0) []) from rfl)];rw [uI hfor];exact hret
 unfold sJ;show (if ([]:List Dv).length≤100000 then _ else ck)=_;rw [if_pos (by simp)];exact (congrArg (fun o=>match o with | some (Fo.nx ρ' ds')=>a_ (Fl.nx (List.set ρ' 3 (a_ (Dv.lst ds')))) | some (Fo.rt d)=>a_ (Fl.rt d) | none=>ck) hbody).trans rfl
end J
namespace J
open PySem PySem.Spec PyProof.Rows L2 FD
theorem nh (n:Note):dF [enc n]=a_ (.ok (ek n)):=by simp [dF,bp,wp,au,sq,aQ,az,bg,aS,ba,bN,bnd,bOr,cH,bh,fB,toB,ag,al,aa,ah,ac,fC,f1,f2,ixD,atD,vOr,cK,eC,fIf,bS,bK,fB1,fM,aC,aX,isN,cY,cu,aD,bB,bx,bE,enc,ek]
def kM (n:Note):List SM.Mx:=[a_ (.inr n.nm),a_ (.inr n.house),a_ (.inr n.path)]
theorem pZ:∀ js:List Note,kg (js.map ek)=a_ (js.map kM)
 | []=>rfl
 | n :: js=>by
  show (match mC [.str n.nm,.str n.house,.str n.path],kg (js.map ek) with | some k,a_ ks=>a_ (k :: ks) | _,_=>ck)=_
  rw [pZ js];rfl
theorem Hc {js:List Note} (h:(js.map key).Nodup):(js.map kM).Nodup:=by
 unfold List.Nodup at h ⊢;rw [MY] at h ⊢;refine h.imp fun {a b} hab e=>hab ?_;unfold kM at e;simp only [Mw,Li,Ri,and_true] at e;obtain ⟨e1,e2,e3⟩:=e;unfold key;rw [e1,e2,e3]
theorem wM {js:List Note} (J:Jar js):cq [ej js]=bo e_:=by
 have hl:=J.l;have e1:cj 1 [] (dr (ac 0)) (gN 0) ck (ag dF 1 (aa (ac 0) ah)) [a_ (ej js),ck]=a_ (.ok (.lst (js.map ek))) :=
  mT enc ek (src_of rfl) (by omega) fun n hn=>jr dF rfl (nh n)
 have e2:ig [.lst (js.map ek)]=a_ (.ok (.int (js.length:Int))):=by
  show (match kg (js.map ek) with | some ks=>if ks.Nodup∧ks.length≤18 then (a_ (.ok (.int (ks.length:Nat))):Option (Rs Dv)) else ck | none=>ck)=_
  rw [pZ];dsimp only;rw [if_pos ⟨Hc J.k,by simp; omega⟩,Jo]
 refine fY ?_;show bR [a_ (ej js),ck]=_;unfold bR;rw [am (aV (ρ':=[a_ (ej js),a_ (.lst (js.map ek))]) e1 rfl)];refine dP ((bD ((dt (ai (x:=.lst (js.map ek)) rfl aM)).trans e2) (y:=.int js.length) (by show a_ (Rs.ok (Dv.int ((js.map ek).length:Int)))=_; rw [Jo])).trans ?_);show a_ (Rs.ok (Dv.bl ((js.length:Int) == (js.length:Int))))=_;simp
theorem all_map {α:Type} (p:α→Bool) (l:List α):iA [.lst (l.map fun a=>Dv.bl (p a))]=bo (l.all p):=by
 unfold iA;dsimp only;rw [ka p l];dsimp only;rw [List.all_map];rfl
theorem p4 {α:Type} (l:List α):iA [.lst (l.map fun _=>Dv.bl e_)]=bo e_:=by
 rw [all_map (fun _=>e_) l];simp
theorem z4 {js:List Note} {i:Nat} (h:i < js.length):ixD (ej js) (.int i)=a_ (.ok (enc js[i])):=by
 show (match atD (js.map enc) (i:Int) with | some d=>_ | none=>_)=_
 unfold atD;rw [if_pos (by omega)];simp [h]
theorem Eh (n:Note):ixD (enc n) (.int 8)=a_ (.ok (.int n.md)):=rfl
theorem Ei (js:List Note) (hl:js.length≤18):(fun ρ=>bnd ((aa (fC (.int 1)) (aa (fB1 gZ (aa (ac 0) ah)) ah)) ρ) uT) [a_ (ej js)]=a_ (.ok ((pi (js.length - 1)).map fun i:Nat=>Dv.int (1 + (i:Int)))):=by
 have h:(aa (fC (.int 1)) (aa (fB1 gZ (aa (ac 0) ah)) ah)) [a_ (ej js)]=a_ (.ok [.int 1,.int js.length]):=by
  simp [bnd,aa,ah,fB1,fC,ac,ej,gZ]
 refine (xQ (k:=uT) h).trans ?_;rw [DB (by omega),oZ,show ((js.length:Int) - 1).toNat=js.length - 1 by omega]
def HY:FnE:=(f2 leX (f2 ixD (f2 ixD (ac 1) (f2 xg (ac 0) (fC (.int 1)))) (fC (.int 8))) (f2 ixD (f2 ixD (ac 1) (ac 0)) (fC (.int 8))))
theorem z7 {js:List Note} (J:Jar js) {i:Nat} (hi':i + 1 < js.length):HY [a_ (.int (1 + (i:Int))),a_ (ej js)]=a_ (.ok (.bl e_)):=by
 have hs:=J.s i hi';have h1:f2 ixD (ac 1) (f2 xg (ac 0) (fC (.int 1))) [a_ (.int (1 + (i:Int))),a_ (ej js)]=a_ (.ok (enc js[i])):=by
  have q:=z4 (js:=js) (i:=i) (by omega);rw [show (i:Int)=1 + (i:Int) - 1 by omega] at q;exact q
 have h2:f2 ixD (ac 1) (ac 0) [a_ (.int (1 + (i:Int))),a_ (ej js)]=a_ (.ok (enc js[i + 1])):=by
  have q:=z4 (js:=js) (i:=i + 1) hi';rw [show ((i + 1:Nat):Int)=1 + (i:Int) by omega] at q;exact q
 have h3:leX (.int js[i].md) (.int js[i + 1].md)=a_ (.ok (.bl e_)):=by simp [leX,hs]
 exact (bD ((bD h1 rfl).trans (Eh _)) ((bD h2 rfl).trans (Eh _))).trans h3
theorem Hd {js:List Note} (J:Jar js):bX [("notes",0)] (fun ρ=>bnd ((aa (fC (.int 1)) (aa (fB1 gZ (aa (ac 0) ah)) ah)) ρ) uT) ck HY [a_ (ej js)]=a_ (.ok (.lst ((pi (js.length - 1)).map fun _=>Dv.bl e_))) :=
 gR (fun i:Nat=>Dv.int (1 + (i:Int))) (fun _=>Dv.bl e_) (Ei js J.l) (by have:=J.l; rw [MZ]; omega) fun i hi=>z7 J (by have:=JQ.mp hi; omega)
theorem z8 {js:List Note} (J:Jar js):eR [ej js]=bo e_ :=
 fY (d:=.bl e_) (dP ((dt (ai (Hd J) aM)).trans (p4 _)))
theorem t_a {js:List Note} (J:Jar js):bX [] (dr (ac 0)) ck (ag ef 1 (aa (ac 0) ah)) [a_ (ej js)]=a_ (.ok (.lst (js.map fun _=>Dv.bl e_))) :=
 gR enc (fun _=>Dv.bl e_) (src_of rfl) (by have:=J.l; omega) fun n hn=>jr ef rfl (Ee (J.g n hn))
theorem t_b {js:List Note} (J:Jar js):(bOr (bh (fB (f1 (cu bB) (ac 0)))) (fB (f2 gtD (fB1 gZ (aa (ac 0) ah)) (fC (.int 20))))) [a_ (ej js)]=a_ (.ok d_):=by
 have e3:¬ (20 < (js.length:Int)):=by have:=J.l; omega
 simp [au,sq,bOr,bh,fB,f1,f2,cu,bB,ac,bnd,toB,fB1,aa,ah,fC,ej,gZ,FH,e3]
theorem t_c {js:List Note} (J:Jar js):fB1 iA (aa (bX [] (dr (ac 0)) ck (ag ef 1 (aa (ac 0) ah))) ah) [a_ (ej js)]=bo e_:=(dt (ai (t_a J) aM)).trans (p4 js)
theorem t_d {js:List Note} (J:Jar js):iI [a_ (ej js)]=a_ (.rt (.bl e_)):=by
 unfold iI;rw [am (bC (t_b J))];rw [am (bC (yK (k:=e_) (bM (t_c J))))];refine dP ?_;rw [Ca (jr eR rfl (z8 J))];exact jr cq rfl (wM J)
theorem jar_y {js:List Note} (J:Jar js):iJ [ej js]=bo e_:=fY (d:=.bl e_) (t_d J)
end J
namespace J
open PySem PySem.Spec PyProof.Rows L2 FD
abbrev zz1:FnA:=(aa (ac 0) (aa (ac 1) (aa (ac 2) (aa (ac 3) (aa (ac 4) ah)))))
abbrev zz2:FnA:=(aa (ac 0) (aa (ac 2) (aa (ac 3) (aa (ac 4) ah))))
theorem jE (n:Note) (k:Int):aZ [enc n,.int k]=bo (ended n k):=by
 cases h:n.ends <;> simp [aZ,bp,fK,sq,az,bg,bN,bnd,toB,ac,fC,f2,ixD,atD,cK,cY,enc,eO,ended,h,leX]
theorem z9:(pths.all fun p=>pths.all fun q=>okB (aE [.str p,.str q]))=e_:=by kernel_rfl
theorem He {p q:Str} (h:p∈pths) (h':q∈pths):∃ k,aE [.str p,.str q]=bo k:=ut (aN (p:=fun q=>okB (aE [.str p,.str q])) (aN (p:=fun p=>pths.all fun q=>okB (aE [.str p,.str q])) z9 h) h')
def wiB (p q:Str):Bool:=okY (aI [.str p,.str q])
def unB (p q:Str):Bool:=okY (aE [.str p,.str q])
theorem Aa {p q:Str} (h:p∈En) (h':q∈En):aI [.str p,.str q]=bo (wiB p q):=by
 obtain ⟨k,e⟩:=HS h h';unfold wiB;rw [e];cases k <;> rfl
theorem Ej {p q:Str} (h:p∈pths) (h':q∈pths):aE [.str p,.str q]=bo (unB p q):=by
 obtain ⟨k,e⟩:=He h h';unfold unB;rw [e];cases k <;> rfl
def wN (o N:Note) (now:Int):Bool:=o.S && (!ended o now && (seq o.nm N.nm && ((wiB N.house o.house || wiB o.house N.house) && unB N.path o.path)))
theorem i0 (n:Note):ixD (enc n) (.int 0)=a_ (.ok (.str n.nm)):=rfl
theorem i2 (n:Note):ixD (enc n) (.int 2)=a_ (.ok (.str n.house)):=rfl
theorem i4 (n:Note):ixD (enc n) (.int 4)=a_ (.ok (.str n.path)):=rfl
theorem i6 (n:Note):ixD (enc n) (.int 6)=a_ (.ok (.bl n.S)):=rfl
theorem xR {c:FnB} {rest:FnS} {ρ:Ev} {b:Bool} (hc:c ρ=a_ (.ok b)):au (aQ c (az (fC (.bl d_))) (fun ρ=>a_ (.nx ρ))) rest ρ=if b=e_ then a_ (.rt (.bl d_)) else rest ρ:=by
 unfold au aQ;rw [hc];cases b <;> rfl
theorem bAnd_o {a b:FnB} {ρ:Ev} {x y:Bool} (ha:a ρ=a_ (.ok x)) (hb:b ρ=a_ (.ok y)):cH a b ρ=a_ (.ok (x && y)):=by
 unfold cH; rw [ha]; cases x
 · rfl
 · exact hb
theorem jo {a:FnB} {ρ:Ev} {x:Bool} (ha:a ρ=a_ (.ok x)):bh a ρ=a_ (.ok (!x)):=by
 unfold bh; rw [ha]; rfl
theorem qP {o N:Note} (go:Good o) (gN:Good N) (now:Int):gH [enc o,enc N,.int now]=bo (wN o N now):=by
 have w1:=Aa gN.house go.house;have w2:=Aa go.house gN.house;have u1:=Ej gN.path go.path;have c1:(bOr (bh (fB (f2 ixD (ac 0) (fC (.int 6))))) (bOr (fB (ag aZ 2 (aa (ac 0) (aa (ac 2) ah)))) (fB (f2 neX (f2 ixD (ac 0) (fC (.int 0))) (f2 ixD (ac 1) (fC (.int 0))))))) [a_ (enc o),a_ (enc N),a_ (.int now)]=a_ (.ok (!o.S || (ended o now || !seq o.nm N.nm))) :=
  bOr_of (jo (bM (k:=o.S) ((bD (x:=enc o) (y:=.int 6) rfl rfl).trans (i6 o)))) (bOr_of (bM (fm aZ rfl rfl (jE o now))) (bM ((bD (x:=.str o.nm) (y:=.str N.nm) rfl rfl).trans rfl)))
 have c2:(cH (bh (fB (ag aI 2 (aa (f2 ixD (ac 1) (fC (.int 2))) (aa (f2 ixD (ac 0) (fC (.int 2))) ah))))) (bh (fB (ag aI 2 (aa (f2 ixD (ac 0) (fC (.int 2))) (aa (f2 ixD (ac 1) (fC (.int 2))) ah)))))) [a_ (enc o),a_ (enc N),a_ (.int now)]=a_ (.ok (!wiB N.house o.house && !wiB o.house N.house)) :=
  bAnd_o (jo (bM (fm aI rfl rfl w1))) (jo (bM (fm aI rfl rfl w2)))
 refine fY ?_;show gG [a_ (enc o),a_ (enc N),a_ (.int now)]=_;unfold gG;rw [xR c1,xR c2,wK (fm aE rfl rfl u1)];unfold wN;cases o.S <;> cases ended o now <;> cases seq o.nm N.nm <;> cases wiB N.house o.house <;> cases wiB o.house N.house <;> rfl
end J
namespace J
open PySem PySem.Spec PyProof.Rows L2 FD
theorem uL {α:Type} (p:α→Bool) (l:List α):zc [.lst (l.map fun a=>Dv.bl (p a))]=bo (l.any p):=by
 show (match dD (l.map fun a=>Dv.bl (p a)) with | some bs=>a_ (Rs.ok (Dv.bl (bs.any id))) | none=>ck)=_
 rw [ka];simp
section
variable {t:List Dv} {h p:Str} {O:Dv} {nm w:Str} {H P u l:Dv} {S:Bool} {R:Str} {s:Bool} {house path:Str} {ex:Bool} {wd:Dv} {now:Int} {js:List Note} {N:Note}
def wv (wd:Dv) (s:Bool) (js:List Note) (N:Note) (now:Int):Dv:=match wd with
 | .non=>if (!s && js.any fun o=>wN o N now)=e_ then .str "shadowed" else if ended N now=e_ then .str "gone" else .str "kept"
 | d=>d
theorem xS {c:FnB} {d:Dv} {rest:FnS} {ρ:Ev} {b:Bool} (hc:c ρ=a_ (.ok b)):au (aQ c (az (fC d)) (fun ρ=>a_ (.nx ρ))) rest ρ=if b=e_ then a_ (.rt d) else rest ρ:=by
 unfold au aQ;rw [hc];cases b <;> rfl
theorem Ek (W:Wt t h p O nm w H P u l S R s house path ex wd) (hw:wd≠.non):bW [.tup t,ej js,akn s h p O,gvn nm w H P u l S R,.int now]=a_ (.ok wd):=by
 obtain ⟨x,hx⟩:∃ x,wd=.str x:=by
  rcases W.win with e | ⟨x,_,e⟩
  · exact absurd e hw
  · exact ⟨_,e⟩
 subst hx;refine kn ?_;show dj [a_ (.tup t),a_ (ej js),a_ (akn s h p O),a_ (gvn nm w H P u l S R),a_ (.int now),ck,ck]=_;unfold dj;have v5:al aJ 3 (aa (ac 0) (aa (ac 2) (aa (ac 3) ah))) [a_ (.tup t),a_ (ej js),a_ (akn s h p O),a_ (gvn nm w H P u l S R),a_ (.int now),ck,ck]=a_ (.ok (.str x)):=cE aJ (ai rfl (ai rfl (ai rfl aM))) rfl W.why;rw [am (aV v5 rfl)];simp only [K8,K7];rfl
theorem El (ht:t∈jw rules) (a:Ak h p O) (g:Gv nm w H P u l S R) (n0:0≤now) (n1:now≤9999) (W:Wt t h p O nm w H P u l S R s house path ex .non) (hN:enc N=ntn nm w house ex path (wL u l now) S R now) (gN:Good N) (gj:∀ n∈js,Good n) (hl:js.length≤18) :
 bW [.tup t,ej js,akn s h p O,gvn nm w H P u l S R,.int now]=a_ (.ok (wv .non s js N now)):=by
 have em:=xP ht a g n0 n1 W;rw [← hN] at em;refine kn ?_;show dj [a_ (.tup t),a_ (ej js),a_ (akn s h p O),a_ (gvn nm w H P u l S R),a_ (.int now),ck,ck]=_;unfold dj;have v5:al aJ 3 (aa (ac 0) (aa (ac 2) (aa (ac 3) ah))) [a_ (.tup t),a_ (ej js),a_ (akn s h p O),a_ (gvn nm w H P u l S R),a_ (.int now),ck,ck]=a_ (.ok .non):=cE aJ (ai rfl (ai rfl (ai rfl aM))) rfl W.why;rw [am (aV v5 rfl)];simp only [K8,K7];rw [am (bC (show fB (f2 cY (ac 5) (fC .non)) [a_ (.tup t),a_ (ej js),a_ (akn s h p O),a_ (gvn nm w H P u l S R),a_ (.int now),a_ .non,ck]=a_ (.ok d_) from rfl))];have v6:al cT 4 (aa (ac 0) (aa (ac 2) (aa (ac 3) (aa (ac 4) ah)))) [a_ (.tup t),a_ (ej js),a_ (akn s h p O),a_ (gvn nm w H P u l S R),a_ (.int now),a_ .non,ck]=a_ (.ok (enc N)):=cE cT (ai rfl (ai rfl (ai rfl (ai rfl aM)))) rfl em;rw [am (aV v6 rfl)];simp only [K8,K7];have c1:(cH (bh (fB (f2 ixD (ac 2) (fC (.int 0))))) (fB (fB1 zc (aa (bX [("now",4),("note",6)] (dr (ac 1)) ck (ag gH 3 (aa (ac 0) (aa (ac 2) (aa (ac 1) ah))))) ah)))) [a_ (.tup t),a_ (ej js),a_ (akn s h p O),a_ (gvn nm w H P u l S R),a_ (.int now),a_ .non,a_ (enc N)]=a_ (.ok (!s && js.any fun o=>wN o N now)):=by
  refine bAnd_o (jo (bM (k:=s) rfl)) (bM ((dt (ai (x:=.lst (js.map fun o=>Dv.bl (wN o N now))) ?_ aM)).trans (uL _ _)));exact gR enc (fun o=>Dv.bl (wN o N now)) (src_of rfl) (by omega) fun o ho=>mX gH rfl rfl rfl (qP (gj o ho) gN now)
 rw [xS c1];have c2:fB (ag aZ 2 (aa (ac 6) (aa (ac 4) ah))) [a_ (.tup t),a_ (ej js),a_ (akn s h p O),a_ (gvn nm w H P u l S R),a_ (.int now),a_ .non,a_ (enc N)]=a_ (.ok (ended N now)):=bM (fm aZ rfl rfl (jE N now));rw [xS c2];show _=a_ (Fl.rt (if (!s && js.any fun o=>wN o N now)=e_ then .str "shadowed" else if ended N now=e_ then .str "gone" else .str "kept"));split
 · rfl
 · split <;> rfl
end
end J
namespace J
open PySem PySem.Spec PyProof.Rows L2 FD
def Ab (js:List Note) (n:Note):List Note:=match js.filter (fun o=>u_ (key o=key n)) with
 | []=>js ++ [n]
 | o :: _=>js.map fun x=>if key x=key n then { n with md:=o.md } else x
theorem Em {js:List Note} {n:Note} (hg:∀ o∈js,Good o) (gn:Good n) (hl:js.length≤18):wt [ej js,enc n]=a_ (.ok (ej (Ab js n))):=by
 have t1:∀ o∈js,∀ (r:Ev),(fB (f2 eqX (ag dF 1 (aa (ac 0) ah)) (ag dF 1 (aa (ac 1) ah)))) (a_ (enc o) :: a_ (enc n) :: r)=a_ (.ok (u_ (key o=key n))):=fun o ho r=>bM ((bD (jr dF rfl (nh o)) (jr dF rfl (nh n))).trans (zZ (hg o ho) gn).1);have e1:=kH (cs:=[("note",1)]) (src:=dr (ac 0)) (tst:=(fB (f2 eqX (ag dF 1 (aa (ac 0) ah)) (ag dF 1 (aa (ac 1) ah))))) (elt:=ac 0) (ρ:=[a_ (ej js),a_ (enc n),ck,ck]) enc (fun o=>u_ (key o=key n)) enc (src_of rfl) (by omega) fun o ho=>⟨t1 o ho [],rfl⟩;unfold Ab;cases hf:js.filter (fun o=>u_ (key o=key n)) with
 | nil =>
  rw [hf] at e1;refine fY (d:=ej (js ++ [n])) ?_;show oA [a_ (ej js),a_ (enc n),ck,ck]=_;unfold oA;rw [am (aV e1 rfl)];simp only [K8,K7];refine jM ?_;rw [qE (by kernel_rfl)];refine dP ?_;have hle:js.length + 1≤100000:=by omega
  simp [au,sq,aQ,az,bg,aS,ba,bN,bnd,bOr,cH,bh,fB,toB,ag,al,aa,ah,ac,fC,f1,f2,ixD,atD,vOr,cK,eC,fIf,bS,bK,fB1,fM,aC,aX,isN,cY,cu,aD,bB,bx,bE,ej,bP,hle]
 | cons o rest =>
  rw [hf] at e1;have ho:o∈js:=(Jw.mp (hf ▸ n_:o∈js.filter _)).1;refine fY (d:=ej (js.map fun x=>if key x=key n then { n with md:=o.md } else x)) ?_;show oA [a_ (ej js),a_ (enc n),ck,ck]=_;unfold oA;rw [am (aV e1 rfl)];simp only [K8,K7];have hne:(fB (f2 eqX (ac 2) (bK ah))) [a_ (ej js),a_ (enc n),a_ (.lst ((o :: rest).map enc)),ck]=a_ (.ok d_):=by
   have i1:It1 2 (.lst ((o :: rest).map enc)):=xG fun d hd=>by
    obtain ⟨x,hx,rfl⟩:=Jz.mp hd;have:x∈js.filter (fun o=>u_ (key o=key n)):=by rw [hf]; exact hx
    exact nb (hg x (Jw.mp this).1)
   have i2:=i1.okP (by omega);have i3:okP (.lst [])=e_:=by kernel_rfl
   have i4:eqX (.lst ((o :: rest).map enc)) (.lst [])=bo d_:=by
    unfold eqX;rw [show eqS (.lst ((o :: rest).map enc)) (.lst [])=ck from rfl,i2,i3];simp [cX,toPys,JH,KO]
   exact bM i4
  rw [am (bC hne)];have hnew:(f2 bP (f2 bP (eD (ac 1) dc (cg (fC (.int 8)))) (bS (aa (f2 ixD (f2 ixD (ac 2) (fC (.int 0))) (fC (.int 8))) ah))) (eD (ac 1) (cg (f2 bP (fC (.int 8)) (fC (.int 1)))) dc)) [a_ (ej js),a_ (enc n),a_ (.lst ((o :: rest).map enc)),ck]=a_ (.ok (enc { n with md:=o.md })):=by kernel_rfl
  rw [am (aV hnew rfl)];simp only [K8,K7];refine dP ?_;have e2:=gR (cs:=[("note",1),("newer",3)]) (src:=dr (ac 0)) (elt:=(fIf (fB (f2 eqX (ag dF 1 (aa (ac 0) ah)) (ag dF 1 (aa (ac 1) ah)))) (ac 2) (ac 0))) (ρ:=[a_ (ej js),a_ (enc n),a_ (.lst ((o :: rest).map enc)),a_ (enc { n with md:=o.md })]) enc (fun x=>enc (if key x=key n then { n with md:=o.md } else x)) (src_of rfl) (by omega) fun x hx=>by
   have t:=t1 x hx [a_ (enc { n with md:=o.md })];by_cases hk:key x=key n
   · rw [if_pos hk];rw [decide_eq_true hk] at t;exact (F4 t).trans rfl
   · rw [if_neg hk];rw [decide_eq_false hk] at t;exact (F5 t).trans rfl
  rw [dt (ai e2 aM)];show a_ (Rs.ok (Dv.tup _))=_;simp [ej]
def swp (js:List Note) (now:Int):List Note:=js.filter fun n=>!ended n now
theorem kL {js:List Note} {now:Int} (hl:js.length≤18):br [ej js,.int now]=a_ (.ok (ej (swp js now))):=by
 refine fY ?_;show cy [a_ (ej js),a_ (.int now)]=_;unfold cy;refine dP ?_;have e:(bX [("now",1)] (dr (ac 0)) (a_ (bh (fB (ag aZ 2 (aa (ac 0) (aa (ac 1) ah)))))) (ac 0)) [a_ (ej js),a_ (.int now)]=a_ (.ok (.lst ((swp js now).map enc))) :=
  iN enc _ enc (src_of rfl) (by omega) fun n hn=>⟨jo (bM (fm aZ rfl rfl (jE n now))),rfl⟩
 exact (dt (ai e aM)).trans rfl
end J
namespace J
open PySem PySem.Spec PyProof.Rows L2 FD
section
variable {T A Gd:Dv} {now:Int} {js:List Note} {N:Note} {d:Dv}
def E8 (T:Dv) (js:List Note) (A Gd:Dv) (now:Int) (x5 x6 x7:Option Dv):Ev:=[a_ T,a_ (ej js),a_ A,a_ Gd,a_ (.int now),x5,x6,x7]
theorem lO (hl:js.length≤18) (hw:bW [T,ej js,A,Gd,.int now]=a_ (.ok d)) {f:FnS} {r:Option Fl} (h:f (E8 T js A Gd now (a_ d) (a_ (ej (swp js now))) ck)=r) :
 au (ba 5 (al bW 5 zz1)) (au (ba 6 (ag br 2 (aa (ac 1) (aa (ac 4) ah)))) f) (E8 T js A Gd now ck ck ck)=r:=by
 have s5:ba 5 (al bW 5 zz1) (E8 T js A Gd now ck ck ck)=a_ (.nx (E8 T js A Gd now (a_ d) ck ck)):=aV (cE bW (ai rfl (ai rfl (ai rfl (ai rfl (ai rfl aM))))) rfl hw) rfl;have s6:ba 6 (ag br 2 (aa (ac 1) (aa (ac 4) ah))) (E8 T js A Gd now (a_ d) ck ck)=a_ (.nx (E8 T js A Gd now (a_ d) (a_ (ej (swp js now))) ck)):=aV (fm br rfl rfl (kL hl)) rfl;rw [am s5,am s6];exact h
theorem uM:(swp js now).length≤js.length:=Kk _ _
theorem kN (hl:js.length≤18) (hw:bW [T,ej js,A,Gd,.int now]=a_ (.ok d)) (hk:eqX d (.str "kept")=bo d_) (hg:eqX d (.str "gone")=bo d_):cB [T,ej js,A,Gd,.int now]=a_ (.ok (ej (swp js now))):=by
 refine kn ?_;show cA (E8 T js A Gd now ck ck ck)=_;unfold cA;refine lO hl hw ?_;have c1:fB (f2 eqX (ac 5) (fC (.str "kept"))) (E8 T js A Gd now (a_ d) (a_ (ej (swp js now))) ck)=a_ (.ok d_):=bM ((bD (x:=d) (y:=.str "kept") rfl rfl).trans hk);have c2:fB (f2 eqX (ac 5) (fC (.str "gone"))) (E8 T js A Gd now (a_ d) (a_ (ej (swp js now))) ck)=a_ (.ok d_):=bM ((bD (x:=d) (y:=.str "gone") rfl rfl).trans hg);rw [am (bC c1),am (bC c2)];rfl
theorem uN (hl:js.length≤18) (gj:∀ n∈js,Good n) (gN:Good N) (hw:bW [T,ej js,A,Gd,.int now]=a_ (.ok (.str "kept"))) (em:cT [T,A,Gd,.int now]=a_ (.ok (enc N))):cB [T,ej js,A,Gd,.int now]=a_ (.ok (ej (Ab (swp js now) N))):=by
 refine kn ?_;show cA (E8 T js A Gd now ck ck ck)=_;unfold cA;refine lO hl hw ?_;have c1:fB (f2 eqX (ac 5) (fC (.str "kept"))) (E8 T js A Gd now (a_ (.str "kept")) (a_ (ej (swp js now))) ck)=a_ (.ok e_):=bM ((bD (x:=.str "kept") (y:=.str "kept") rfl rfl).trans (by kernel_rfl));refine jM ?_;rw [qE c1];have v:al cT 4 zz2 (E8 T js A Gd now (a_ (.str "kept")) (a_ (ej (swp js now))) ck)=a_ (.ok (enc N)):=cE cT (ai rfl (ai rfl (ai rfl (ai rfl aM)))) rfl em;exact dP (fm wt rfl v (Em (fun o ho=>gj o (Jw.mp ho).1) gN (Jy uM hl)))
theorem Hg {o:Note} (go:Good o) (gN:Good N):neX (ek o) (ek N)=bo (!u_ (key o=key N)):=(zZ go gN).2
theorem uO (hl:js.length≤18) (gj:∀ n∈js,Good n) (gN:Good N) (hw:bW [T,ej js,A,Gd,.int now]=a_ (.ok (.str "gone"))) (em:cT [T,A,Gd,.int now]=a_ (.ok (enc N))):cB [T,ej js,A,Gd,.int now]=a_ (.ok (ej ((swp js now).filter fun o=>!u_ (key o=key N)))):=by
 have sl:(swp js now).length≤18:=Jy uM hl;refine kn ?_;show cA (E8 T js A Gd now ck ck ck)=_;unfold cA;refine lO hl hw ?_;have c1:fB (f2 eqX (ac 5) (fC (.str "kept"))) (E8 T js A Gd now (a_ (.str "gone")) (a_ (ej (swp js now))) ck)=a_ (.ok d_):=bM ((bD (x:=.str "gone") (y:=.str "kept") rfl rfl).trans (by kernel_rfl));have c2:fB (f2 eqX (ac 5) (fC (.str "gone"))) (E8 T js A Gd now (a_ (.str "gone")) (a_ (ej (swp js now))) ck)=a_ (.ok e_):=bM ((bD (x:=.str "gone") (y:=.str "gone") rfl rfl).trans (by kernel_rfl));rw [am (bC c1)];refine jM ?_;rw [qE c2];have v:al cT 4 zz2 (E8 T js A Gd now (a_ (.str "gone")) (a_ (ej (swp js now))) ck)=a_ (.ok (enc N)):=cE cT (ai rfl (ai rfl (ai rfl (ai rfl aM)))) rfl em;have s7:ba 7 (ag dF 1 (aa (al cT 4 zz2) ah)) (E8 T js A Gd now (a_ (.str "gone")) (a_ (ej (swp js now))) ck)=a_ (.nx (E8 T js A Gd now (a_ (.str "gone")) (a_ (ej (swp js now))) (a_ (ek N)))):=aV (jr dF v (nh N)) rfl;rw [am s7];refine dP ?_;have e:(bX [("ended",7)] (dr (ac 6)) (a_ (fB (f2 neX (ag dF 1 (aa (ac 0) ah)) (ac 1)))) (ac 0)) (E8 T js A Gd now (a_ (.str "gone")) (a_ (ej (swp js now))) (a_ (ek N)))=a_ (.ok (.lst (((swp js now).filter fun o=>!u_ (key o=key N)).map enc))) :=
  iN enc (fun o=>!u_ (key o=key N)) enc (src_of rfl) (by omega) fun o ho=>⟨bM ((bD (x:=ek o) (y:=ek N) (jr dF rfl (nh o)) rfl).trans (Hg (gj o (Jw.mp ho).1) gN)),rfl⟩
 exact (dt (ai e aM)).trans rfl
end
end J
namespace J
open PySem PySem.Spec PyProof.Rows L2 FD
section
variable {T A X Jd N:Dv} {d:Dv} {c:Nat} {wy:Int}
theorem Hh (h:iJ [Jd]=bo e_):cf [Jd]=a_ (.ok .non):=by simp [cf,eE,fR,au,sq,aQ,az,bg,aS,ba,bN,bnd,bOr,cH,bh,fB,toB,ag,al,aa,ah,ac,fC,h]
theorem dY (F:List Dv→Option (Rs Dv)) {a:Dv} {f:FnE} {ρ:Ev} (hf:f ρ=a_ (.ok a)) (h:F [a]=a_ (.ok .non)):aS (al F 1 (aa f ah)) ρ=a_ (.nx ρ):=pA (cE F (ai hf aM) rfl h)
def E6 (T Jd A X N:Dv) (x:Option Dv):Ev:=[a_ T,a_ Jd,a_ A,a_ X,a_ N,x]
theorem rwy (h1:dh [T]=bo e_) (h2:iJ [Jd]=bo e_) (h3:dk [A]=bo e_) {Gd:Dv} (h4:aW [X]=a_ (.ok Gd)) (h:bf [N]=bo e_):ay [T,Jd,A,X,N]=a_ (.ok Gd):=kn (by
 show bt (E6 T Jd A X N ck)=_;unfold bt;rw [am (dY bF rfl (ED h1)),am (dY cf rfl (Hh h2)),am (dY ce rfl (EE h3))];have s5:ba 5 (al aW 1 (aa (ac 3) ah)) (E6 T Jd A X N ck)=a_ (.nx (E6 T Jd A X N (a_ Gd))):=aV (cE aW (ai rfl aM) rfl h4) rfl;rw [am s5,am (dY bd rfl (wC h))];rfl)
def E7 (T:Dv) (js:List Note) (A X:Dv) (now:Int) (x5 x6:Option Dv):Ev:=[a_ T,a_ (ej js),a_ A,a_ X,a_ (.int now),x5,x6]
theorem uP (hl:js.length≤18) {x5 x6:Option Dv}:fB (fB1 zc (aa (bX [("now",4)] (dr (ac 1)) ck (f2 gtD (f2 ixD (ac 0) (fC (.int 9))) (ac 1))) ah)) (E7 T js A X now x5 x6)=a_ (.ok (js.any fun o=>u_ (o.us > now))):=by
 refine bM ((dt (ai (x:=.lst (js.map fun o=>Dv.bl (u_ (o.us > now)))) ?_ aM)).trans (uL _ _));exact gR enc (fun o=>Dv.bl (u_ (o.us > now))) (src_of rfl) (by omega) fun o ho=>(bD (x:=.int o.us) (y:=.int now) rfl rfl).trans rfl
theorem s5T (hr:ay [T,ej js,A,X,.int now]=a_ (.ok Gd)):ba 5 (al ay 5 zz1) (E7 T js A X now ck ck)=a_ (.nx (E7 T js A X now (a_ Gd) ck)):=aV (cE ay (ai rfl (ai rfl (ai rfl (ai rfl (ai rfl aM))))) rfl hr) rfl
theorem qQ (hl:js.length≤18) (hr:ay [T,ej js,A,X,.int now]=a_ (.ok Gd)) (h:(js.any fun o=>u_ (o.us > now))=e_):fU [T,ej js,A,X,.int now]=a_ (.exc 6):=IH (by
 show fT (E7 T js A X now ck ck)=_;unfold fT;rw [am (s5T hr)];have c:=uP (T:=T) (A:=A) (X:=X) (now:=now) (x5:=a_ Gd) (x6:=ck) hl;rw [h] at c;exact II (GO c rfl))
theorem taken_of {ys:List Note} (hl:js.length≤18) (hr:ay [T,ej js,A,X,.int now]=a_ (.ok Gd)) (h:(js.any fun o=>u_ (o.us > now))=d_) (ht:cB [T,ej js,A,Gd,.int now]=a_ (.ok (ej ys))) (hy:ys.length≤20):fU [T,ej js,A,X,.int now]=a_ (.ok (ej ys)):=kn (by
 show fT (E7 T js A X now ck ck)=_;unfold fT;rw [am (s5T hr)];have c:=uP (T:=T) (A:=A) (X:=X) (now:=now) (x5:=a_ Gd) (x6:=ck) hl;rw [h] at c;rw [am (bC c)];have s6:ba 6 (al cB 5 (aa (ac 0) (aa (ac 1) (aa (ac 2) (aa (ac 5) (aa (ac 4) ah)))))) (E7 T js A X now (a_ Gd) ck)=a_ (.nx (E7 T js A X now (a_ Gd) (a_ (ej ys)))):=aV (cE cB (ai rfl (ai rfl (ai rfl (ai rfl (ai rfl aM))))) rfl ht) rfl;have nn:aL [ej ys]=a_ (.ok .non):=by
  have:¬ ((ys.length:Int) > 20):=by omega
  unfold aL eE;show (match aK [a_ (ej ys)] with | some (.nx _)=>a_ (Rs.ok Dv.non) | some (.rt d)=>a_ (Rs.ok d) | some (.exc c)=>a_ (Rs.exc c) | none=>ck)=_
  unfold aK;have c2:fB (f2 gtD (fB1 gZ (aa (ac 0) ah)) (fC (.int 20))) [a_ (ej ys)]=a_ (.ok d_):=by
   refine bM ((bD (x:=.int (ys.length:Int)) (y:=.int 20) ((dt (ai (x:=ej ys) rfl aM)).trans ?_) rfl).trans ?_)
   · show a_ (Rs.ok (Dv.int ((ys.map enc).length:Int)))=_;rw [Jo]
   · show a_ (Rs.ok (Dv.bl (u_ ((ys.length:Int) > 20))))=_;rw [decide_eq_false this]
  rw [bC c2]
 rw [am s6,am (dY aL rfl nn)];rfl)
end
end J
namespace J
open PySem PySem.Spec PyProof.Rows L2 FD
section
variable {t:List Dv} {h p:Str} {O:Dv} {nm w:Str} {H P u l:Dv} {S:Bool} {R:Str} {s:Bool} {house path:Str} {ex:Bool} {wd:Dv} {now:Int} {js:List Note}
theorem Hi (g:Gv nm w H P u l S R) (n0:0≤now):∃ e:Option Int,eO e=wL u l now∧∀ i,e=a_ i→0≤i∧i≤9999:=by
 rcases Ed g n0 with q | ⟨i,h0,h1,q⟩
 · exact ⟨ck,q.symm,fun i hi=>by cases hi⟩
 · exact ⟨a_ i,q.symm,fun j hj=>by cases hj; exact ⟨h0,h1⟩⟩
theorem Ac (g:Gv nm w H P u l S R) (W:Wt t h p O nm w H P u l S R s house path ex wd) (n0:0≤now) (n1:now≤99):∃ N:Note,enc N=ntn nm w house ex path (wL u l now) S R now∧Good N∧N.us=now:=by
 obtain ⟨e,he,hb⟩:=Hi (now:=now) g n0;refine ⟨⟨nm,w,house,ex,path,e,S,R,now,now⟩,?_,⟨g.nm,g.w,W.hs,W.ph,g.r,hb,n0,Int.le_refl _,n1⟩,rfl⟩;show Dv.tup [.str nm,.str w,.str house,.bl ex,.str path,eO e,.bl S,.str R,.int now,.int now]=_;rw [he]
theorem Ad:(En.all fun h=>wiB h h)=e_:=by kernel_rfl
theorem Ae:(pths.all fun h=>unB h h)=e_:=by kernel_rfl
theorem wO {n N:Note} (gn:Good n) (hS:n.S=e_) (he:ended n now=d_) (hk:key n=key N):wN n N now=e_:=by
 unfold key at hk;simp only [Mw,and_true] at hk;obtain ⟨e1,e2,e3⟩:=hk;have w1:wiB n.house n.house=e_:=aN (p:=fun h=>wiB h h) Ad gn.house;have w2:unB n.path n.path=e_:=aN (p:=fun h=>unB h h) Ae gn.path;unfold wN;rw [hS,he,← e1,← e2,← e3,w1,w2,wB];rfl
theorem take_ok (ht:t∈jw rules) (a:Ak h p O) (g:Gv nm w H P u l S R) (Jr:Jar js) (n0:0≤now) (n1:now≤99) (hu:∀ o∈js,o.us≤now) :
 ∃ ys:List Note,cB [.tup t,ej js,akn d_ h p O,gvn nm w H P u l S R,.int now]=a_ (.ok (ej ys))∧(∀ o∈ys,Good o)∧ys.length≤20∧(∀ n∈swp js now,n.S=e_→n∈ys)∧(∀ n∈ys,n.S=e_→n∈swp js now):=by
 have jl:=Jr.l;obtain ⟨house,path,ex,wd,W⟩:=GZ ht a g d_;have gs:∀ o∈swp js now,Good o:=fun o ho=>Jr.g o (Jw.mp ho).1;have sl:(swp js now).length≤18:=Jy uM jl;have other:∀ x:Str,x∈[b_ "foreign",b_ "open",b_ "unsafe",b_ "marked",b_ "far",b_ "shadowed"]→eqX (.str x) (.str "kept")=bo d_∧eqX (.str x) (.str "gone")=bo d_:=by
  intro x hx;simp only [w_,Jl,or_false] at hx;rcases hx with rfl | rfl | rfl | rfl | rfl | rfl <;> exact ⟨by kernel_rfl,by kernel_rfl⟩
 rcases W.win with rfl | ⟨x,hx,rfl⟩
 · obtain ⟨N,hN,gN,hus⟩:=Ac (now:=now) g W n0 n1;have hS:S=d_:=W.un rfl rfl;have hNS:N.S=d_:=by
    have:enc N=ntn nm w house ex path (wL u l now) S R now:=hN;unfold enc at this;injection this with this;simp only [Mw,Dv.bl.injEq] at this;rw [this.2.2.2.2.2.2.1,hS]
   have em:=xP ht a g n0 (by omega) W;rw [← hN] at em;have e1:=El (js:=js) ht a g n0 (by omega) W hN gN Jr.g jl;unfold wv at e1;dsimp only at e1;split at e1
   · obtain ⟨o1,o2⟩:=other (b_ "shadowed") (by simp);exact ⟨swp js now,kN jl e1 o1 o2,gs,by omega,fun n hn _=>hn,fun n hn _=>hn⟩
   · rename_i hc;have nk:∀ n∈swp js now,n.S=e_→key n≠key N:=fun n hn hS' hk=>hc (by
      rw [KD,Bool.true_and,K3];have hm:=Jw.mp hn;exact ⟨n,hm.1,wO (gs n hn) hS' (by simpa using hm.2) hk⟩)
     split at e1
     · refine ⟨_,uO jl Jr.g gN e1 em,fun o ho=>gs o (Jw.mp ho).1,Jy (Kk _ _) (by omega),fun n hn hS'=>Jw.mpr ⟨hn,by simpa using nk n hn hS'⟩,fun n hn _=>(Jw.mp hn).1⟩
     · refine ⟨_,uN jl Jr.g gN e1 em,?_,?_,?_,?_⟩
       · intro o ho;unfold Ab at ho;split at ho
         · rcases Jn.mp ho with q | q
           · exact gs o q
           · rw [Jk.mp q]; exact gN
         · rename_i o1 r1 hf;obtain ⟨z,hz,rfl⟩:=Jz.mp ho;split
           · have hm:o1∈(swp js now).filter (fun o=>u_ (key o=key N)):=by rw [hf]; exact n_
             have hm2:=(Jw.mp hm).1;have g1:=gs o1 hm2;have u1:=hu o1 (Jw.mp hm2).1;refine ⟨gN.nm,gN.w,gN.house,gN.path,gN.R,gN.ends,g1.mk0,?_,gN.us⟩;show o1.md≤N.us;have:=g1.mu;omega
           · exact gs z hz
       · unfold Ab;split
         · simp; omega
         · simp; omega
       · intro n hn hS';unfold Ab;split
         · exact A_ _ hn
         · exact Jz.mpr ⟨n,hn,if_neg (nk n hn hS')⟩
       · intro n hn hS';unfold Ab at hn;split at hn
         · rcases Jn.mp hn with q | q
           · exact q
           · rw [Jk.mp q,hNS] at hS'; cases hS'
         · obtain ⟨z,hz,rfl⟩:=Jz.mp hn;split at hS'
           · have:N.S=e_:=hS';rw [hNS] at this; cases this
           · rename_i hk;rw [if_neg hk]; exact hz
 · have hx':b_ x∈[b_ "foreign",b_ "open",b_ "unsafe",b_ "marked",b_ "far",b_ "shadowed"]:=by
    simp only [w_,Jl,or_false] at hx;rcases hx with rfl | rfl | rfl | rfl | rfl <;> simp
   obtain ⟨o1,o2⟩:=other _ hx';have e1:=Ek (js:=js) (now:=now) W (by simp);exact ⟨swp js now,kN jl e1 o1 o2,gs,by omega,fun n hn _=>hn,fun n hn _=>hn⟩
end
end J
namespace J
open PySem PySem.Spec PyProof.Rows L2 FD TS
structure AW (h p:Str) (O:Dv):Prop where
 hn:h∈En
 pn:bA [.str p]=bo e_
 o:O=.non∨∃ o∈menu,O=.str o
 un:∀ q∈pths,aE [.str p,.str q]=bo (unB p q)
theorem aw_of {h p:Str} {O:Dv} (a:Ak h p O):AW h p O:=⟨a.h,xJ a.p,a.o,fun q hq=>Ej a.p hq⟩
def py (p:Str):Str:=p ++ b_ "/y"
theorem Eo:(pths.all fun p=>okY (bA [.str (py p)]) && (u_ (p.length≤1000) && pths.all fun q=>okB (aE [.str (py p),.str q]) && (!unB p q || unB (py p) q)))=e_:=by kernel_rfl
theorem py_y {p:Str} (h:p∈pths):bA [.str (py p)]=bo e_∧p.length≤1000∧(∀ q∈pths,aE [.str (py p),.str q]=bo (unB (py p) q))∧∀ q∈pths,unB p q=e_→unB (py p) q=e_:=by
 have z:=aN (p:=fun p=>okY (bA [.str (py p)]) && (u_ (p.length≤1000) && pths.all fun q=>okB (aE [.str (py p),.str q]) && (!unB p q || unB (py p) q))) Eo h;simp only [on,decide_eq_true_eq] at z;obtain ⟨z1,z2,z3⟩:=z;refine ⟨gc z1,z2,fun q hq=>?_,fun q hq hu=>?_⟩
 · have y:=aN (p:=fun q=>okB (aE [.str (py p),.str q]) && (!unB p q || unB (py p) q)) z3 hq;rw [on] at y;obtain ⟨k,e⟩:=ut y.1;unfold unB;rw [e];cases k <;> rfl
 · have y:=aN (p:=fun q=>okB (aE [.str (py p),.str q]) && (!unB p q || unB (py p) q)) z3 hq;rw [on,hu] at y;simpa using y.2
theorem aw_py {h p:Str} {O:Dv} (a:Ak h p O):AW h (py p) O:=⟨a.h,(py_y a.p).1,a.o,(py_y a.p).2.2.1⟩
theorem Ep {s:Bool} {h p:Str} {O:Dv} (a:AW h p O):dk [akn s h p O]=bo e_:=by
 have e0:bQ [.tup [.bl s,.str h,.str p,O],.int 4]=bo e_:=by kernel_rfl
 have e1:=uX a.hn;have e2:=a.pn;rcases a.o with rfl | ⟨o,ho,rfl⟩
 · simp [dk,bp,fP,au,sq,aQ,az,bg,aS,ba,bN,bnd,bOr,cH,bh,fB,toB,ag,al,aa,ah,ac,fC,f1,f2,ixD,atD,vOr,cK,eC,fIf,bS,bK,fB1,fM,aC,aX,isN,cY,cu,aD,bB,bx,bE,e0,e1,e2,iA,dD]
 · have e3:=uX (me ho);simp [dk,bp,fP,au,sq,aQ,az,bg,aS,ba,bN,bnd,bOr,cH,bh,fB,toB,ag,al,aa,ah,ac,fC,f1,f2,ixD,atD,vOr,cK,eC,fIf,bS,bK,fB1,fM,aC,aX,isN,cY,cu,aD,bB,bx,bE,e0,e1,e2,e3,iA,dD]
theorem near_w {t:List Dv} (ht:t∈jw rules) {h:Str} {O:Dv} (hh:h∈En) (oo:O=.non∨∃ o∈menu,O=.str o):∃ k,(O=.non→k=e_)∧∀ s p,aj [.tup t,akn s h p O]=bo k:=by
 rcases oo with rfl | ⟨o,ho,rfl⟩
 · exact ⟨e_,fun _=>rfl,fun s p=>by simp [aj,bp,aA,au,sq,aQ,az,bg,aS,ba,bN,bnd,bOr,cH,bh,fB,toB,ag,al,aa,ah,ac,fC,f1,f2,ixD,atD,vOr,cK,eC,fIf,bS,bK,fB1,fM,aC,aX,isN,cY,cu,aD,bB,bx,bE]⟩
 · obtain ⟨m1,o1,_,h1,e1⟩:=ur ht hh;obtain ⟨m2,o2,_,h2,e2⟩:=ur ht (me ho);cases q:seq o h with
   | true=>exact ⟨e_,fun _=>rfl,fun s p=>by simp [aj,bp,aA,au,sq,aQ,az,bg,aS,ba,bN,bnd,bOr,cH,bh,fB,toB,ag,al,aa,ah,ac,fC,f1,f2,ixD,atD,vOr,cK,eC,fIf,bS,bK,fB1,fM,aC,aX,isN,cY,cu,aD,bB,bx,bE,eqX,eqS,q]⟩
   | false =>
    rcases h1 with rfl | ⟨z1,rfl⟩
    · exact ⟨d_,(fun z=>nomatch z),fun s p=>by simp [aj,bp,aA,au,sq,aQ,az,bg,aS,ba,bN,bnd,bOr,cH,bh,fB,toB,ag,al,aa,ah,ac,fC,f1,f2,ixD,atD,vOr,cK,eC,fIf,bS,bK,fB1,fM,aC,aX,isN,cY,cu,aD,bB,bx,bE,eqX,eqS,q,e1,e2]⟩
    · rcases h2 with rfl | ⟨z2,rfl⟩
      · exact ⟨d_,(fun z=>nomatch z),fun s p=>by simp [aj,bp,aA,au,sq,aQ,az,bg,aS,ba,bN,bnd,bOr,cH,bh,fB,toB,ag,al,aa,ah,ac,fC,f1,f2,ixD,atD,vOr,cK,eC,fIf,bS,bK,fB1,fM,aC,aX,isN,cY,cu,aD,bB,bx,bE,eqX,eqS,q,e1,e2]⟩
      · exact ⟨seq z1 z2,(fun z=>nomatch z),fun s p=>by simp [aj,bp,aA,au,sq,aQ,az,bg,aS,ba,bN,bnd,bOr,cH,bh,fB,toB,ag,al,aa,ah,ac,fC,f1,f2,ixD,atD,vOr,cK,eC,fIf,bS,bK,fB1,fM,aC,aX,isN,cY,cu,aD,bB,bx,bE,eqX,eqS,q,e1,e2]⟩
theorem wP (x y:Str):seq x y=seq y x:=by
 unfold seq;rw [JX];simp;exact ⟨fun h=>h.symm,fun h=>h.symm⟩
def gB (nr:Bool) (n:Note) (s:Bool) (h p:Str) (now:Int):Bool:=!ended n now && (if n.ex=e_ then seq h n.house else wiB h n.house) && unB p n.path && (!(n.S && !s)) && (seq n.R (b_ "any") || nr)
theorem uQ {c:FnB} {rest:FnS} {ρ:Ev} {b:Bool} (hc:c ρ=a_ (.ok b)):au (aQ c (az (fC (.bl d_))) (fun ρ=>a_ (.nx ρ))) rest ρ=if b=e_ then a_ (.rt (.bl d_)) else rest ρ:=by
 unfold au aQ;rw [hc];cases b <;> rfl
section
variable {ns:List Int} {t:List Dv} {js:List Note} {now:Int} {h p:Str} {O:Dv} {nr s:Bool}
theorem Er {n:Note} (g:Good n) (a:AW h p O) (hn:∀ s p,aj [.tup t,akn s h p O]=bo nr):mL [.tup t,enc n,akn s h p O,.int now]=bo (gB nr n s h p now):=by
 have w1:=Aa a.hn g.house;have u1:=a.un n.path g.path;have q1:eqX (.str n.house) (.str h)=bo (seq h n.house):=by rw [wP]; rfl
 have e1:=jE n now;have n1:=hn s p;obtain ⟨ak,hak⟩:∃ d,d=akn s h p O:=⟨_,rfl⟩;have i0:ixD ak (.int 0)=a_ (.ok (.bl s)):=by rw [hak]; rfl
 have i1:ixD ak (.int 1)=a_ (.ok (.str h)):=by rw [hak]; rfl
 have i2:ixD ak (.int 2)=a_ (.ok (.str p)):=by rw [hak]; rfl
 rw [← hak] at n1 ⊢;have f1:gQ [enc n,.str h]=bo (if n.ex=e_ then seq h n.house else wiB h n.house):=by
  cases hx:n.ex <;> simp [gQ,bp,jz,au,sq,aQ,az,bg,aS,ba,bN,bnd,bOr,cH,bh,fB,toB,ag,al,aa,ah,ac,fC,f1,f2,ixD,atD,vOr,cK,eC,fIf,bS,bK,fB1,fM,aC,aX,isN,cY,cu,aD,bB,bx,bE,enc,hx,q1,w1]
 have c3:(cH (fB (f2 ixD (ac 1) (fC (.int 6)))) (bh (fB (f2 ixD (ac 2) (fC (.int 0)))))) [a_ (.tup t),a_ (enc n),a_ ak,a_ (.int now)]=a_ (.ok (n.S && !s)) :=
  bAnd_o (bM (k:=n.S) rfl) (jo (bM ((bD (x:=ak) (y:=.int 0) rfl rfl).trans i0)))
 have z1:f2 eqX (f2 ixD (ac 1) (fC (.int 7))) (fC (.str "any")) [a_ (.tup t),a_ (enc n),a_ ak,a_ (.int now)]=bo (seq n.R (b_ "any")):=(bD (x:=.str n.R) (y:=.str "any") rfl rfl).trans rfl;have c1:(bOr (fB (ag aZ 2 (aa (ac 1) (aa (ac 3) ah)))) (bh (fB (ag gQ 2 (aa (ac 1) (aa (f2 ixD (ac 2) (fC (.int 1))) ah)))))) [a_ (.tup t),a_ (enc n),a_ ak,a_ (.int now)]=a_ (.ok (ended n now || !(if n.ex=e_ then seq h n.house else wiB h n.house))) :=
  bOr_of (bM (fm aZ rfl rfl e1)) (jo (bM (fm gQ rfl ((bD (x:=ak) (y:=.int 1) rfl rfl).trans i1) f1)))
 have c2:(bh (fB (ag aE 2 (aa (f2 ixD (ac 2) (fC (.int 2))) (aa (f2 ixD (ac 1) (fC (.int 4))) ah))))) [a_ (.tup t),a_ (enc n),a_ ak,a_ (.int now)]=a_ (.ok (!unB p n.path)) :=
  jo (bM (fm aE ((bD (x:=ak) (y:=.int 2) rfl rfl).trans i2) rfl u1))
 have c4:(vOr (f2 eqX (f2 ixD (ac 1) (fC (.int 7))) (fC (.str "any"))) (ag aj 2 (aa (ac 0) (aa (ac 2) ah)))) [a_ (.tup t),a_ (enc n),a_ ak,a_ (.int now)]=bo (seq n.R (b_ "any") || nr):=by
  have z2:ag aj 2 (aa (ac 0) (aa (ac 2) ah)) [a_ (.tup t),a_ (enc n),a_ ak,a_ (.int now)]=bo nr:=fm aj rfl rfl n1;unfold vOr;rw [z1];cases seq n.R (b_ "any")
  · exact z2
  · rfl
 refine fY ?_;show mK [a_ (.tup t),a_ (enc n),a_ ak,a_ (.int now)]=_;unfold mK;rw [uQ c1,uQ c2,uQ c3,wK c4];unfold gB;cases ended n now <;> cases (if n.ex=e_ then seq h n.house else wiB h n.house) <;> cases unB p n.path <;> cases (n.S && !s) <;> rfl
def gon (nr:Bool) (js:List Note) (s:Bool) (h p:Str) (now:Int):List Note:=js.filter fun n=>gB nr n s h p now
theorem Ag (n:Note):imm (enc n)=e_:=by
 unfold enc;cases h:n.ends <;> simp [imm,imms,eO]
theorem p6:∀ xs:List Note,imms (xs.map enc)=e_
 | []=>by simp [imms]
 | n :: xs=>by simp [imms,Ag n,p6 xs]
def kp (n:Note):Int:=-(n.path.length:Int)
theorem Ah:(pths.all fun p=>u_ (p.length≤100000))=e_:=by kernel_rfl
theorem Hj {n:Note} (g:Good n):Ay 1 (f1 xh (fB1 gZ (aa (f2 ixD (ac 0) (fC (.int 4))) ah))) [enc n]=a_ (.ok (.int (kp n))):=by
 have h:n.path.length≤100000:=by simpa using aN (p:=fun p:Str=>u_ (p.length≤100000)) Ah g.path
 show f1 xh (fB1 gZ (aa (f2 ixD (ac 0) (fC (.int 4))) ah)) [a_ (enc n)]=_;have e:gZ [.str n.path]=a_ (.ok (.int (n.path.length:Int))):=by
  show (if n.path.length≤100000 then a_ (Rs.ok (Dv.int (n.path.length:Int))) else ck)=_;rw [if_pos h]
 exact (F0 ((dt (ai (x:=.str n.path) rfl aM)).trans e)).trans rfl
theorem kO {F:List Dv→Option (Rs Dv)}:∀ {l:List Note},(∀ n∈l,F [enc n]=a_ (.ok (.int (kp n))))→gp F (l.map enc)=a_ (l.map kp)
 | [],_=>rfl
 | n :: l,h=>by
  show (match F [enc n],gp F (l.map enc) with | some (.ok (.int k)),a_ ks=>a_ (k :: ks) | _,_=>ck)=_
  rw [h n n_,kO fun m hm=>h m (o_ _ hm)];rfl
def snt (l:List Note):List Note:=fu (fun a b=>!u_ (kp b < kp a)) l
theorem snt_perm (l:List Note):(snt l).Perm l:=dR _ _
theorem wQ {F:List Dv→Option (Rs Dv)} {l:List Note} (h:∀ n∈l,F [enc n]=a_ (.ok (.int (kp n)))) (hl:l.length < 64):qA F [.lst (l.map enc)]=a_ (.ok (.lst ((snt l).map enc))):=by
 show (match gp F (l.map enc) with | some ks=>if ks.length < 64∧imms (l.map enc)=e_ then a_ (Rs.ok (Dv.lst (ie ks (l.map enc)))) else ck | none=>ck)=_
 rw [kO h];dsimp only;rw [if_pos ⟨by simpa using hl,p6 l⟩];unfold ie snt;have e:(l.map kp).zip (l.map enc)=l.map fun n=>(kp n,enc n):=by
  clear h hl
  induction l with
  | nil=>rfl
  | cons n l ih=>rw [Ju,Ju,List.zip_cons_cons,ih]; rfl
 rw [e,← ll (le:=fun a b=>!u_ (kp b < kp a)) (fun n=>(kp n,enc n)) l fun _ _ _ _=>rfl,NB];rfl
theorem a4 {f g k m:FnE} {ρ:Ev} {a b c d:Dv} (h:f ρ=a_ (.ok a)) (h':g ρ=a_ (.ok b)) (h'':k ρ=a_ (.ok c)) (h3:m ρ=a_ (.ok d)):aa f (aa g (aa k (aa m ah))) ρ=a_ (.ok [a,b,c,d]):=ai h (ai h' (ai h'' (ai h3 aM)))
theorem cE4 (F:List Dv→Option (Rs Dv)) {f g k m:FnE} {ρ:Ev} {a b c d:Dv} {r:Option (Rs Dv)} (h:f ρ=a_ (.ok a)) (h':g ρ=a_ (.ok b)) (h'':k ρ=a_ (.ok c)) (h3:m ρ=a_ (.ok d)) (hF:F [a,b,c,d]=r):al F 4 (aa f (aa g (aa k (aa m ah)))) ρ=r:=cE F (a4 h h' h'' h3) rfl hF
theorem call4 (F:List Dv→Option (Rs Dv)) {f g k m:FnE} {ρ:Ev} {a b c d e:Dv} (h:f ρ=a_ (.ok a)) (h':g ρ=a_ (.ok b)) (h'':k ρ=a_ (.ok c)) (h3:m ρ=a_ (.ok d)) (hF:F [a,b,c,d]=a_ (.ok e)):ag F 4 (aa f (aa g (aa k (aa m ah)))) ρ=a_ (.ok e) :=
 iB (a4 h h' h'' h3) rfl hF
theorem call5 (F:List Dv→Option (Rs Dv)) {f g k m q:FnE} {ρ:Ev} {a b c d e r:Dv} (h:f ρ=a_ (.ok a)) (h':g ρ=a_ (.ok b)) (h'':k ρ=a_ (.ok c)) (h3:m ρ=a_ (.ok d)) (h4:q ρ=a_ (.ok e)) (hF:F [a,b,c,d,e]=a_ (.ok r)):ag F 5 (aa f (aa g (aa k (aa m (aa q ah))))) ρ=a_ (.ok r) :=
 iB (ai h (a4 h' h'' h3 h4)) rfl hF
theorem nsd (ht:t∈jw rules) (Jr:Jar js) (a:AW h p O) (h1:0≤now) (h2:now≤9999):cx [.tup t,ej js,akn s h p O,.int now]=a_ (.ok .non):=by
 have e:bU [a_ (.tup t),a_ (ej js),a_ (akn s h p O),a_ (.int now)]=a_ (.nx [a_ (.tup t),a_ (ej js),a_ (akn s h p O),a_ (.int now)]):=by
  unfold bU;rw [am (dY bF rfl (ED (gI ht))),am (dY cf rfl (Hh (jar_y Jr))),am (dY ce rfl (EE (Ep a)))];exact dY bd rfl (wC (mom_y h1 h2))
 unfold cx eE;show (match bU [a_ (.tup t),a_ (ej js),a_ (akn s h p O),a_ (.int now)] with | some (.nx _)=>a_ (Rs.ok Dv.non) | some (.rt d)=>a_ (Rs.ok d) | some (.exc c)=>a_ (Rs.exc c) | none=>ck)=_
 rw [e]
theorem sent_w (ht:t∈jw rules) (Jr:Jar js) (a:AW h p O) (hn:∀ s p,aj [.tup t,akn s h p O]=bo nr) (h1:0≤now) (h2:now≤9999):eY [.tup t,ej js,akn s h p O,.int now]=a_ (.ok (.lst ((snt (gon nr js s h p now)).map enc))):=by
 have jl:=Jr.l;have hl:(gon nr js s h p now).length≤js.length:=Kk _ _;refine kn ?_;show j7 [a_ (.tup t),a_ (ej js),a_ (akn s h p O),a_ (.int now),ck]=_;unfold j7;rw [am (pA (cE4 cx rfl rfl rfl rfl (nsd ht Jr a h1 h2)))];have e1:(cj 1 [("table",0),("ask",2),("now",3)] (dr (ac 1)) (gN 0) (a_ (fB (ag mL 4 (aa (ac 1) (aa (ac 0) (aa (ac 2) (aa (ac 3) ah))))))) (ac 0)) [a_ (.tup t),a_ (ej js),a_ (akn s h p O),a_ (.int now),ck]=a_ (.ok (.lst ((gon nr js s h p now).map enc))) :=
  kH enc (fun n=>gB nr n s h p now) enc (src_of rfl) (by omega) fun n hn'=>⟨bM (call4 mL rfl rfl rfl rfl (Er (Jr.g n hn') a hn)),rfl⟩
 rw [am (aV (ρ':=[a_ (.tup t),a_ (ej js),a_ (akn s h p O),a_ (.int now),a_ (.lst ((gon nr js s h p now).map enc))]) e1 rfl)];exact dP ((dt (ai rfl aM)).trans (wQ (fun n hn=>Hj (Jr.g n (Jw.mp hn).1)) (by omega)))
theorem swept_w (Jr:Jar js) (h1:0≤now) (h2:now≤9999):jA [ej js,.int now]=a_ (.ok (ej (swp js now))):=by
 refine kn ?_;show iK [a_ (ej js),a_ (.int now)]=_;unfold iK;rw [am (dY cf rfl (Hh (jar_y Jr))),am (dY bd rfl (wC (mom_y h1 h2)))];exact dP (fm br rfl rfl (kL Jr.l))
theorem mem_snt {n:Note}:n∈snt (gon nr js s h p now)↔n∈js∧gB nr n s h p now=e_:=by
 rw [(snt_perm _).mem_iff];exact Jw
theorem sent_g (Jr:Jar js):∀ n∈snt (gon nr js s h p now),Good n:=fun n hn=>Jr.g n (mem_snt.mp hn).1
theorem sent_l (Jr:Jar js):(snt (gon nr js s h p now)).length≤18:=by
 have jl:=Jr.l;have hl:(gon nr js s h p now).length≤js.length:=Kk _ _;have:=(snt_perm (gon nr js s h p now)).length_eq;omega
end
end J
namespace J
open PySem PySem.Spec PyProof.Rows L2 FD TS
def mxE:FnE:=(fB1 Av (aa (f2 bP (bX [] (dr (ac 2)) ck (f2 ixD (ac 0) (fC (.int 9)))) (bK (aa (fC (.int 0)) ah))) ah))
theorem uR:∀ js:List Note,g7 (js.map (fun o=>Dv.int o.us) ++ [.int 0])=a_ (js.map Note.us ++ [0])
 | []=>rfl
 | o :: js=>by
  show (g7 (js.map (fun o=>Dv.int o.us) ++ [.int 0])).map (o.us :: ·)=_;rw [uR js];rfl
theorem Ai {js:List Note} (hl:js.length≤18) (g:∀ o∈js,0≤o.us∧o.us≤39) {ρ:Ev} (h:ρ[2]?=a_ (a_ (ej js))):∃ L:Int,mxE ρ=a_ (.ok (.int L))∧0≤L∧L≤39∧(∀ o∈js,o.us≤L)∧(0 < L→(js.any fun o=>u_ (o.us > L - 1))=e_):=by
 have e1:bX [] (dr (ac 2)) ck (f2 ixD (ac 0) (fC (.int 9))) ρ=a_ (.ok (.lst (js.map fun o=>Dv.int o.us))):=gR enc (fun o=>Dv.int o.us) (src_of h) (by omega) fun o ho=>rfl;have e2:f2 bP (bX [] (dr (ac 2)) ck (f2 ixD (ac 0) (fC (.int 9)))) (bK (aa (fC (.int 0)) ah)) ρ=a_ (.ok (.lst (js.map (fun o=>Dv.int o.us) ++ [.int 0]))):=by
  refine (bD e1 (nK (ai (x:=.int 0) rfl aM) (by show 1≤100000; decide))).trans ?_;show (if (js.map fun o=>Dv.int o.us).length + 1≤100000 then a_ (Rs.ok (Dv.lst (js.map (fun o=>Dv.int o.us) ++ [.int 0]))) else ck)=_;rw [if_pos (by simp; omega)]
 have e3:mxE ρ=Av [.lst (js.map (fun o=>Dv.int o.us) ++ [.int 0])]:=dt (ai e2 aM);have e4:∃ x xs,js.map Note.us ++ [0]=x :: xs:=by
  cases js with
  | nil=>exact ⟨0,[],rfl⟩
  | cons o r=>exact ⟨_,_,rfl⟩
 obtain ⟨x,xs,e4⟩:=e4;have e5:Av [.lst (js.map (fun o=>Dv.int o.us) ++ [.int 0])]=a_ (.ok (.int (mxL x xs))):=by
  show (match g7 (js.map (fun o=>Dv.int o.us) ++ [.int 0]) with | some (n :: ns)=>a_ (Rs.ok (Dv.int (mxL n ns))) | _=>ck)=_
  rw [uR,e4]
 obtain ⟨g1,g2,g3⟩:=tH xs x;have hall:∀ y∈js.map Note.us ++ [0],y≤mxL x xs:=by
  rw [e4];intro y hy;rcases w_.mp hy with rfl | hy
  · exact g1
  · exact g2 y hy
 have hin:mxL x xs∈js.map Note.us ++ [0]:=by
  rw [e4];rcases g3 with q | q
  · rw [q]; exact n_
  · exact o_ _ q
 refine ⟨mxL x xs,e3.trans e5,hall 0 (by simp),?_,fun o ho=>hall _ (A_ _ (List.mem_map_of_mem ho)),fun hp=>?_⟩
 · rcases Jn.mp hin with q | q
   · obtain ⟨o,ho,e⟩:=Jz.mp q;rw [← e]; exact (g o ho).2
   · rw [Jk.mp q]; omega
 · rw [K3];rcases Jn.mp hin with q | q
   · obtain ⟨o,ho,e⟩:=Jz.mp q;refine ⟨o,ho,?_⟩;rw [decide_eq_true_eq,e];omega
   · rw [Jk.mp q] at hp; omega
theorem Aj {js:List Note} (hg:∀ o∈js,Good o):neX (ej js) (.tup [])=bo (!js.isEmpty):=by
 cases js with
 | nil=>kernel_rfl
 | cons o rest =>
  have i2:=(Ha hg).okP (by omega);have i3:okP (.tup [])=e_:=by kernel_rfl
  show neX (.tup ((o :: rest).map enc)) (.tup [])=bo e_;unfold neX;rw [show eqS (.tup ((o :: rest).map enc)) (.tup [])=ck from rfl,show okP (.tup ((o :: rest).map enc))=e_ from i2,i3];simp [cX,toPys,JH,KO]
def eM:Option Int→SM.Mx
 | none=>ck
 | some i=>a_ (.inl i)
def nM (n:Note):List SM.Mx:=[a_ (.inr n.nm),a_ (.inr n.w),a_ (.inr n.house),a_ (.inl (SM.bi n.ex)),a_ (.inr n.path),eM n.ends,a_ (.inl (SM.bi n.S)),a_ (.inr n.R),a_ (.inl n.md),a_ (.inl n.us)]
theorem Al (n:Note):mC [.str n.nm,.str n.w,.str n.house,.bl n.ex,.str n.path,eO n.ends,.bl n.S,.str n.R,.int n.md,.int n.us]=a_ (nM n):=by
 unfold nM;cases n.ends <;> rfl
theorem keysM_enc:∀ js:List Note,kg (js.map enc)=a_ (js.map nM)
 | []=>rfl
 | n :: js=>by
  show (match mC [.str n.nm,.str n.w,.str n.house,.bl n.ex,.str n.path,eO n.ends,.bl n.S,.str n.R,.int n.md,.int n.us],kg (js.map enc) with | some k,a_ ks=>a_ (k :: ks) | _,_=>ck)=_
  rw [keysM_enc js,Al];rfl
theorem nM_nd {js:List Note} (h:(js.map key).Nodup):(js.map nM).Nodup:=by
 unfold List.Nodup at h ⊢;rw [MY] at h ⊢;refine h.imp fun {a b} hab e=>hab ?_;unfold nM at e;simp only [Mw,Li,Ri] at e;obtain ⟨e1,_,e2,_,e3,_⟩:=e;unfold key;rw [e1,e2,e3]
theorem in_n {n:Note} {l:List Note} (hn:Good n) (hl:∀ a∈l,Good a):eH (enc n) (.lst (l.map enc))=a_ (.ok (.bl (!u_ (n∈l))))∧eH (enc n) (ej l)=a_ (.ok (.bl (!u_ (n∈l)))):=by
 have e:(l.any fun a=>u_ (a=n))=u_ (n∈l):=by
  rw [JX,K3,decide_eq_true_eq];constructor
  · rintro ⟨a,ha,h⟩;have:a=n:=by simpa using h
    rw [← this]; exact ha
  · intro h;exact ⟨n,h,by simp⟩
 have:=GN (p:=fun a=>u_ (a=n)) ((nb hn).le (by omega)) rfl (fun a ha=>(nb (hl a ha)).le (by omega)) (fun a _=>zY a n);rw [e] at this;exact ⟨this.2.1,this.2.2.2⟩
section
variable {ns:List Int} {t:List Dv} {js ys zs:List Note} {now:Int} {h p:Str} {O A Gd:Dv} {nr s:Bool} {x3 x4 x5 x6 x7 x8 x9 x10 x11 x12:Option Dv}
def E13 (ns:List Int) (t:List Dv) (js:List Note) (x3 x4 x5 x6 x7 x8 x9 x10 x11 x12:Option Dv):Ev:=[a_ (.scr ns),a_ (.tup t),a_ (ej js),x3,x4,x5,x6,x7,x8,x9,x10,x11,x12]
theorem Jf:neX (.lst ([]:List Dv)) (.lst [])=a_ (.ok (.bl d_)):=by kernel_rfl
theorem none_out {cs:List (Str×Nat)} {src:FnA} {tst:FnB} {ρ:Ev} {l:List Note} {q:Note→Bool} (hs:src ρ=a_ (.ok (l.map enc))) (hl:l.length≤100) (h:∀ n∈l,tst ((vk cs ρ).set 0 (a_ (enc n)))=a_ (.ok (q n))) (hq:∀ n∈l,q n=d_) :
 fB (f2 neX (bX cs src (a_ tst) (ac 0)) (bK ah)) ρ=a_ (.ok d_):=by
 have e:bX cs src (a_ tst) (ac 0) ρ=a_ (.ok (.lst ((l.filter q).map enc))):=iN enc q enc hs (by omega) fun n hn=>⟨h n hn,rfl⟩;have e0:l.filter q=[]:=List.filter_eq_nil_iff.mpr fun n hn=>by rw [hq n hn]; decide
 rw [e0] at e;exact bM ((bD (x:=.lst ([]:List Dv)) (y:=.lst []) e (nK aM (by show 0≤100000; decide))).trans Jf)
theorem uS (hl:ns.length≤63) (k:Int) (h:js≠[]):∃ n∈js,∃ d:Int,ae [.scr ns,.int k,.int js.length]=a_ (.ok (.int d))∧ixD (ej js) (.int d)=a_ (.ok (enc n)):=by
 have h0:0 < js.length:=List.length_pos_iff.mpr h;obtain ⟨d,d0,d1,e⟩:=aR ns hl k js.length (by omega);obtain ⟨m,rfl⟩:∃ m:Nat,d=m:=⟨d.toNat,by omega⟩;exact ⟨js[m]'(by omega),Mh _,m,e,z4 (by omega)⟩
theorem ask_end (hl:ns.length≤63) (Jr:Jar js) (a:Ak h p O) {nm w:Str} {H P u l:Dv} {S:Bool} {R:Str} (g:Gv nm w H P u l S R):∃ h' nm' w' H' P' u' l' S' R' y6,Ak h' p O∧Gv nm' w' H' P' u' l' S' R' ∧
 aQ lC (au (ba 6 lD) (au (ba 4 oJ) (ba 5 oK))) (fun ρ=>a_ (.nx ρ)) (E13 ns t js (a_ (.int now)) (a_ (akn d_ h p O)) (a_ (gvn nm w H P u l S R)) ck ck ck ck ck ck ck) =
  a_ (.nx (E13 ns t js (a_ (.int now)) (a_ (akn d_ h' p O)) (a_ (gvn nm' w' H' P' u' l' S' R')) y6 ck ck ck ck ck ck)):=by
 have jl:=Jr.l;obtain ⟨d4,_,_,e4⟩:=aR ns hl 120 3 (by omega);have q1:fB (f2 neX (ac 2) (bS ah)) (E13 ns t js (a_ (.int now)) (a_ (akn d_ h p O)) (a_ (gvn nm w H P u l S R)) ck ck ck ck ck ck ck)=a_ (.ok (!js.isEmpty)):=bM ((bD (x:=ej js) (y:=.tup []) rfl (k9 aM (by show 0≤100000; decide))).trans (Aj Jr.g));have q2:fB (f2 gtD (ag ae 3 (aa (ac 0) (aa (fC (.int 120)) (aa (fC (.int 3)) ah)))) (fC (.int 0))) (E13 ns t js (a_ (.int now)) (a_ (akn d_ h p O)) (a_ (gvn nm w H P u l S R)) ck ck ck ck ck ck ck)=a_ (.ok (u_ (d4 > 0))):=bM ((bD (x:=.int d4) (y:=.int 0) (mX ae rfl rfl rfl e4) rfl).trans rfl);have qc:lC (E13 ns t js (a_ (.int now)) (a_ (akn d_ h p O)) (a_ (gvn nm w H P u l S R)) ck ck ck ck ck ck ck)=a_ (.ok (!js.isEmpty && u_ (d4 > 0))):=bAnd_o q1 q2;cases hk:(!js.isEmpty && u_ (d4 > 0)) with
 | false =>
  rw [hk] at qc;exact ⟨h,nm,w,H,P,u,l,S,R,ck,a,g,bC qc⟩
 | true =>
  rw [hk] at qc;rw [qE qc];have hne:js≠[]:=by
   intro z;rw [z] at hk;cases hk
  obtain ⟨n,hn,d1,e1,i1⟩:=uS hl 121 hne;have gn:=Jr.g n hn;have w5:lD (E13 ns t js (a_ (.int now)) (a_ (akn d_ h p O)) (a_ (gvn nm w H P u l S R)) ck ck ck ck ck ck ck)=a_ (.ok (enc n)) :=
   (bD (x:=ej js) (y:=.int d1) rfl (mX ae rfl rfl ((dt (ai (x:=ej js) rfl aM)).trans (by show a_ (Rs.ok (Dv.int ((js.map enc).length:Int)))=a_ (.ok (.int js.length)); rw [Jo])) e1)).trans i1
  refine ⟨n.house,n.nm,w,.non,.str n.path,u,l,d_,b_ "any",a_ (enc n),⟨gn.house,a.p,a.o⟩,⟨gn.nm,g.w,.inl rfl,.inr ⟨_,gn.path,rfl⟩,g.u,g.l,.inl rfl⟩,?_⟩;rw [am (aV (ρ':=E13 ns t js (a_ (.int now)) (a_ (akn d_ h p O)) (a_ (gvn nm w H P u l S R)) (a_ (enc n)) ck ck ck ck ck ck) w5 rfl),
   am (aV (ρ':=E13 ns t js (a_ (.int now)) (a_ (akn d_ n.house p O)) (a_ (gvn nm w H P u l S R)) (a_ (enc n)) ck ck ck ck ck ck) (d:=akn d_ n.house p O) rfl rfl)]
  exact aV (d:=gvn n.nm w .non (.str n.path) u l d_ (b_ "any")) rfl rfl
theorem now_ok (hl:ns.length≤63) (Jr:Jar js) (hu:∀ o∈js,o.us≤39):∃ now:Int,oF (E13 ns t js ck ck ck ck ck ck ck ck ck ck)=a_ (.ok (.int now))∧0≤now∧now≤47∧∀ o∈js,o.us≤now:=by
 obtain ⟨L,e,l0,l1,l2,_⟩:=Ai Jr.l (fun o ho=>⟨by have:=Jr.g o ho; have:=this.mk0; have:=(Jr.g o ho).mu; omega,hu o ho⟩) (ρ:=E13 ns t js ck ck ck ck ck ck ck ck ck ck) rfl;obtain ⟨d,d0,d1,e1⟩:=aR ns hl 90 9 (by omega);exact ⟨L + d,(bD (g:=bP) (x:=.int L) (y:=.int d) e (mX ae rfl rfl rfl e1)).trans rfl,by omega,by omega,fun o ho=>by have:=l2 o ho; omega⟩
def xT (now:Int):Note:=⟨b_ "n",b_ "",b_ "a.b",d_,b_ "/",ck,d_,b_ "any",0,now⟩
theorem Hk (h0:0≤now) (h1:now≤99):Good (xT now):=⟨by unfold xT nms; simp,by unfold xT wts; simp,by unfold xT En menu; simp,by unfold xT pths; simp,.inl rfl,(fun i hi=>nomatch hi),by show (0:Int)≤0; omega,by show (0:Int)≤now; omega,h1⟩
theorem Hl (h0:0≤now) (h1:now≤99):Jar [xT now] where
 g:=fun n hn=>by rw [Jk.mp hn]; exact Hk h0 h1
 s:=fun i h=>absurd h (by simp)
 k:=by simp
 l:=by simp
theorem Hm:aW [.str "n=1"]=a_ (.ok (gvn (b_ "n") (b_ "1") .non .non .non .non d_ (b_ "any"))):=by kernel_rfl
theorem late1 (ht:t∈jw rules) (a:Ak h p O) (h0:0 < now) (h1:now≤99):lI (E13 ns t js (a_ (.int now)) (a_ (akn d_ h p O)) x5 x6 x7 x8 x9 x10 x11 x12)=a_ (.exc 6):=by
 have J1:=Hl (now:=now) (by omega) h1;have hr:ay [.tup t,ej [xT now],akn d_ h p O,.str "n=1",.int (now - 1)]=a_ (.ok (gvn (b_ "n") (b_ "1") .non .non .non .non d_ (b_ "any"))):=rwy (gI ht) (jar_y J1) (wD a) Hm (mom_y (by omega) (by omega));have hx:=qQ J1.l hr (by
  show (u_ (now > now - 1) || false)=e_;rw [Bool.or_false,decide_eq_true_eq];omega)
 exact cE fU (ds:=[.tup t,ej [xT now],akn d_ h p O,.str "n=1",.int (now - 1)]) rfl rfl hx
end
end J
open PySem PySem.Spec PyProof.Rows L2 FD TS
open J in
theorem wR (ns:List Int) (hl:ns.length≤63):ul [.scr ns]=a_ (.ok (.bl e_)):=by
 obtain ⟨t,ht,eT⟩:=wz ns hl;obtain ⟨js,jn,eJ,Jr,hjl,JJ⟩:=J.jar_ok ns hl 10 5 (by omega);obtain ⟨s0,h0,p0,O0,m1,m2,m3,eA⟩:=wA ns hl 91;obtain ⟨now,eN,n0,n1,hu⟩:=J.now_ok (t:=t) hl Jr JJ.u;obtain ⟨nm,w,H,P,u,l,S,R,gv0,eG⟩:=wI ns hl 100 m1;obtain ⟨h,nm',w',H',P',u',l',S',R',y6,a,g,eI⟩:=J.ask_end (ns:=ns) (t:=t) (now:=now) hl Jr (h:=h0) (p:=p0) (O:=O0) ⟨me m1,m2,m3⟩ gv0;have gj:=Jr.g;have jl:=Jr.l;obtain ⟨qh,qp,qu,ql,gw,eqg⟩:=G6 g;obtain ⟨ys,et,gy,yl,b1,b2⟩:=J.take_ok ht a g Jr n0 (by omega) hu;obtain ⟨nr,_,hnr⟩:=J.near_w ht a.h a.o;obtain ⟨nr0,hnr0,hnr1⟩:=J.near_w (O:=.non) ht a.h (.inl rfl);cases hnr0 rfl;have W:=J.aw_of a;have Wn:J.AW h p0 .non:=⟨W.hn,W.pn,.inl rfl,W.un⟩;have Wp:=J.aw_py a;have n9:now≤9999:=by omega
 refine fY ?_;show uj [a_ (.scr ns),ck,ck,ck,ck,ck,ck,ck,ck,ck,ck,ck,ck]=_;unfold uj;have w0:oD [a_ (.scr ns),ck,ck,ck,ck,ck,ck,ck,ck,ck,ck,ck,ck]=a_ (.ok (.tup t)):=fm dv rfl rfl eT;have w1:oE [a_ (.scr ns),a_ (.tup t),ck,ck,ck,ck,ck,ck,ck,ck,ck,ck,ck]=a_ (.ok (J.ej js)):=mX gO rfl rfl rfl eJ;have w3:oG (J.E13 ns t js (a_ (.int now)) ck ck ck ck ck ck ck ck ck)=a_ (.ok (akn d_ h0 p0 O0)):=by
  have z:ag dJ 2 (aa (ac 0) (aa (fC (.int 91)) ah)) (J.E13 ns t js (a_ (.int now)) ck ck ck ck ck ck ck ck ck)=a_ (.ok (.tup [.bl s0,.str h0,.str p0,O0])):=fm dJ rfl rfl eA;have z2:eD (ag dJ 2 (aa (ac 0) (aa (fC (.int 91)) ah))) (cg (fC (.int 1))) dc (J.E13 ns t js (a_ (.int now)) ck ck ck ck ck ck ck ck ck)=a_ (.ok (.tup [.str h0,.str p0,O0])):=by
   unfold eD;rw [z];rfl
  exact (bD (g:=bP) (x:=.tup [.bl d_]) (k9 (ai (x:=.bl d_) rfl aM) (by show 1≤100000; decide)) z2).trans rfl
 have w4:oH (J.E13 ns t js (a_ (.int now)) (a_ (akn d_ h0 p0 O0)) ck ck ck ck ck ck ck ck)=a_ (.ok (gvn nm w H P u l S R)):=mX du rfl rfl rfl eG;rw [am (aV (ρ':=[a_ (.scr ns),a_ (.tup t),ck,ck,ck,ck,ck,ck,ck,ck,ck,ck,ck]) w0 rfl),am (aV (ρ':=J.E13 ns t js ck ck ck ck ck ck ck ck ck ck) w1 rfl),
  am (aV (ρ':=J.E13 ns t js (a_ (.int now)) ck ck ck ck ck ck ck ck ck) eN rfl),am (aV (ρ':=J.E13 ns t js (a_ (.int now)) (a_ (akn d_ h0 p0 O0)) ck ck ck ck ck ck ck ck) w3 rfl),
  am (aV (ρ':=J.E13 ns t js (a_ (.int now)) (a_ (akn d_ h0 p0 O0)) (a_ (gvn nm w H P u l S R)) ck ck ck ck ck ck ck) w4 rfl),am eI]
 generalize hA:akn d_ h p0 O0=A;generalize hG:gvn nm' w' H' P' u' l' S' R'=Gd;have late:(js.any fun o=>u_ (o.us > now))=d_:=by
  rw [Ql];intro o ho;have:=hu o ho;simp; omega
 have w8:oM (J.E13 ns t js (a_ (.int now)) (a_ A) (a_ Gd) y6 ck ck ck ck ck ck)=a_ (.ok (J.ej ys)):=by
  have zt:ag dZ 1 (aa (ac 5) ah) (J.E13 ns t js (a_ (.int now)) (a_ A) (a_ Gd) y6 ck ck ck ck ck ck)=a_ (.ok (.str (T nm' w' qh qp qu ql S' R'))):=jr dZ rfl (by rw [← hG,eqg]; exact zP (G7 gw));have hr:ay [.tup t,J.ej js,A,.str (T nm' w' qh qp qu ql S' R'),.int now]=a_ (.ok Gd):=by
   rw [← hA];exact J.rwy (gI ht) (J.jar_y Jr) (wD a) (by rw [← hG,eqg]; exact Eb gw) (J.mom_y n0 n9)
  refine J.call5 fU rfl rfl rfl zt rfl ?_;exact J.taken_of jl hr late (by rw [← hA,← hG]; exact et) yl
 have w9:oN (J.E13 ns t js (a_ (.int now)) (a_ A) (a_ Gd) y6 (a_ (J.ej ys)) ck ck ck ck ck)=a_ (.ok (J.ej (J.swp js now))):=fm jA rfl rfl (J.swept_w Jr n0 n9);rw [am (aV (ρ':=J.E13 ns t js (a_ (.int now)) (a_ A) (a_ Gd) y6 (a_ (J.ej ys)) ck ck ck ck ck) w8 rfl),am (aV (ρ':=J.E13 ns t js (a_ (.int now)) (a_ A) (a_ Gd) y6 (a_ (J.ej ys)) (a_ (J.ej (J.swp js now))) ck ck ck ck) w9 rfl)];have gs:∀ o∈J.swp js now,J.Good o:=fun o ho=>gj o (Jw.mp ho).1;have sl:(J.swp js now).length≤js.length:=Kk _ _;obtain ⟨ρ,hρ⟩:∃ ρ:Ev,ρ=J.E13 ns t js (a_ (.int now)) (a_ A) (a_ Gd) y6 (a_ (J.ej ys)) (a_ (J.ej (J.swp js now))) ck ck ck ck:=⟨_,rfl⟩;rw [← hρ];have c1:oO ρ=a_ (.ok d_):=J.none_out (q:=fun n=>n.S && !u_ (n∈ys)) (J.src_of (by rw [hρ]; rfl)) (by omega) (fun n hn=>J.bAnd_o (bM (k:=n.S) rfl) (bM ((bD (x:=J.enc n) (y:=J.ej ys) rfl (by rw [hρ]; rfl)).trans (J.in_n (gs n hn) gy).2))) (fun n hn=>by
  cases hS:n.S with
  | false=>rfl
  | true=>simp [b1 n hn hS])
 have c2:oP ρ=a_ (.ok d_):=J.none_out (q:=fun n=>n.S && !u_ (n∈J.swp js now)) (J.src_of (by rw [hρ]; rfl)) (by omega) (fun n hn=>J.bAnd_o (bM (k:=n.S) rfl) (bM ((bD (x:=J.enc n) (y:=J.ej (J.swp js now)) rfl (by rw [hρ]; rfl)).trans (J.in_n (gy n hn) gs).2))) (fun n hn=>by
  cases hS:n.S with
  | false=>rfl
  | true=>simp [b2 n hn hS])
 rw [am (bC c1),am (bC c2)];subst hρ;have r0:=J.sent_w (s:=d_) ht Jr W hnr n0 n9;have r1:=J.sent_w (s:=e_) ht Jr W hnr n0 n9;have r2:=J.sent_w (s:=d_) ht Jr Wn hnr1 n0 n9;have r3:=J.sent_w (s:=d_) ht Jr Wp hnr n0 n9;have gr:=J.sent_g (nr:=nr) (s:=d_) (h:=h) (p:=p0) (now:=now) Jr;have lr:=J.sent_l (nr:=nr) (s:=d_) (h:=h) (p:=p0) (now:=now) Jr;have hm:∀ n,n∈J.snt (J.gon nr js d_ h p0 now)→n∈js∧J.gB nr n d_ h p0 now=e_:=fun n hn=>J.mem_snt.mp hn;generalize hR0:J.snt (J.gon nr js d_ h p0 now)=R0 at r0 gr lr hm;have w10:lE (J.E13 ns t js (a_ (.int now)) (a_ A) (a_ Gd) y6 (a_ (J.ej ys)) (a_ (J.ej (J.swp js now))) ck ck ck ck)=a_ (.ok (.lst (R0.map J.enc))):=J.call4 eY rfl rfl rfl rfl (by rw [← hA]; exact r0);rw [am (aV (ρ':=J.E13 ns t js (a_ (.int now)) (a_ A) (a_ Gd) y6 (a_ (J.ej ys)) (a_ (J.ej (J.swp js now))) (a_ (.lst (R0.map J.enc))) ck ck ck) w10 rfl)];have ndk:(R0.map J.key).Nodup:=by
  rw [← hR0];have p1:=(J.snt_perm (J.gon nr js d_ h p0 now)).map J.key;refine p1.nodup_iff.mpr ?_;exact List.Nodup.sublist ((List.filter_sublist).map J.key) Jr.k
 have c3:oQ (J.E13 ns t js (a_ (.int now)) (a_ A) (a_ Gd) y6 (a_ (J.ej ys)) (a_ (J.ej (J.swp js now))) (a_ (.lst (R0.map J.enc))) ck ck ck)=a_ (.ok d_):=by
  refine (J.bOr_of (x:=d_) (y:=d_) ?_ ?_).trans rfl
  · refine J.none_out (q:=fun n=>n.S || !u_ (n∈js)) (J.lsrc_of rfl) (by omega) (fun n hn=>J.bOr_of (bM (k:=n.S) rfl) (bM ((bD (x:=J.enc n) (y:=J.ej js) rfl rfl).trans (J.in_n (gr n hn) gj).2))) (fun n hn=>?_);obtain ⟨k1,k2⟩:=hm n hn;have:n.S=d_:=by
     unfold J.gB at k2;simp only [on,KD,Bool.and_true,Lm] at k2;exact k2.1.2
    simp [this,k1]
  · have e1:ig [.lst (R0.map J.enc)]=a_ (.ok (.int (R0.length:Int))):=by
     show (match kg (R0.map J.enc) with | some ks=>if ks.Nodup∧ks.length≤18 then (a_ (.ok (.int (ks.length:Nat))):Option (Rs Dv)) else ck | none=>ck)=_
     rw [J.keysM_enc];dsimp only;rw [if_pos ⟨J.nM_nd ndk,by simpa using lr⟩,Jo]
    refine bM ((bD (x:=.int (R0.length:Int)) (y:=.int (R0.length:Int)) ((dt (ai (x:=.lst (R0.map J.enc)) rfl aM)).trans e1) ((dt (ai (x:=.lst (R0.map J.enc)) rfl aM)).trans (by show a_ (Rs.ok (Dv.int ((R0.map J.enc).length:Int)))=_; rw [Jo]))).trans ?_);show a_ (Rs.ok (Dv.bl (!((R0.length:Int) == (R0.length:Int)))))=_;simp
 rw [am (bC c3)];have g1:=J.sent_g (nr:=nr) (s:=e_) (h:=h) (p:=p0) (now:=now) Jr;have i1:∀ n∈R0,n∈J.snt (J.gon nr js e_ h p0 now):=fun n hn=>by
  obtain ⟨k1,k2⟩:=hm n hn;refine J.mem_snt.mpr ⟨k1,?_⟩;unfold J.gB at k2 ⊢;simp only [on] at k2 ⊢;exact ⟨⟨k2.1.1,by simp⟩,k2.2⟩
 have g2:=J.sent_g (nr:=e_) (s:=d_) (h:=h) (p:=p0) (now:=now) Jr;have i2:∀ n∈R0,n∈J.snt (J.gon e_ js d_ h p0 now):=fun n hn=>by
  obtain ⟨k1,k2⟩:=hm n hn;refine J.mem_snt.mpr ⟨k1,?_⟩;unfold J.gB at k2 ⊢;simp only [on] at k2 ⊢;exact ⟨k2.1,by simp⟩
 have g3:=J.sent_g (nr:=nr) (s:=d_) (h:=h) (p:=J.py p0) (now:=now) Jr;have i3:∀ n∈R0,n∈J.snt (J.gon nr js d_ h (J.py p0) now):=fun n hn=>by
  obtain ⟨k1,k2⟩:=hm n hn;refine J.mem_snt.mpr ⟨k1,?_⟩;unfold J.gB at k2 ⊢;simp only [on] at k2 ⊢;exact ⟨⟨⟨k2.1.1.1,(J.py_y a.p).2.2.2 n.path (gj n k1).path k2.1.1.2⟩,k2.1.2⟩,k2.2⟩
 generalize J.snt (J.gon nr js e_ h p0 now)=R1 at r1 g1 i1;generalize J.snt (J.gon e_ js d_ h p0 now)=R2 at r2 g2 i2;generalize J.snt (J.gon nr js d_ h (J.py p0) now)=R3 at r3 g3 i3;have w11:lF (J.E13 ns t js (a_ (.int now)) (a_ A) (a_ Gd) y6 (a_ (J.ej ys)) (a_ (J.ej (J.swp js now))) (a_ (.lst (R0.map J.enc))) ck ck ck)=a_ (.ok (.lst (R1.map J.enc))):=J.call4 eY rfl rfl (by rw [← hA]; rfl) rfl r1;have c4:oR (J.E13 ns t js (a_ (.int now)) (a_ A) (a_ Gd) y6 (a_ (J.ej ys)) (a_ (J.ej (J.swp js now))) (a_ (.lst (R0.map J.enc))) (a_ (.lst (R1.map J.enc))) ck ck)=a_ (.ok d_) :=
  J.none_out (q:=fun n=>!u_ (n∈R1)) (J.lsrc_of rfl) (by omega) (fun n hn=>bM ((bD (x:=J.enc n) (y:=.lst (R1.map J.enc)) rfl rfl).trans (J.in_n (gr n hn) g1).1)) (fun n hn=>by simp [i1 n hn])
 have w12:lG (J.E13 ns t js (a_ (.int now)) (a_ A) (a_ Gd) y6 (a_ (J.ej ys)) (a_ (J.ej (J.swp js now))) (a_ (.lst (R0.map J.enc))) (a_ (.lst (R1.map J.enc))) ck ck)=a_ (.ok (.lst (R2.map J.enc))):=J.call4 eY rfl rfl (by rw [← hA]; rfl) rfl r2;have c5:oU (J.E13 ns t js (a_ (.int now)) (a_ A) (a_ Gd) y6 (a_ (J.ej ys)) (a_ (J.ej (J.swp js now))) (a_ (.lst (R0.map J.enc))) (a_ (.lst (R1.map J.enc))) (a_ (.lst (R2.map J.enc))) ck)=a_ (.ok d_) :=
  J.none_out (q:=fun n=>!u_ (n∈R2)) (J.lsrc_of rfl) (by omega) (fun n hn=>bM ((bD (x:=J.enc n) (y:=.lst (R2.map J.enc)) rfl rfl).trans (J.in_n (gr n hn) g2).1)) (fun n hn=>by simp [i2 n hn])
 have ap:bP (.str p0) (.str "/y")=a_ (.ok (.str (J.py p0))):=by
  have:=(J.py_y a.p).2.1;show (if p0.length + (b_ "/y").length≤100000 then a_ (Rs.ok (Dv.str (p0 ++ b_ "/y"))) else ck)=_;rw [if_pos (by
   have e:(b_ "/y").length=2:=by kernel_rfl
   omega)]
  rfl
 have w13:lH (J.E13 ns t js (a_ (.int now)) (a_ A) (a_ Gd) y6 (a_ (J.ej ys)) (a_ (J.ej (J.swp js now))) (a_ (.lst (R0.map J.enc))) (a_ (.lst (R1.map J.enc))) (a_ (.lst (R2.map J.enc))) ck)=a_ (.ok (.lst (R3.map J.enc))):=by
  refine J.call4 eY rfl rfl ?_ rfl r3;rw [← hA];have z1:f2 bP (f2 ixD (ac 4) (fC (.int 2))) (fC (.str "/y")) (J.E13 ns t js (a_ (.int now)) (a_ (akn d_ h p0 O0)) (a_ Gd) y6 (a_ (J.ej ys)) (a_ (J.ej (J.swp js now))) (a_ (.lst (R0.map J.enc))) (a_ (.lst (R1.map J.enc))) (a_ (.lst (R2.map J.enc))) ck)=a_ (.ok (.str (J.py p0))):=(bD (g:=bP) (x:=.str p0) (y:=.str "/y") rfl rfl).trans ap;have z2:f2 bP (eD (ac 4) dc (cg (fC (.int 2)))) (bS (aa (f2 bP (f2 ixD (ac 4) (fC (.int 2))) (fC (.str "/y"))) ah)) (J.E13 ns t js (a_ (.int now)) (a_ (akn d_ h p0 O0)) (a_ Gd) y6 (a_ (J.ej ys)) (a_ (J.ej (J.swp js now))) (a_ (.lst (R0.map J.enc))) (a_ (.lst (R1.map J.enc))) (a_ (.lst (R2.map J.enc))) ck)=a_ (.ok (.tup [.bl d_,.str h,.str (J.py p0)])) :=
   (bD (g:=bP) (x:=.tup [.bl d_,.str h]) (y:=.tup [.str (J.py p0)]) rfl (k9 (ai z1 aM) (by show 1≤100000; decide))).trans rfl
  exact (bD (g:=bP) (x:=.tup [.bl d_,.str h,.str (J.py p0)]) (y:=.tup [O0]) z2 rfl).trans rfl
 have c6:oV (J.E13 ns t js (a_ (.int now)) (a_ A) (a_ Gd) y6 (a_ (J.ej ys)) (a_ (J.ej (J.swp js now))) (a_ (.lst (R0.map J.enc))) (a_ (.lst (R1.map J.enc))) (a_ (.lst (R2.map J.enc))) (a_ (.lst (R3.map J.enc))))=a_ (.ok d_) :=
  J.none_out (q:=fun n=>!u_ (n∈R3)) (J.lsrc_of rfl) (by omega) (fun n hn=>bM ((bD (x:=J.enc n) (y:=.lst (R3.map J.enc)) rfl rfl).trans (J.in_n (gr n hn) g3).1)) (fun n hn=>by simp [i3 n hn])
 rw [am (aV (ρ':=J.E13 ns t js (a_ (.int now)) (a_ A) (a_ Gd) y6 (a_ (J.ej ys)) (a_ (J.ej (J.swp js now))) (a_ (.lst (R0.map J.enc))) (a_ (.lst (R1.map J.enc))) ck ck) w11 rfl),am (bC c4),
  am (aV (ρ':=J.E13 ns t js (a_ (.int now)) (a_ A) (a_ Gd) y6 (a_ (J.ej ys)) (a_ (J.ej (J.swp js now))) (a_ (.lst (R0.map J.enc))) (a_ (.lst (R1.map J.enc))) (a_ (.lst (R2.map J.enc))) ck) w12 rfl),am (bC c5),
  am (aV (ρ':=J.E13 ns t js (a_ (.int now)) (a_ A) (a_ Gd) y6 (a_ (J.ej ys)) (a_ (J.ej (J.swp js now))) (a_ (.lst (R0.map J.enc))) (a_ (.lst (R1.map J.enc))) (a_ (.lst (R2.map J.enc))) (a_ (.lst (R3.map J.enc)))) w13 rfl),am (bC c6)]
 obtain ⟨ρ,hρ⟩:∃ ρ:Ev,ρ=J.E13 ns t js (a_ (.int now)) (a_ A) (a_ Gd) y6 (a_ (J.ej ys)) (a_ (J.ej (J.swp js now))) (a_ (.lst (R0.map J.enc))) (a_ (.lst (R1.map J.enc))) (a_ (.lst (R2.map J.enc))) (a_ (.lst (R3.map J.enc))):=⟨_,rfl⟩;rw [← hρ];have c7:oW ρ=a_ (.ok (now == 0)):=bM ((bD (x:=.int now) (y:=.int 0) (by rw [hρ]; rfl) rfl).trans rfl);cases hz:(now == 0) with
 | true =>
  rw [hz] at c7;exact jM (by rw [qE c7]; rfl)
 | false =>
  rw [hz] at c7;have hp:0 < now:=by
   have:now≠0:=by simpa using hz
   omega
  rw [am (bC c7)];refine jM ?_;have e:=J.late1 (ns:=ns) (js:=js) ht a hp (by omega) (x5:=a_ Gd) (x6:=y6) (x7:=a_ (J.ej ys)) (x8:=a_ (J.ej (J.swp js now))) (x9:=a_ (.lst (R0.map J.enc))) (x10:=a_ (.lst (R1.map J.enc))) (x11:=a_ (.lst (R2.map J.enc))) (x12:=a_ (.lst (R3.map J.enc)));rw [hA,← hρ] at e;unfold wg;rw [e];rfl
end G
namespace G
open PySem PySem.Spec PyProof.Rows L2 FD
theorem walk {l:OI} {q:rl} {loose:List Str} {XP:(Str→Option g_)→H_→Prop} {YP:C_→H_→Prop} {d:DefRec} {K:Nm→f_} {Pt:k_} (hn:l.most=a_ 63) (hdf:d.params.defaults=[])
 (hY:∀ (w:C_) (h:H_),YP w h→(K w.params).In h) (hYT:∀ (w:C_) (h:H_),YP w h→h.get? Pt=a_ { cls:=.none,data:=.fields #[] }∧OY h Pt∧(K w.params).lookup Pt=ck)
 (F:∀ (w:C_) (mg:Str→Option g_) (fa:k_) (h:H_),(K w.params).In h→h.Ns y_ mg→mg d.name=a_ (.ref fa) →
   ∃ fd:JZ,(∀ (s:h_) (u:g_),Oz s fd ⟨[u],[]⟩ [("_law_script",u)])∧∀ base:H_,(K w.params).In base→base.Ns y_ mg→FnOk l.prog w (K w.params) mg base CX0 12 fa fd ["_law_script"] (spT Pt qL (K w.params) ul 1)) :
 Rj q loose XP YP l.row.toRowW d [] (fun f vs=>Q5 f vs) :=
 wj (n:=63) (k:=12) (x:="_law_script") (CX:=fun _=>CX0) (sp:=fun w=>spT Pt qL (K w.params) ul 1) hn (by decide) hdf ⟨rfl,by decide,by decide,rfl⟩ hY hYT F
  (fun _ _ a ns hl hS hT=>⟨hT,[.scr ns],⟨.ref a,[],rfl,⟨a,rfl,hS⟩,rfl⟩,rfl,by rw [wR ns hl]; exact fun v H' _ r=>r⟩) fun _ _ _ _ _ z=>z
end G
open PySem PySem.W PyProof.Rows
set_option maxRecDepth 100000 in
theorem PySem.Challenge.cw_notejar_k54_whole_safe_ones_holds : PySem.Challenge.rw_notejar_k54_whole_safe_ones.Holds := by
 refine G.hld fun said=>?_;refine PySem.W.holds_open (q:=G.VQ) (loose:=G.VL) (Xt:=fun s=>recOk [] s) (XP:=fun _ _=>True) (Yf:=Hook.obs (Rn G.KK G.KA G.KA_ok)) (Ya:=Hook.val (Rn G.KK G.KA G.KA_ok)) (YP:=Hook.says (Rn G.KK G.KA G.KA_ok)) (N:=8038) G.left (Hook.of (Rn G.KK G.KA G.KA_ok)) (Hook.keeps (Rn G.KK G.KA G.KA_ok)) (fun _ _=>trivial) (fun _ _ _ _ _=>trivial) (by rfl) (by rfl) (by rfl) (fun s e=>recFacts_of e) (by rfl) (by first | assumption | decide +kernel) (by decide +kernel) G.hbr ?hw ?hc
 (case hw=>w_witness2)
 refine G.walk (l:=PySem.Challenge.rw_notejar_k54_whole_safe_ones) rfl rfl (K:=G.KL) (Pt:=486) (fun w h Y=>G.KL_in (O5 Y)) (fun w h Y=>⟨G.KT_in (O5 Y),FD.ctB_tab (f:=489) (G.KL_in (O5 Y)) (by kernel_rfl),by kernel_rfl⟩) ?F
 case F =>
  intro w mg fa h KX hG hmg;exact G.all_mk (C1:=37) (C2:=49) (C3:=61) (C4:=73) (C5:=85) (C6:=97) (CJ:=24) KX hG hmg (G.af 496) (G.af 503) (G.af 510) (G.af 522) (G.af 529) (G.af 536) (G.af 548) (G.af 515) (G.af 543) (G.af 161 "notejar.names" 328) (G.af 168 "notejar.names" 328) (G.af 175 "notejar.names" 328) (G.af 182 "notejar.names" 328) (G.af 189 "notejar.names" 328) (G.af 259 "notejar.asks" 459) (G.af 388 "notejar.notes" 606) (G.af 156 "notejar.names" 328) (G.af 395 "notejar.notes" 606) (G.af 217 "notejar.paths" 423) (G.af 402 "notejar.notes" 606) (G.af 104 "notejar.kinds" 303) (G.af 125 "notejar.names" 328) (G.af 130 "notejar.names" 328) (G.af 196 "notejar.paths" 423) (G.af 118 "notejar.kinds" 303) (G.af 245 "notejar.asks" 459) (G.af 252 "notejar.asks" 459) (G.af 381 "notejar.notes" 606) (G.af 417 "notejar.jars" 742) (G.af 412 "notejar.jars" 742) (G.af 111 "notejar.kinds" 303) (G.af 224 "notejar.asks" 459) (G.af 231 "notejar.asks" 459) (G.af 266 "notejar.giving" 519) (G.af 278 "notejar.giving" 519) (G.af 271 "notejar.giving" 519) (G.af 346 "notejar.notes" 606) (G.af 407 "notejar.jars" 742) (G.af 424 "notejar.jars" 742) (G.af 238 "notejar.asks" 459) (G.af 137 "notejar.names" 328) (G.af 142 "notejar.names" 328) (G.af 149 "notejar.names" 328) (G.af 484 "notejar.jars" 742) (G.af 489 "notejar.jars" 742) (G.af 443 "notejar.jars" 742) (G.af 438 "notejar.jars" 742) (G.af 431 "notejar.jars" 742) (G.af 299 "notejar.giving" 519) (G.af 306 "notejar.giving" 519) (G.af 311 "notejar.giving" 519) (G.af 455 "notejar.jars" 742) (G.af 367 "notejar.notes" 606) (G.af 353 "notejar.notes" 606) (G.af 318 "notejar.notes" 606) (G.af 325 "notejar.notes" 606) (G.af 285 "notejar.giving" 519) (G.af 292 "notejar.giving" 519) (G.af 203 "notejar.paths" 423) (G.af 210 "notejar.paths" 423) (G.af 360 "notejar.notes" 606) (G.af 332 "notejar.notes" 606) (G.af 339 "notejar.notes" 606) (G.af 374 "notejar.notes" 606) (G.af 448 "notejar.jars" 742) (G.af 467 "notejar.jars" 742) (G.af 460 "notejar.jars" 742) (G.af 477 "notejar.jars" 742) (G.af 472 "notejar.jars" 742) (G.af 553) (by kernel_rfl) (by kernel_rfl) (by kernel_rfl) (by kernel_rfl)
#print axioms PySem.Challenge.cw_notejar_k54_whole_safe_ones_holds
