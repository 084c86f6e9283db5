import PyProof.Rows.All
import Wide.All
import OpenK.AllK
import Wide.FinOn
import Lean
import PyProof.EqAt
import PyProof.EqKinds
import PyProof.TupleCall
import PySem.SetTable
import PyProof.SetKind
import PyProof.TupleKey
import PyProof.DictKinds
import PyProof.Rows.SetFrom
import PyProof.ZipIter
import KE.KIntText
import PyProof.EnumIter
import PyProof.Rows.SortStr
import PyProof.Rows.SortWalk
import PyProof.Rows.MinMaxN
import PyProof.ConsumeWalk
import PyProof.CollectWalk
import PyProof.WalksMore
import PyProof.CollectStr
import PyProof.Rows.SortShellK
import PyProof.Rows.SortRunsK
import PyProof.SeqI3
import KE.KSortKey
import PyProof.Rows.CallKwBuiltin
import PyProof.SumAny
import PyProof.StrLawsTight
import PyProof.Rows.StrDigits
import PySem.Challenge.RW_notejar_k51_taken
open Option renaming some → a_, none → ck, map_eq_some_iff → Lw, isSome_iff_exists → MP, bind_eq_some_iff → MZ, map_some → NG, all_some → PU, getD_some → Ry, getD_none → Rz
open PySem.Str renaming ofString → b_, length → OL, empty → Si
open Bool renaming true → c_, false → d_, and_eq_true → n_, false_ne_true → p_, false_eq_true → KZ, eq_iff_iff → Ln, and_eq_true_iff → Ly, not_true → NE, not_false → N5, not_not → OE, and_false → OW, not_eq_true' → Rl, or_eq_true → RT
open PySem.W renaming Frag → e_, kia_one → LQ, keepIn → LZ, hideAll_none → L8, emptyDict → Md, nsIn → Mw, instObj → MG, kitOne → MV, of_hideAll → M5, fnOf → M6, findIn → Nj, mg_of → NB, cellsFrom_some → NW, hideAll_get → Oy, codeIn → OJ, methodObj → O1, absHeap → Px, OpenLaw → PQ, lookIn → Qa, excIn → QD, codeRec_of → QH, callWith_K → QI, specialIn → Q3, plainOver → Q4, looks_findIn → Q5, kitx_list → Q6, kitx_dict → Q7, hasDictIn → Q8, plainGet → Ro, hideAll → RJ, through → RV, openEnds → R7, WalkO → Sd, kHook → Sh, isFn → Sl
open PySem renaming wpAny_bind → f_, Value → g_, Shared → h_, starEach → i_, Addr → k_, wpAny_pure → m_, Program → r_, wpAny → w_, model → z_, mainGlobals → C_, World → E_, Expr → F_, Around → G_, behindInMarks → K3, assignEach → K4, Heap → K5, foldedSetIterable → K_, compareOp → Lj, cellsFrom → Lq, backTo → Lr, wpAny_mono → LD, wpAny_holding → LH, bootBuiltins → LJ, FuncData → LK, wpAny_field → LM, wpAny_setState_of → LW, Stmt → LY, wpAny_callSpecial?_slot → L7, Scope → Me, swapsWith → Mg, binaryOp → Mi, wpAny_seqItems → Mq, wpAny_truthy_bool → Ms, wpAny_newObj_type → Mt, wpAny_Call_Name_kw → MB, setSearchFrom → MM, assign → MN, mem_of_lookup → MQ, Keyword → MR, wpAny_getItem_str_slice → MT, wpAny_call_entry → MU, NameKind → MX, wpAny_setField_rec → M1, closureFor → M3, call_meets → M4, attributeBase → Nf, holding → Nn, IsPair → Nv, wpAny_comprehension_free → NA, wpAny_passesOwn → NF, sliceBounds → NJ, sizeLine_eq → NK, keywordEach → NL, wpAny_pyIter_list → NT, codeAny_mono → NU, codeAny → NV, wpAny_setFlight_noneW → N6, typeIs_str → Oa, Builtin → Oi, codeAny_call_builtin → Ol, post_val_or_str → Op, letOwnedTupleGo → Oq, codeAny_builtin → Os, PassesOwn → OF, wpAny_pyIter_tuple → OH, wpAny_newFunctionEnv_cells → OI, GenState → OO, wpAny_loadPart_at → OZ, unsupported → O0, BindsTo → O3, wpAny_onRaise → O9, wpAny_attempt → O_, swapsWithSole → Pb, swappedStores → Pc, wpAny_forIn_list → Pf, noFill_tuple_add → Pg, backToKw → Ph, wpAny_typeOf → Pr, wpAny_rule → Ps, wpAny_call → Pt, setAddHashed → Pu, notedBy → Pv, getItem → Pw, IsPart → PC, wpAny_execs_nil → PN, importedModules → PP, IsZip → PR, wpAny_eqIsQuiet_tuple → PV, codeAny_call_function → PX, wpAny_updateSeq_pair → P7, pyNext → P8, newFunctionEnv → P9, lookup_relabel_local → P_, Params → Qb, treeTable → Qo, callerA → Qp, wpAny_standAt → Qz, seq_tuple_add → QC, Model → QF, builtinsNs → QG, Result → QL, list_append → QY, concat_meets → QZ, compEnvC → Q0, Within → Q1, noteFrame → Rn, Thread → Rr, subscripted → RF, strIterType → RG, seqIndex_of → RH, standAt → RU, rawInt → RW, isSame → RX, intText? → RY, field → RZ, call → R0, boot_len → R1, bindL → R3, bindC → R4, ZipApart → R5
open PySem.Heap renaming get?_push_of_some → j_, lt_size → t_, get?_push_size → B_, size_push → Lv, SameBut → Nq, get?_update_other → NY, get?_update_self → N7
open List renaming mem_append_right → l_, mem_cons_self → o_, mem_cons_of_mem → pi, mem_cons → rl, range → s_, replicate → u_, size_toArray → xy, mem_append_left → y_, not_mem_nil → I_, getElem?_set_ne → J_, set_cons_zero → KW, set_cons_succ → KY, getElem?_set_self → K1, getElem?_eq_some_iff → K2, mem_range → K6, mem_append → K8, length_map → La, getElem?_eq_getElem → Lb, mem_singleton → Le, map_cons → Lg, all_eq_true → Lk, mem_filter → Lm, mem_map → Lp, lookup_cons → Ls, length_set → Lu, getElem?_map → Lx, length_append → LG, mem_of_getElem? → LN, getElem?_append_right → LO, length_cons → LR, getElem?_append_left → LS, replicate_succ → LV, getElem?_eq_none → Mj, mem_filterMap → Mm, all_cons → My, any_eq_true → Mz, length_replicate → MD, length_filter_le → ME, flatten_cons → ML, filterMap_cons → MS, getElem?_replicate → M0, lookup_append → M_, nodup_cons → Nb, foldl_cons → Nc, append_nil → Nd, length_drop → Nr, getElem_mem → Nt, toList_toArray → Ny, getElem_of_mem → Nz, length_eq_zero_iff → NO, getElem?_cons_succ → NP, filter_cons_of_pos → NQ, filter_cons_of_neg → NR, take_append_drop → N9, zipIdx_cons → Oe, length_take → Of, drop_length → Og, countP_cons → Oh, any_cons → Oj, length → Oo, of_mem_zip → Ov, map_append → Ow, getElem?_drop → OU, filterMap_map → OV, pairwise_iff_getElem → OY, length_range → O4, ext_getElem? → O5, append_assoc → O6, getElem?_take_of_lt → Pd, getElem?_cons_zero → Pq, take_of_length_le → PH, range_succ_eq_map → PJ, foldl → PK, length_singleton → P6, pairwise_append → Qh, mem_of_mem_drop → Qi, mem_iff_getElem → Qj, forIn_nil → Qk, drop_zero → Ql, getElem?_range → Qy, zip_cons_cons → QS, find?_eq_none → QT, take_sublist → Rh, map_map → Ri, any_eq_false → Rj, getElem_inj → RC, filter_cons → RD, zipIdx_nil → RL, range_succ → RM, nil_append → RN, forIn_cons → RO, find?_some → RP, all_append → RQ
open Decidable renaming decide → q_
open Nat renaming le_refl → uk, lt_of_lt_of_le → H_, le_trans → K0, ne_of_lt → K7, le_add_right → L9, lt_irrefl → Mc, le_of_lt_succ → Mf, zero_le → Mh, not_lt_zero → Mu, succ_pos → M9, eq_of_beq_eq_true → Ni, mod_lt → NI, ne_of_gt → N0, ne_of_beq_eq_false → N1, le_of_lt → N2, le_of_eq → N3, le_of_ble_eq_true → N8, zero_add → OD, min_le_right → Po, add_sub_cancel_left → Pp, lt_trans → PF, le_succ → Qg, beq → Qs, add_left_cancel → Qx, lt_of_le_of_lt → QR, succ_add → Rc, mul_comm → Re, lt_trichotomy → Rf, lt_succ_of_lt → Rg, lt_succ_self → RA, le_of_not_lt → RB
open PySem.Value renaming type → v_, ref → x_, none → K9, bool → Lo, builtin → L_, str → No, isStrOf_shape → Qu, isStrOf → QE, int → Rp
open PySem.Txt renaming startswith → A_, stripChars → Mr, partition → Mx, split → MH, join → Nk, endswith → Np, slice_le → Py, rfind → Qq, slice → Rq
open PySem.SetTable renaming insertAt → D_, leap → Ng, runEnd → Ob, turns → Om, grown → OM, insertAt_perm → Pz, sameMemory → Qv, tooFull → Rt, gaveWay → Ru, advance → Rv, probe → R8, layClean → R9, slot → Sf, fill → Sg
open Option.some renaming inj → Lc, injEq → Rb
open PySem.Builtin.Str renaming occurrences → Ld, strKind → Mv, glued → Q_
open Array renaming length_toList → Lf, mem_toList_iff → Lz, getD_eq_getD_getElem? → LA, getElem?_eq_some_iff → LP, getElem?_eq_getElem → LU, getElem?_toList → Ml, replicate → MK, mem_of_getElem? → N_, getElem?_setIfInBounds → Ox, append_assoc → OX, toList_push → O7, size_append → O8, size_setIfInBounds → Pe, toList_filterMap → PM, getElem?_map → QU, forIn_toList → QV, foldl_toList → QW, getElem_mem → Rm, mem_filter → RE, size_map → Sb
open PySem.PyData renaming canLay0 → Lh, eqv → Ll, canLayAll0 → LX, eqvAll → Mn, depthAll → MI, depth → NX
open False renaming elim → Li
open PyProof.Rows renaming slot_tuple_getitem → LC, callWith_type1 → LL, boot_isinstance → Na, envOfC → NH, callWith_builtin1 → Oc, AllBare → OC, subscriptTail_builtinR → PD, boot_max → PZ, IntsAre → Qr, SortKind → Ra, pendingOf → Rx, IsTup → Sa, Keyed → Sj
open PySem.Builtin.SmallTypes renaming nextOf → LF, ownedTupleIsFree → L4, ownedTupleHandOut → Nx
open PySem.ClassData renaming mk → L5
open Int renaming emod_lt_of_pos → L6, emod_nonneg → MJ, toNat_natCast → Rk
open PySem.SetTable.layClean renaming free → Ma
open PySem.NameKind renaming free → Mb, cell → Mp
open PySem.F renaming slot_tuple_iterator_next → MC, called_set → M7, excBase_ValueError → Nm, args_tuple_add_2 → NC, plainAttrs_list → NM, entry_tuple_add → NN, slot_str_split → NS, slot_tuple_add → NZ, slot_list_append → On, slot_zip_next → Ot, args_tuple_iterator_next_1 → Ou, entry_tuple_iterator_next → OB, args_str_split_2 → OP, entry_str_split → O2, slot_str_partition → Pj, slot_list_index → Pk, slot_list_count → Pl, args_list_append_2 → Qc, entry_list_append → Qw
open PySem.Builtin.Slice renaming slicePlaces → MF, sliceAdjust → Nu, sliceApplied → OT
open PySem.Builtin.Tuple renaming tupleExact → MO, tupleItemsOf → OS
open PySem.Obj renaming mk → MW, putSet → ON, mapSeq → PB, data_mapFields → QN
open PyProof.Rows.F renaming plain_set_update_loop → MY, entry_set_update_loop → Pn
open Ne renaming symm → M8
open PySem.Data renaming dict → Nh, cls → OQ, fields → RI
open PySem.SetTable.probe renaming go → Nl
open PySem.Heap.SameBut renaming update → Nw
open PySem.Builtin.List renaming listTooLong → ND
open List.Pairwise renaming nil → N4
open PySem.W.Fast renaming tw11892475500146522536 → Oz, tw10156331382660048174 → OA, tw6613529449190102663 → OK
open True renaming intro → OG
open PySem.Calls renaming Name_function_global → OR, evalArgs_plain → Qd, spliced_cons → QP, spliced_nil → Q9
open PySem.SetTable.below renaming go → Pi
open PySem.Builtin.ObjectAttr renaming find → Pm, dataDescriptor? → QQ, bindTo → Sc
open PySem.StrLaws renaming glued_eq_join → PY
open PySem.Around renaming under_plainId → Qe, frames_deeper → Qf
open Sum renaming inr → Qm, inl → Qn
open LawfulBEq renaming eq_of_beq → Qt
open PySem.SeqAt.EqAt renaming str_int → QJ, int_str → QK
open PySem.P renaming str_of_int → QM
open PySem.Code renaming quiet_builtin → QO
open ToString renaming toString → QX
open PySem.IsL renaming update → Rw
open PySem.Builtin.Frozenset renaming updateFrom → RK
open ForInStep renaming yield → RS
open PySem.Walks renaming list → R6
open PySem.SetFound renaming there → R_
open PySem.Shared renaming TypeIs → Se
open PyProof.Rows.IsTup renaming new → Sk
set_option maxHeartbeats 4000000
set_option Elab.async false
namespace TR
open PySem PySem.W
def jp (tb:String→Option Oi) (p:r_) (w:E_) (n₀:Nat) (ann:Option g_):Nat→SharedT→Rr→Option SharedT
 | 0,_,_=>ck
 | n + 1,s,t=>match RV t with
  | true=>a_ s
  | false=>match stepOk n₀ ann t with
   | false=>ck
   | true=>match stepT (denote tb) p w s t with
    | some (s',t')=>jp tb p w n₀ ann n s' t'
    | none=>ck
def ka:List Obj→BT→Nat→Option (BT×Nat)
 | [],t,n=>a_ (t,n)
 | o :: os,t,n=>match ((t.ins n o).get n).isSome with
  | true=>ka os (t.ins n o) (n + 1)
  | false=>ck
def wl (tb:String→Option Oi) (p:r_) (w:E_) (N:Nat):Option h_:=(fencedOpening tb p w N).bind fun s₀=>match s₀.heap.isNs C_ && s₀.gens.size == 0 with
 | true=>(ka s₀.heap.objs.toList .nil 0).bind fun x=>(jp tb p w s₀.heap.objs.size (s₀.heap.nsMap C_ "__annotations__") N ⟨x.1,x.2,s₀.heap.life,s₀.gens,s₀.drawn,s₀.toks,s₀.os⟩ (topStub p)).bind fun sT=>match staticsOk (PP p.main.body) s₀.heap sT.abs.heap && namesBound p sT.abs.heap && gensDone sT.abs && laidKept s₀.heap sT.abs.heap with
  | true=>a_ sT.abs
  | false=>ck
 | false=>ck
section
variable {tb:String→Option Oi} {p:r_} {w:E_} {n₀:Nat} {ann:Option g_}
theorem jN:∀ (n:Nat) (s:SharedT) (t:Rr) (s':SharedT),jp tb p w n₀ ann n s t=a_ s'→topRun tb p w n₀ ann n s.abs t=a_ s'.abs
 | 0,_,_,_,h=>by cases h
 | n + 1,s,t,s',h=>by
  unfold jp at h;unfold topRun;cases ht:RV t with
  | true=>rw [ht] at h; cases h; rfl
  | false =>
   rw [ht] at h;cases hk:stepOk n₀ ann t with
   | false=>rw [hk] at h; cases h
   | true =>
    rw [hk] at h;cases hs:stepT (denote tb) p w s t with
    | none=>rw [hs] at h; cases h
    | some x =>
     obtain ⟨s1,t1⟩:=x;rw [hs] at h;dsimp only at h ⊢;rw [stepT_spec hs];exact jN n s1 t1 s' h
theorem kc {life:Life}:∀ (os:List Obj) (t:BT) (n:Nat) (t':BT) (n':Nat),ka os t n=a_ (t',n')→(Px t' n' life).objs=(Px t n life).objs ++ os.toArray
 | [],t,n,t',n',h=>by cases h; simp
 | o :: os,t,n,t',n',h=>by
  unfold ka at h;cases e:((t.ins n o).get n).isSome with
  | false=>rw [e] at h; cases h
  | true =>
   rw [e] at h;rw [kc os _ _ _ _ h,absHeap_ins e];show (Px t n life).objs.push o ++ os.toArray=_;simp
theorem rB {N:Nat} {s:h_} (h:wl tb p w N=a_ s):R7 tb p w N=a_ s:=by
 unfold wl at h;unfold R7;obtain ⟨s₀,h0,h1⟩:=MZ.mp h;rw [h0];show topFrom tb p w N s₀=a_ s;unfold topFrom;cases hc:(s₀.heap.isNs C_ && s₀.gens.size == 0) with
 | false=>rw [hc] at h1; cases h1
 | true =>
  rw [hc] at h1;dsimp only at h1 ⊢;obtain ⟨⟨t',n'⟩,h2,h3⟩:=MZ.mp h1;obtain ⟨sT,h4,h5⟩:=MZ.mp h3;have e:=kc (life:=s₀.heap.life) _ _ _ _ _ h2;have e2:Px t' n' s₀.heap.life=s₀.heap:=by
   have e3:(Px t' n' s₀.heap.life).objs=s₀.heap.objs:=by
    rw [e];show (Px BT.nil 0 s₀.heap.life).objs ++ s₀.heap.objs.toList.toArray=_;simp [Px,BT.list]
   obtain ⟨⟨objs,life⟩,g,d,k,os⟩:=s₀;show Heap.mk _ _=Heap.mk _ _;exact congrArg (Heap.mk · life) e3
  have r:=jN _ _ _ _ h4;have ea:(SharedT.abs ⟨t',n',s₀.heap.life,s₀.gens,s₀.drawn,s₀.toks,s₀.os⟩)=s₀:=by
   show Shared.mk (Px t' n' s₀.heap.life) _ _ _ _=s₀;rw [e2]
  rw [ea] at r;rw [r];exact h5
theorem sI {α:Type} {N:Nat} {f:h_→α} {a:α} (h:(wl tb p w N).map f=a_ a):(R7 tb p w N).map f=a_ a:=by
 obtain ⟨s,h1,h2⟩:=Lw.mp h;rw [rB h1];exact congrArg a_ h2
end
noncomputable def GC (tb:String→Option Oi) (p:r_) (w:E_) (n₀:Nat) (ann:Option g_) (n:Nat):SharedT→Rr→Option SharedT :=
 @Nat.rec (fun _=>SharedT→Rr→Option SharedT) (fun _ _=>ck) (fun _ ih s t=>@Bool.rec (fun _=>Option SharedT) (@Bool.rec (fun _=>Option SharedT) ck (@Option.rec (SharedT×Rr) (fun _=>Option SharedT) ck (fun x=>ih x.1 x.2) (OA (Oz tb) p w s t)) (OK n₀ ann t)) (a_ s) (RV t)) n
theorem sJ {tb:String→Option Oi} {p:r_} {w:E_} {n₀:Nat} {ann:Option g_}:∀ (n:Nat) (s:SharedT) (t:Rr),GC tb p w n₀ ann n s t=jp tb p w n₀ ann n s t
 | 0,_,_=>rfl
 | n + 1,s,t=>by
  show @Bool.rec (fun _=>Option SharedT) (@Bool.rec (fun _=>Option SharedT) ck (@Option.rec (SharedT×Rr) (fun _=>Option SharedT) ck (fun x=>GC tb p w n₀ ann n x.1 x.2) (OA (Oz tb) p w s t)) (OK n₀ ann t)) (a_ s) (RV t)=_;unfold jp;rw [← Fast.te10156331382660048174,← Fast.te11892475500146522536,← Fast.te6613529449190102663];cases RV t with
  | true=>rfl
  | false =>
   cases stepOk n₀ ann t with
   | false=>rfl
   | true =>
    cases stepT (denote tb) p w s t with
    | none=>rfl
    | some x=>exact sJ n x.1 x.2
noncomputable def openQ (tb:String→Option Oi) (p:r_) (w:E_) (N:Nat):Option h_:=(fencedOpening tb p w N).bind fun s₀=>match s₀.heap.isNs C_ && s₀.gens.size == 0 with
 | true=>(ka s₀.heap.objs.toList .nil 0).bind fun x=>(GC tb p w s₀.heap.objs.size (s₀.heap.nsMap C_ "__annotations__") N ⟨x.1,x.2,s₀.heap.life,s₀.gens,s₀.drawn,s₀.toks,s₀.os⟩ (topStub p)).bind fun sT=>match staticsOk (PP p.main.body) s₀.heap sT.abs.heap && namesBound p sT.abs.heap && gensDone sT.abs && laidKept s₀.heap sT.abs.heap with
  | true=>a_ sT.abs
  | false=>ck
 | false=>ck
theorem openQ_map {tb:String→Option Oi} {p:r_} {w:E_} {α:Type} {N:Nat} {f:h_→α} {a:α} (h:(openQ tb p w N).map f=a_ a):(R7 tb p w N).map f=a_ a:=by
 refine sI ?_;unfold openQ at h;unfold wl;simp only [sJ] at h;exact h
end TR
namespace G
open PySem PySem.W PyProof.Rows
noncomputable def hT (i:Nat):LY:=PySem.Challenge.pw_notejar_k51_taken.main.body.getD i (.Pass ⟨0,0,0,0⟩)
noncomputable def hA (s:LY):Arguments:=match s with
 | .FunctionDef _ a _ _ _ _ _ _ _ _=>a
 | _=>{ posonlyargs:=[],args:=[],vararg:=ck,kwonlyargs:=[],kw_defaults:=[],kwarg:=ck,defaults:=[] }
noncomputable def hB (s:LY):List LY:=match s with
 | .FunctionDef _ _ b _ _ _ _ _ _ _=>b
 | _=>[]
noncomputable def hS (s:LY):Me:=match s with
 | .FunctionDef _ _ _ _ _ _ sc _ _ _=>sc
 | _=>{ kind:=.function,names:=[],isGenerator:=d_,isCoroutine:=d_ }
noncomputable abbrev kS (s:String) (t:Nat):g_:=.str (b_ s) t
noncomputable abbrev kR (a:Nat):g_:=.ref a
noncomputable abbrev kI (i:Int) (t:Nat):g_:=.int i t
noncomputable abbrev kE (P:Qb) (s:String) (t:Nat) (v:g_):DictEntry:=⟨PySem.PyData.keyHash P (b_ s),.str (b_ s) t,v⟩
noncomputable def kF (x:String) (i:Nat) (m:String) (t c:Nat):Obj:=MW (v_ "function") ck (Data.func (fnOf (b_ x) (b_ x) (hA (hT i)) (hB (hT i)) (hS (hT i)) .none K9 K9 (kS m t) ck (kR c) K9)) #[]
noncomputable def kF' (x:String) (i c:Nat):=kF x i "law_notejar_k51_taken" 839 c
noncomputable def kC (x:String) (a b c:Nat) (d e f:Int) (g:Nat) (h:Int) (i j:Nat) (k l:Int) (m:Nat):Obj:=MW (v_ "code") ck (RI #[kS x a,kS x b,kS "/claim/cut.py" c,kI d 0,kI e 0,kI 0 0,kI 0 0,kI f 0,kR g,Lo c_,kI h 0,kR i,K9,K9,K9,kR j,kI k 0,kI l 0,kS "/claim/cut.py" m]) #[]
noncomputable def kD (x:String) (a b c:Nat) (d e f:Int) (g:Nat) (h:Int) (i u v j:Nat) (k l:Int) (m:Nat):Obj:=MW (v_ "code") ck (RI #[kS x a,kS x b,kS "/claim/cut.py" c,kI d 0,kI e 0,kI 0 0,kI 0 0,kI f 0,kR g,Lo c_,kI h 0,kR i,K9,kR u,kR v,kR j,kI k 0,kI l 0,kS "/claim/cut.py" m]) #[]
noncomputable def KKa (P:Qb):Frag:=[(2,MW K9 ck (Nh #[]) #[]),
 (3,MW (v_ "dict") ck (Nh #[kE P "__name__" 165 (kS "law_notejar_k51_taken" 839),kE P "__doc__" 166 K9,kE P "__package__" 167 K9,kE P "__loader__" 168 (L_ "__main__.__loader__#opaque"),kE P "__spec__" 169 K9,kE P "__annotations__" 170 (kR 6),kE P "__builtins__" 171 (kR 4),kE P "__file__" 173 (kS "/claim/cut.py" 172),kE P "__cached__" 174 K9,kE P "JarError" 206 (kR 24),kE P "NoName" 222 (kR 37),kE P "NoTable" 238 (kR 49),kE P "NoPath" 254 (kR 61),kE P "NoAsk" 270 (kR 73),kE P "NoNote" 286 (kR 85),kE P "NoJar" 302 (kR 97),kE P "NoNumber" 318 (kR 109),kE P "is_text_of" 326 (kR 116),kE P "is_whole_number" 335 (kR 123),kE P "is_tuple_of" 343 (kR 130),kE P "FIGURES" 347 (kS "0123456789" 346),kE P "LABEL_SIGNS" 349 (kS "abcdefghijklmnopqrstuvwxyz0123456789-" 348),kE P "LONGEST_LABEL" 351 (kI 8 350),kE P "MOST_LABELS" 353 (kI 5 352),kE P "MOST_RULES" 355 (kI 8 354),kE P "is_label" 362 (kR 137),kE P "is_name" 368 (kR 142),kE P "is_rule" 375 (kR 149),kE P "is_table" 381 (kR 154),kE P "need_table" 388 (kR 161),kE P "lies_within" 396 (kR 168),kE P "ends_longest_first" 402 (kR 173),kE P "behind_first_dot" 409 (kR 180),kE P "is_told_open" 417 (kR 187),kE P "find_open_end" 427 (kR 194),kE P "find_own_end" 438 (kR 201),kE P "PATH_SIGNS" 442 (kS "abcdefghijklmnopqrstuvwxyz0123456789-_./" 441),kE P "LONGEST_PATH" 444 (kI 20 443),kE P "is_path" 451 (kR 208),kE P "need_path" 458 (kR 215),kE P "folder" 466 (kR 222),kE P "lies_under" 474 (kR 229),kE P "LAST_MOMENT" 478 (kI 9999 477),kE P "ASK_SAFE" 480 (kI 0 479),kE P "ASK_HOUSE" 482 (kI 1 481),kE P "ASK_PATH" 484 (kI 2 483),kE P "ASK_ORIGIN" 486 (kI 3 485),kE P "ASK_PARTS" 488 (kI 4 487),kE P "is_moment" 495 (kR 236),kE P "is_moment_or_none" 502 (kR 243),kE P "need_moment" 509 (kR 250),kE P "is_ask" 516 (kR 257),kE P "need_ask" 523 (kR 264),kE P "comes_from_near" 534 (kR 271),kE P "NOTE_NAME_SIGNS" 538 (kS "abcdefghijklmnopqrstuvwxyzABCDEFGHIJKLMNOPQRSTUVWXYZ0123456789-_" 537),kE P "LONGEST_NOTE_NAME" 540 (kI 10 539),kE P "NO_WORTH_SIGNS" 542 (kS ";,=" 541),kE P "LONGEST_WORTH" 544 (kI 12 543),kE P "MOST_FIGURES" 546 (kI 4 545),kE P "GIVEN_NAME" 548 (kI 0 547),kE P "GIVEN_WORTH" 550 (kI 1 549),kE P "GIVEN_HOUSE" 552 (kI 2 551),kE P "GIVEN_PATH" 554 (kI 3 553),kE P "GIVEN_UNTIL" 556 (kI 4 555),kE P "GIVEN_LASTS" 558 (kI 5 557),kE P "GIVEN_SAFE" 560 (kI 6 559),kE P "GIVEN_REACH" 562 (kI 7 561),kE P "GIVEN_PARTS" 564 (kI 8 563),kE P "is_note_name" 571 (kR 278),kE P "is_worth" 577 (kR 283),kE P "is_reach" 584 (kR 290),kE P "is_given" 591 (kR 297),kE P "need_given" 598 (kR 304),kE P "is_written_moment" 605 (kR 311),kE P "what_is_told" 615 (kR 318),kE P "read_given" 621 (kR 323),kE P "NOTE_NAME" 625 (kI 0 624),kE P "NOTE_WORTH" 627 (kI 1 626),kE P "NOTE_HOUSE" 629 (kI 2 628),kE P "NOTE_EXACT" 631 (kI 3 630),kE P "NOTE_PATH" 633 (kI 4 632),kE P "NOTE_ENDS" 635 (kI 5 634),kE P "NOTE_SAFE" 637 (kI 6 636),kE P "NOTE_REACH" 639 (kI 7 638),kE P "NOTE_MADE" 641 (kI 8 640),kE P "NOTE_USED" 643 (kI 9 642),kE P "NOTE_PARTS" 645 (kI 10 644),kE P "is_open" 653 (kR 330),kE P "is_exact" 663 (kR 337),kE P "keeps_its_mark" 673 (kR 344),kE P "why_refused" 683 (kR 351),kE P "is_note" 690 (kR 358),kE P "house_for" 698 (kR 365),kE P "path_for" 706 (kR 372),kE P "end_for" 714 (kR 379),kE P "made" 724 (kR 386),kE P "key" 731 (kR 393),kE P "has_ended" 739 (kR 400),kE P "MOST_NOTES" 743 (kI 20 742),kE P "is_jar" 749 (kR 405),kE P "is_by_made" 755 (kR 410),kE P "has_no_key_twice" 761 (kR 415),kE P "need_jar" 768 (kR 422),kE P "need_no_more_than_a_jar_has" 775 (kR 429),kE P "without_ended" 781 (kR 434),kE P "put" 787 (kR 439),kE P "read_what_is_given" 799 (kR 446),kE P "verdict" 811 (kR 453),kE P "word_of" 817 (kR 458),kE P "shadows" 826 (kR 465),kE P "taken" 832 (kR 470),kE P "take_in" 838 (kR 475),kE P "_law_cell" 848 (kR 482),kE P "_law_drawn" 858 (kR 489),kE P "_law_name" 867 (kR 496),kE P "_law_table" 873 (kR 501),kE P "_law_path" 882 (kR 508),kE P "_law_ask" 891 (kR 515),kE P "_law_ends" 897 (kR 520),kE P "_law_open" 903 (kR 525),kE P "_law_own" 909 (kR 530),kE P "_law_within" 917 (kR 537),kE P "_law_under" 925 (kR 544),kE P "_law_near" 933 (kR 551),kE P "_law_given" 950 (kR 558),kE P "_law_text" 968 (kR 565),kE P "_law_why" 986 (kR 572),kE P "_law_made" 1008 (kR 579),kE P "_law_goes" 1018 (kR 586),kE P "_law_jar" 1024 (kR 591),kE P "_law_verdict" 1040 (kR 598),kE P "_law_taken" 1046 (kR 603),kE P "_law_refused" 1054 (kR 610),kE P "_law_told" 1067 (kR 617),kE P "_law_like" 1080 (kR 624),kE P "_law_near_ones" 1092 (kR 631),kE P "_law_refuses" 1098 (kR 636),kE P "law" 1104 (kR 641)] 138) #[]),
 (23,MW (v_ "dict") ck (Nh #[kE P "__module__" 196 (kS "notejar.errors" 187),kE P "__firstlineno__" 200 (kI 2 199),kE P "__static_attributes__" 201 (kR 22),kE P "__weakref__" 203 (kR 25),kE P "__doc__" 204 K9] 3) #[]),
 (24,MW (v_ "type") ck (OQ (L5 (b_ "JarError") [v_ "ValueError"] [kR 24,v_ "ValueError",v_ "Exception",v_ "BaseException",v_ "object"] 23 (b_ "JarError") c_ [] [kR 37,kR 49,kR 61,kR 73,kR 85,kR 97,kR 109] d_ ck d_)) #[a_ (kR 15),ck,a_ (kS "JarError" 189),a_ (kS "JarError" 197),a_ (L_ "ValueError.__new__"),a_ (Lo c_)]),
 (36,MW (v_ "dict") ck (Nh #[kE P "__module__" 214 (kS "notejar.errors" 187),kE P "__firstlineno__" 218 (kI 4 217),kE P "__static_attributes__" 219 (kR 35),kE P "__doc__" 220 K9] 2) #[]),
 (37,MW (v_ "type") ck (OQ (L5 (b_ "NoName") [kR 24] [kR 37,kR 24,v_ "ValueError",v_ "Exception",v_ "BaseException",v_ "object"] 36 (b_ "NoName") c_ [] [] d_ ck d_)) #[a_ (kR 28),ck,a_ (kS "NoName" 207),a_ (kS "NoName" 215),a_ (L_ "ValueError.__new__"),a_ (Lo c_)]),
 (48,MW (v_ "dict") ck (Nh #[kE P "__module__" 230 (kS "notejar.errors" 187),kE P "__firstlineno__" 234 (kI 6 233),kE P "__static_attributes__" 235 (kR 47),kE P "__doc__" 236 K9] 2) #[]),
 (49,MW (v_ "type") ck (OQ (L5 (b_ "NoTable") [kR 24] [kR 49,kR 24,v_ "ValueError",v_ "Exception",v_ "BaseException",v_ "object"] 48 (b_ "NoTable") c_ [] [] d_ ck d_)) #[a_ (kR 40),ck,a_ (kS "NoTable" 223),a_ (kS "NoTable" 231),a_ (L_ "ValueError.__new__"),a_ (Lo c_)]),
 (60,MW (v_ "dict") ck (Nh #[kE P "__module__" 246 (kS "notejar.errors" 187),kE P "__firstlineno__" 250 (kI 8 249),kE P "__static_attributes__" 251 (kR 59),kE P "__doc__" 252 K9] 2) #[]),
 (61,MW (v_ "type") ck (OQ (L5 (b_ "NoPath") [kR 24] [kR 61,kR 24,v_ "ValueError",v_ "Exception",v_ "BaseException",v_ "object"] 60 (b_ "NoPath") c_ [] [] d_ ck d_)) #[a_ (kR 52),ck,a_ (kS "NoPath" 239),a_ (kS "NoPath" 247),a_ (L_ "ValueError.__new__"),a_ (Lo c_)]),
 (72,MW (v_ "dict") ck (Nh #[kE P "__module__" 262 (kS "notejar.errors" 187),kE P "__firstlineno__" 266 (kI 10 265),kE P "__static_attributes__" 267 (kR 71),kE P "__doc__" 268 K9] 2) #[]),
 (73,MW (v_ "type") ck (OQ (L5 (b_ "NoAsk") [kR 24] [kR 73,kR 24,v_ "ValueError",v_ "Exception",v_ "BaseException",v_ "object"] 72 (b_ "NoAsk") c_ [] [] d_ ck d_)) #[a_ (kR 64),ck,a_ (kS "NoAsk" 255),a_ (kS "NoAsk" 263),a_ (L_ "ValueError.__new__"),a_ (Lo c_)]),
 (84,MW (v_ "dict") ck (Nh #[kE P "__module__" 278 (kS "notejar.errors" 187),kE P "__firstlineno__" 282 (kI 12 281),kE P "__static_attributes__" 283 (kR 83),kE P "__doc__" 284 K9] 2) #[]),
 (85,MW (v_ "type") ck (OQ (L5 (b_ "NoNote") [kR 24] [kR 85,kR 24,v_ "ValueError",v_ "Exception",v_ "BaseException",v_ "object"] 84 (b_ "NoNote") c_ [] [] d_ ck d_)) #[a_ (kR 76),ck,a_ (kS "NoNote" 271),a_ (kS "NoNote" 279),a_ (L_ "ValueError.__new__"),a_ (Lo c_)]),
 (96,MW (v_ "dict") ck (Nh #[kE P "__module__" 294 (kS "notejar.errors" 187),kE P "__firstlineno__" 298 (kI 14 297),kE P "__static_attributes__" 299 (kR 95),kE P "__doc__" 300 K9] 2) #[]),
 (97,MW (v_ "type") ck (OQ (L5 (b_ "NoJar") [kR 24] [kR 97,kR 24,v_ "ValueError",v_ "Exception",v_ "BaseException",v_ "object"] 96 (b_ "NoJar") c_ [] [] d_ ck d_)) #[a_ (kR 88),ck,a_ (kS "NoJar" 287),a_ (kS "NoJar" 295),a_ (L_ "ValueError.__new__"),a_ (Lo c_)]),
 (108,MW (v_ "dict") ck (Nh #[kE P "__module__" 310 (kS "notejar.errors" 187),kE P "__firstlineno__" 314 (kI 16 313),kE P "__static_attributes__" 315 (kR 107),kE P "__doc__" 316 K9] 2) #[]),
 (109,MW (v_ "type") ck (OQ (L5 (b_ "NoNumber") [kR 24] [kR 109,kR 24,v_ "ValueError",v_ "Exception",v_ "BaseException",v_ "object"] 108 (b_ "NoNumber") c_ [] [] d_ ck d_)) #[a_ (kR 100),ck,a_ (kS "NoNumber" 303),a_ (kS "NoNumber" 311),a_ (L_ "ValueError.__new__"),a_ (Lo c_)]),
 (115,kC "is_text_of" 321 322 323 19 4 3 112 181 113 114 324 19 325),
 (116,kF "is_text_of" 10 "notejar.kinds" 319 115),
 (122,kD "is_whole_number" 327 328 329 25 3 3 117 181 118 119 120 121 333 25 334),
 (123,kF "is_whole_number" 11 "notejar.kinds" 319 122),
 (129,kD "is_tuple_of" 336 337 338 29 2 3 124 181 125 126 127 128 341 29 342),
 (130,kF "is_tuple_of" 12 "notejar.kinds" 319 129),
 (136,kD "is_label" 356 357 358 37 1 3 131 181 132 133 134 135 360 37 361),
 (137,kF "is_label" 19 "notejar.names" 344 136),
 (141,kC "is_name" 363 364 365 41 1 3 138 181 139 140 366 41 367),
 (142,kF "is_name" 20 "notejar.names" 344 141),
 (148,kD "is_rule" 369 370 371 48 1 3 143 181 144 145 146 147 373 48 374),
 (149,kF "is_rule" 21 "notejar.names" 344 148),
 (153,kC "is_table" 376 377 378 56 1 3 150 181 151 152 379 56 380),
 (154,kF "is_table" 22 "notejar.names" 344 153),
 (160,kD "need_table" 382 383 384 62 1 3 155 181 156 157 158 159 386 62 387),
 (161,kF "need_table" 23 "notejar.names" 344 160),
 (167,kD "lies_within" 389 390 391 65 2 3 162 181 163 164 165 166 394 65 395),
 (168,kF "lies_within" 24 "notejar.names" 344 167),
 (172,kC "ends_longest_first" 397 398 399 67 1 3 169 181 170 171 400 67 401),
 (173,kF "ends_longest_first" 25 "notejar.names" 344 172),
 (179,kD "behind_first_dot" 403 404 405 70 1 3 174 181 175 176 177 178 407 70 408),
 (180,kF "behind_first_dot" 26 "notejar.names" 344 179),
 (186,kD "is_told_open" 410 411 412 72 2 3 181 181 182 183 184 185 415 72 416),
 (187,kF "is_told_open" 27 "notejar.names" 344 186),
 (193,kD "find_open_end" 418 419 420 76 2 3 188 181 189 190 191 192 425 76 426),
 (194,kF "find_open_end" 28 "notejar.names" 344 193),
 (200,kD "find_own_end" 428 429 430 85 2 3 195 181 196 197 198 199 436 85 437),
 (201,kF "find_own_end" 29 "notejar.names" 344 200),
 (207,kD "is_path" 445 446 447 95 1 3 202 181 203 204 205 206 449 95 450),
 (208,kF "is_path" 33 "notejar.paths" 439 207),
 (214,kD "need_path" 452 453 454 97 1 3 209 181 210 211 212 213 456 97 457),
 (215,kF "need_path" 34 "notejar.paths" 439 214),
 (221,kD "folder" 459 460 461 100 1 3 216 181 217 218 219 220 464 100 465),
 (222,kF "folder" 35 "notejar.paths" 439 221),
 (228,kD "lies_under" 467 468 469 106 2 3 223 181 224 225 226 227 472 106 473),
 (229,kF "lies_under" 36 "notejar.paths" 439 228),
 (235,kD "is_moment" 489 490 491 119 1 3 230 181 231 232 233 234 493 119 494),
 (236,kF "is_moment" 44 "notejar.asks" 475 235),
 (242,kD "is_moment_or_none" 496 497 498 121 1 3 237 181 238 239 240 241 500 121 501),
 (243,kF "is_moment_or_none" 45 "notejar.asks" 475 242),
 (249,kD "need_moment" 503 504 505 123 1 3 244 181 245 246 247 248 507 123 508),
 (250,kF "need_moment" 46 "notejar.asks" 475 249),
 (256,kD "is_ask" 510 511 512 126 1 3 251 181 252 253 254 255 514 126 515),
 (257,kF "is_ask" 47 "notejar.asks" 475 256),
 (263,kD "need_ask" 517 518 519 130 1 3 258 181 259 260 261 262 521 130 522),
 (264,kF "need_ask" 48 "notejar.asks" 475 263),
 (270,kD "comes_from_near" 524 525 526 133 2 3 265 181 266 267 268 269 532 133 533),
 (271,kF "comes_from_near" 49 "notejar.asks" 475 270),
 (277,kD "is_note_name" 565 566 567 155 1 3 272 181 273 274 275 276 569 155 570),
 (278,kF "is_note_name" 65 "notejar.giving" 535 277),
 (282,kC "is_worth" 572 573 574 157 1 3 279 181 280 281 575 157 576),
 (283,kF "is_worth" 66 "notejar.giving" 535 282),
 (289,kD "is_reach" 578 579 580 161 1 3 284 181 285 286 287 288 582 161 583),
 (290,kF "is_reach" 67 "notejar.giving" 535 289),
 (296,kD "is_given" 585 586 587 163 1 3 291 181 292 293 294 295 589 163 590),
 (297,kF "is_given" 68 "notejar.giving" 535 296),
 (303,kD "need_given" 592 593 594 167 1 3 298 181 299 300 301 302 596 167 597),
 (304,kF "need_given" 69 "notejar.giving" 535 303),
 (310,kD "is_written_moment" 599 600 601 170 1 3 305 181 306 307 308 309 603 170 604),
 (311,kF "is_written_moment" 70 "notejar.giving" 535 310),
 (317,kD "what_is_told" 606 607 608 172 1 3 312 181 313 314 315 316 613 172 614),
 (318,kF "what_is_told" 71 "notejar.giving" 535 317),
 (322,kC "read_given" 616 617 618 189 1 3 319 181 320 321 619 189 620),
 (323,kF "read_given" 72 "notejar.giving" 535 322),
 (329,kD "is_open" 646 647 648 214 2 3 324 181 325 326 327 328 651 214 652),
 (330,kF "is_open" 85 "notejar.notes" 622 329),
 (336,kD "is_exact" 654 655 656 216 3 3 331 181 332 333 334 335 661 216 662),
 (337,kF "is_exact" 86 "notejar.notes" 622 336),
 (343,kD "keeps_its_mark" 664 665 666 221 3 3 338 181 339 340 341 342 671 221 672),
 (344,kF "keeps_its_mark" 87 "notejar.notes" 622 343),
 (350,kD "why_refused" 674 675 676 228 3 3 345 181 346 347 348 349 681 228 682),
 (351,kF "why_refused" 88 "notejar.notes" 622 350)]
noncomputable def KKb (P:Qb):Frag:=[(357,kD "is_note" 684 685 686 244 1 3 352 181 353 354 355 356 688 244 689),
 (358,kF "is_note" 89 "notejar.notes" 622 357),
 (364,kD "house_for" 691 692 693 250 2 3 359 181 360 361 362 363 696 250 697),
 (365,kF "house_for" 90 "notejar.notes" 622 364),
 (371,kD "path_for" 699 700 701 254 2 3 366 181 367 368 369 370 704 254 705),
 (372,kF "path_for" 91 "notejar.notes" 622 371),
 (378,kD "end_for" 707 708 709 258 2 3 373 181 374 375 376 377 712 258 713),
 (379,kF "end_for" 92 "notejar.notes" 622 378),
 (385,kD "made" 715 716 717 262 4 3 380 181 381 382 383 384 722 262 723),
 (386,kF "made" 93 "notejar.notes" 622 385),
 (392,kD "key" 725 726 727 270 1 3 387 181 388 389 390 391 729 270 730),
 (393,kF "key" 94 "notejar.notes" 622 392),
 (399,kD "has_ended" 732 733 734 272 2 3 394 181 395 396 397 398 737 272 738),
 (400,kF "has_ended" 95 "notejar.notes" 622 399),
 (404,kC "is_jar" 744 745 746 276 1 3 401 181 402 403 747 276 748),
 (405,kF "is_jar" 98 "notejar.jars" 740 404),
 (409,kC "is_by_made" 750 751 752 282 1 3 406 181 407 408 753 282 754),
 (410,kF "is_by_made" 99 "notejar.jars" 740 409),
 (414,kC "has_no_key_twice" 756 757 758 284 1 3 411 181 412 413 759 284 760),
 (415,kF "has_no_key_twice" 100 "notejar.jars" 740 414),
 (421,kD "need_jar" 762 763 764 287 1 3 416 181 417 418 419 420 766 287 767),
 (422,kF "need_jar" 101 "notejar.jars" 740 421),
 (428,kD "need_no_more_than_a_jar_has" 769 770 771 290 1 3 423 181 424 425 426 427 773 290 774),
 (429,kF "need_no_more_than_a_jar_has" 102 "notejar.jars" 740 428),
 (433,kC "without_ended" 776 777 778 293 2 3 430 181 431 432 779 293 780),
 (434,kF "without_ended" 103 "notejar.jars" 740 433),
 (438,kC "put" 782 783 784 295 2 3 435 181 436 437 785 295 786),
 (439,kF "put" 104 "notejar.jars" 740 438),
 (445,kD "read_what_is_given" 788 789 790 301 5 3 440 181 441 442 443 444 797 301 798),
 (446,kF "read_what_is_given" 105 "notejar.jars" 740 445),
 (452,kD "verdict" 800 801 802 308 5 3 447 181 448 449 450 451 809 308 810),
 (453,kF "verdict" 106 "notejar.jars" 740 452),
 (457,kC "word_of" 812 813 814 311 5 3 454 181 455 456 815 311 816),
 (458,kF "word_of" 107 "notejar.jars" 740 457),
 (464,kD "shadows" 818 819 820 321 3 3 459 181 460 461 462 463 824 321 825),
 (465,kF "shadows" 108 "notejar.jars" 740 464),
 (469,kC "taken" 827 828 829 327 5 3 466 181 467 468 830 327 831),
 (470,kF "taken" 109 "notejar.jars" 740 469),
 (474,kC "take_in" 833 834 835 334 5 3 471 181 472 473 836 334 837),
 (475,kF "take_in" 110 "notejar.jars" 740 474),
 (481,kD "_law_cell" 841 842 843 344 2 3 476 181 477 478 479 480 846 344 847),
 (482,kF' "_law_cell" 112 481),
 (488,kD "_law_drawn" 849 850 851 348 3 3 483 181 484 485 486 487 856 348 857),
 (489,kF' "_law_drawn" 113 488),
 (495,kD "_law_name" 859 860 861 352 2 3 490 181 491 492 493 494 865 352 866),
 (496,kF' "_law_name" 114 495),
 (500,kC "_law_table" 868 869 870 356 2 3 497 181 498 499 871 356 872),
 (501,kF' "_law_table" 115 500),
 (507,kD "_law_path" 874 875 876 359 2 3 502 181 503 504 505 506 880 359 881),
 (508,kF' "_law_path" 116 507),
 (514,kD "_law_ask" 883 884 885 362 2 3 509 181 510 511 512 513 889 362 890),
 (515,kF' "_law_ask" 117 514),
 (519,kC "_law_ends" 892 893 894 365 1 3 516 181 517 518 895 365 896),
 (520,kF' "_law_ends" 118 519),
 (524,kC "_law_open" 898 899 900 368 2 3 521 181 522 523 901 368 902),
 (525,kF' "_law_open" 119 524),
 (529,kC "_law_own" 904 905 906 375 2 3 526 181 527 528 907 375 908),
 (530,kF' "_law_own" 120 529),
 (536,kD "_law_within" 910 911 912 379 2 3 531 181 532 533 534 535 915 379 916),
 (537,kF' "_law_within" 121 536),
 (543,kD "_law_under" 918 919 920 381 2 3 538 181 539 540 541 542 923 381 924),
 (544,kF' "_law_under" 122 543),
 (550,kD "_law_near" 926 927 928 383 2 3 545 181 546 547 548 549 931 383 932),
 (551,kF' "_law_near" 123 550),
 (557,kD "_law_given" 934 935 936 387 3 3 552 181 553 554 555 556 948 387 949),
 (558,kF' "_law_given" 124 557),
 (564,kD "_law_text" 951 952 953 398 1 3 559 181 560 561 562 563 966 398 967),
 (565,kF' "_law_text" 125 564),
 (571,kD "_law_why" 969 970 971 406 3 3 566 181 567 568 569 570 984 406 985),
 (572,kF' "_law_why" 126 571),
 (578,kD "_law_made" 987 988 989 421 4 3 573 181 574 575 576 577 1006 421 1007),
 (579,kF' "_law_made" 127 578),
 (590,kC "_law_jar" 1019 1020 1021 437 3 3 587 181 588 589 1022 437 1023),
 (591,kF' "_law_jar" 129 590),
 (597,kD "_law_verdict" 1025 1026 1027 455 5 3 592 181 593 594 595 596 1038 455 1039),
 (598,kF' "_law_verdict" 130 597),
 (602,kC "_law_taken" 1041 1042 1043 467 5 3 599 181 600 601 1044 467 1045),
 (603,kF' "_law_taken" 131 602),
 (609,kD "_law_refused" 1047 1048 1049 481 1 3 604 181 605 606 607 608 1052 481 1053),
 (610,kF' "_law_refused" 132 609),
 (616,kD "_law_told" 1055 1056 1057 488 6 3 611 181 612 613 614 615 1065 488 1066),
 (617,kF' "_law_told" 133 616),
 (623,kD "_law_like" 1068 1069 1070 493 5 3 618 181 619 620 621 622 1078 493 1079),
 (624,kF' "_law_like" 134 623),
 (630,kD "_law_near_ones" 1081 1082 1083 500 1 3 625 181 626 627 628 629 1090 500 1091),
 (631,kF' "_law_near_ones" 135 630),
 (635,kC "_law_refuses" 1093 1094 1095 508 5 3 632 181 633 634 1096 508 1097),
 (636,kF' "_law_refuses" 136 635),
 (640,kC "law" 1099 1100 1101 520 1 3 637 181 638 639 1102 520 1103),
 (641,kF' "law" 137 640)]
noncomputable def KK (P:Qb):Frag:=KKa P ++ KKb P
noncomputable def KAa:List k_:=[2,3,23,24,36,37,48,49,60,61,72,73,84,85,96,97,108,109,115,116,122,123,129,130,136,137,141,142,148,149,153,154,160,161,167,168,172,173,179,180,186,187,193,194,200,201,207,208,214,215,221,222,228,229,235,236,242,243,249,250,256,257,263,264,270,271,277,278,282,283,289,290,296,297,303,304,310,311,317,318,322,323,329,330,336,337,343,344,350,351]
noncomputable def KAb:List k_:=[357,358,364,365,371,372,378,379,385,386,392,393,399,400,404,405,409,410,414,415,421,422,428,429,433,434,438,439,445,446,452,453,457,458,464,465,469,470,474,475,481,482,488,489,495,496,500,501,507,508,514,515,519,520,524,525,529,530,536,537,543,544,550,551,557,558,564,565,571,572,578,579,590,591,597,598,602,603,609,610,616,617,623,624,630,631,635,636,640,641]
noncomputable def KA:List k_:=KAa ++ KAb
theorem KA_ok (P:Qb):KA=(KK P).map (·.1):=by kernel_rfl
noncomputable def VQ:r_:=view PySem.Challenge.pw_notejar_k51_taken [137]
theorem hbr:PySem.Challenge.rw_notejar_k51_taken.row.prog.bare:=⟨rfl,rfl,rfl,rfl,rfl,by decide +kernel⟩
theorem slo:PySem.W.looksOpen PySem.Challenge.rw_notejar_k51_taken.row.prog=c_:=by kernel_rfl
set_option maxRecDepth 100000 in
theorem sd1:PySem.Challenge.rw_notejar_k51_taken.row.wellSaid=c_:=by
 unfold PySem.W.OpenRow.wellSaid PySem.W.OpenRow.partSaid;rw [slo]
 kernel_rfl
set_option maxRecDepth 100000 in
theorem sd:PySem.Challenge.rw_notejar_k51_taken.wellSaid=c_:=by
 unfold PySem.W.OpenLaw.wellSaid;rw [sd1]
 kernel_rfl
theorem hld (h:PySem.Challenge.rw_notejar_k51_taken.row.wellSaid=c_→PySem.Challenge.rw_notejar_k51_taken.row.Holds):PySem.Challenge.rw_notejar_k51_taken.Holds:=PySem.W.holds_law sd h
noncomputable def VL:List Str:=[b_ "JarError",b_ "NoName",b_ "NoTable",b_ "NoPath",b_ "NoAsk",b_ "NoNote",b_ "NoJar",b_ "NoNumber",b_ "is_text_of",b_ "is_whole_number",b_ "is_tuple_of",b_ "FIGURES",b_ "LABEL_SIGNS",b_ "LONGEST_LABEL",b_ "MOST_LABELS",b_ "MOST_RULES",b_ "is_label",b_ "is_name",b_ "is_rule",b_ "is_table",b_ "need_table",b_ "lies_within",b_ "ends_longest_first",b_ "behind_first_dot",b_ "is_told_open",b_ "find_open_end",b_ "find_own_end",b_ "PATH_SIGNS",b_ "LONGEST_PATH",b_ "is_path",b_ "need_path",b_ "folder",b_ "lies_under",b_ "LAST_MOMENT",b_ "ASK_SAFE",b_ "ASK_HOUSE",b_ "ASK_PATH",b_ "ASK_ORIGIN",b_ "ASK_PARTS",b_ "is_moment",b_ "is_moment_or_none",b_ "need_moment",b_ "is_ask",b_ "need_ask",b_ "comes_from_near",b_ "NOTE_NAME_SIGNS",b_ "LONGEST_NOTE_NAME",b_ "NO_WORTH_SIGNS",b_ "LONGEST_WORTH",b_ "MOST_FIGURES",b_ "GIVEN_NAME",b_ "GIVEN_WORTH",b_ "GIVEN_HOUSE",b_ "GIVEN_PATH",b_ "GIVEN_UNTIL",b_ "GIVEN_LASTS",b_ "GIVEN_SAFE",b_ "GIVEN_REACH",b_ "GIVEN_PARTS",b_ "is_note_name",b_ "is_worth",b_ "is_reach",b_ "is_given",b_ "need_given",b_ "is_written_moment",b_ "what_is_told",b_ "read_given",b_ "NOTE_NAME",b_ "NOTE_WORTH",b_ "NOTE_HOUSE",b_ "NOTE_EXACT",b_ "NOTE_PATH",b_ "NOTE_ENDS",b_ "NOTE_SAFE",b_ "NOTE_REACH",b_ "NOTE_MADE",b_ "NOTE_USED",b_ "NOTE_PARTS",b_ "is_open",b_ "is_exact",b_ "keeps_its_mark",b_ "why_refused",b_ "is_note",b_ "house_for",b_ "path_for",b_ "end_for",b_ "made",b_ "key",b_ "has_ended",b_ "MOST_NOTES",b_ "is_jar",b_ "is_by_made",b_ "has_no_key_twice",b_ "need_jar",b_ "need_no_more_than_a_jar_has",b_ "without_ended",b_ "put",b_ "read_what_is_given",b_ "verdict",b_ "word_of",b_ "shadows",b_ "taken",b_ "take_in",b_ "_law_cell",b_ "_law_drawn",b_ "_law_name",b_ "_law_table",b_ "_law_path",b_ "_law_ask",b_ "_law_ends",b_ "_law_open",b_ "_law_own",b_ "_law_within",b_ "_law_under",b_ "_law_near",b_ "_law_given",b_ "_law_text",b_ "_law_why",b_ "_law_made",b_ "_law_goes",b_ "_law_jar",b_ "_law_verdict",b_ "_law_taken",b_ "_law_refused",b_ "_law_told",b_ "_law_like",b_ "_law_near_ones",b_ "_law_refuses"]
theorem JF {α β γ:Type} {o:Option α} {f:α→β} {g:α→γ} {a:β} {b:γ} (h1:o.map f=a_ a) (h2:o.map g=a_ b):o.map (fun s=>(f s,g s))=a_ (a,b):=by
 cases o with
 | none=>cases h1
 | some x=>cases h1; cases h2; rfl
set_option maxRecDepth 100000 in
theorem GD (w:E_):(TR.openQ Qo PySem.Challenge.pw_notejar_k51_taken w 9248).map (openSeen VQ VL (PP PySem.Challenge.pw_notejar_k51_taken.main.body) (fun s=>recOk [] s) c_)=a_ (openGood VQ VL):=by kernel_rfl
set_option maxRecDepth 100000 in
theorem BS (w:E_):(TR.openQ Qo PySem.Challenge.pw_notejar_k51_taken w 9248).map (fun s=>KAa.map s.heap.get?)=a_ ((KKa w.params).map fun p=>a_ p.2):=by kernel_rfl
set_option maxRecDepth 100000 in
theorem BU (w:E_):(TR.openQ Qo PySem.Challenge.pw_notejar_k51_taken w 9248).map (fun s=>KAb.map s.heap.get?)=a_ ((KKb w.params).map fun p=>a_ p.2):=by kernel_rfl
theorem wm {α β γ:Type} {o:Option α} {f:α→β→γ} {A B:List β} {X Y:List γ} (h1:o.map (fun s=>A.map (f s))=a_ X) (h2:o.map (fun s=>B.map (f s))=a_ Y):o.map (fun s=>(A ++ B).map (f s))=a_ (X ++ Y):=by
 cases o with
 | none=>cases h1
 | some x=>cases h1; cases h2; simp
theorem GE (w:E_):(TR.openQ Qo PySem.Challenge.pw_notejar_k51_taken w 9248).map (fun s=>KA.map s.heap.get?)=a_ ((KK w.params).map fun p=>a_ p.2):=by
 show (TR.openQ Qo PySem.Challenge.pw_notejar_k51_taken w 9248).map (fun s=>(KAa ++ KAb).map s.heap.get?)=a_ ((KKa w.params ++ KKb w.params).map fun p=>a_ p.2);rw [Ow];exact wm (f:=fun s:h_=>s.heap.get?) (BS w) (BU w)
theorem left:LeftO PySem.Challenge.pw_notejar_k51_taken VQ VL (fun s=>recOk [] s) (Hook.obs (Sh KK KA KA_ok)) (Hook.val (Sh KK KA KA_ok)) 9248:=fun w=>TR.openQ_map (JF (GD w) (GE w))
end G
set_option Elab.async false
set_option linter.all false
set_option maxRecDepth 100000
namespace L2
open PySem PySem.Spec PyProof.Rows
abbrev Key:=Sum Int Str
def BV:Key→g_→Bool
 | .inl k,v=>Value.isInt k v
 | .inr x,v=>QE x v
def JG (w:E_):Key→Int
 | .inl k=>hashInt k
 | .inr x=>hashStr w x
theorem cw:∀ {k:Key} {v:g_},BV k v=c_→(∃ i t,k=Qn i∧v=Rp i t)∨(∃ x t,k=Qm x∧v=No x t)
 | .inl i,v,h=>by
  obtain ⟨t,e⟩:=Value.isInt_shape (k:=i) (v:=v) h;exact .inl ⟨i,t,rfl,e⟩
 | .inr x,v,h=>by
  obtain ⟨t,e⟩:=Qu (x:=x) (v:=v) h;exact .inr ⟨x,t,rfl,e⟩
theorem BW (a b:Int):q_ ((Qn a:Key)=Qn b)=(a == b):=by
 by_cases e:a=b
 · subst e; simp
 · have h:¬ (Qn a:Key)=Qn b:=fun q=>e (Sum.inl.inj q);rw [decide_eq_false h];exact (beq_eq_false_iff_ne.mpr e).symm
theorem BX (a b:Str):q_ ((Qm a:Key)=Qm b)=q_ (a=b):=by
 by_cases e:a=b
 · subst e; simp
 · have h:¬ (Qm a:Key)=Qm b:=fun q=>e (Sum.inr.inj q);rw [decide_eq_false h,decide_eq_false e]
theorem BY (a:Int) (b:Str):q_ ((Qn a:Key)=Qm b)=d_:=decide_eq_false (fun q=>nomatch q)
theorem BZ (a:Str) (b:Int):q_ ((Qm a:Key)=Qn b)=d_:=decide_eq_false (fun q=>nomatch q)
def sK (prog:r_) (w:E_):PySem.KeyKind prog w Key where
 is:=BV
 hash:=JG w
 inj:=fun v a b ha hb=>by
  rcases cw ha with ⟨i,t,rfl,rfl⟩ | ⟨x,t,rfl,rfl⟩
  · rcases cw hb with ⟨j,u,rfl,e⟩ | ⟨y,u,rfl,e⟩
    · injection e with e1 _; rw [e1]
    · exact nomatch e
  · rcases cw hb with ⟨j,u,rfl,e⟩ | ⟨y,u,rfl,e⟩
    · exact nomatch e
    · injection e with e1 _; rw [e1]
 byValue:=fun k v h=>by
  rcases cw h with ⟨i,t,rfl,rfl⟩ | ⟨x,t,rfl,rfl⟩ <;> rfl
 pyHash:=fun hv h=>by
  rcases cw hv with ⟨i,t,rfl,rfl⟩ | ⟨x,t,rfl,rfl⟩
  · exact wpAny_pyHash_int h
  · exact wpAny_pyHash_str h
 eqBool:=fun hu hv h=>by
  rcases cw hu with ⟨i,t,rfl,rfl⟩ | ⟨x,t,rfl,rfl⟩
  · rcases cw hv with ⟨j,u,rfl,rfl⟩ | ⟨y,u,rfl,rfl⟩
    · rw [BW] at h; exact wpAny_eqBool_int h
    · rw [BY] at h; exact QK i t y u _ _ _ _ h
  · rcases cw hv with ⟨j,u,rfl,rfl⟩ | ⟨y,u,rfl,rfl⟩
    · rw [BZ] at h; exact QJ x t j u _ _ _ _ h
    · rw [BX] at h; exact wpAny_eqBool_str h
 «strs»:=fun k x t v h=>by
  rcases cw h with ⟨i,u,rfl,e⟩ | ⟨y,u,rfl,e⟩
  · exact nomatch e
  · injection e with e1 _;subst e1;cases v <;> rfl
inductive V where
 | non | bl (b:Bool) | int (i:Int) | str (x:Str) | byt (b:Array UInt8) | flt (b:UInt64) | ref (a:k_) | ty (n:String)
 deriving DecidableEq
def RelV:V→g_→Prop
 | .non,u=>u=K9
 | .bl b,u=>u=Lo b
 | .int i,u=>∃ t,u=Rp i t
 | .str x,u=>∃ t,u=No x t
 | .byt b,u=>∃ t,u=Value.bytes b t
 | .flt b,u=>∃ t,u=Value.float b t
 | .ref a,u=>u=x_ a
 | .ty n,u=>u=v_ n
abbrev Vals:List V→List g_→Prop:=Paired RelV
theorem Vals.length {xs:List V} {us:List g_} (r:Vals xs us):xs.length=us.length:=Paired.length r
theorem Vals.get:∀ {xs:List V} {us:List g_} {i:Nat} {x:V},Vals xs us→xs[i]?=a_ x→∃ u,us[i]?=a_ u∧RelV x u
 | _,_,_,_,.nil,e=>by simp at e
 | _,_,0,_,.cons r _,e=>by simp at e; subst e; exact ⟨_,rfl,r⟩
 | _,_,i + 1,x,.cons _ t,e=>by
  obtain ⟨u,h1,h2⟩:=Vals.get (i:=i) (x:=x) t (by simpa using e);exact ⟨u,by simpa using h1,h2⟩
theorem Vals.set {x:V} {u:g_} (r:RelV x u):∀ {xs:List V} {us:List g_} (i:Nat),Vals xs us→Vals (xs.set i x) (us.set i u)
 | _,_,_,.nil=>.nil
 | _,_,0,.cons _ t=>.cons r t
 | _,_,i + 1,.cons q t=>.cons q (Vals.set r i t)
theorem Vals.append:∀ {xs ys:List V} {us ws:List g_},Vals xs us→Vals ys ws→Vals (xs ++ ys) (us ++ ws)
 | _,_,_,_,.nil,s=>s
 | _,_,_,_,.cons r t,s=>.cons r (Vals.append t s)
theorem Vals.take:∀ {xs:List V} {us:List g_} (n:Nat),Vals xs us→Vals (xs.take n) (us.take n)
 | _,_,0,_=>.nil
 | _,_,_ + 1,.nil=>.nil
 | _,_,n + 1,.cons r t=>.cons r (Vals.take n t)
theorem Vals.drop:∀ {xs:List V} {us:List g_} (n:Nat),Vals xs us→Vals (xs.drop n) (us.drop n)
 | _,_,0,r=>r
 | _,_,_ + 1,.nil=>.nil
 | _,_,n + 1,.cons _ t=>Vals.drop n t
def GF:Option V→Option g_→Prop
 | some v,a_ u=>RelV v u
 | none,ck=>True
 | _,_=>False
def KV {κ:Type}:List (κ×V)→List (κ×g_)→Prop:=Paired fun (p:κ×V) (q:κ×g_)=>p.1=q.1∧RelV p.2 q.2
def kV:Key→V
 | .inl i=>.int i
 | .inr x=>.str x
inductive HO where
 | lst (xs:List V)
 | tup (xs:List V)
 | dK (kvs:List (Key×V)) | dT (kvs:List (List Key×V))
 | set (S:Int→Bool) (n:Nat)
 | ins (C dx:k_) (fs:List (Str×V))
 | own (x:k_)
 | xd (fs:List (Str×V))
 | met (f x:k_)
 | rng (lo hi:Int)
 | frz (o:Obj) (u:HO)
 | tbl (ps:Array g_)
 | ext (φ:K5→Prop)
abbrev Hp:=k_→Option HO
def upd (H:Hp) (a:k_) (o:HO):Hp:=fun b=>if b=a then a_ o else H b
theorem aA {H:Hp} {a:k_} {o:HO}:upd H a o a=a_ o:=by unfold upd; rw [if_pos rfl]
theorem aB {H:Hp} {a b:k_} {o:HO} (h:b≠a):upd H a o b=H b:=by unfold upd; rw [if_neg h]
theorem oZ {H:Hp} {a:k_} {o u:HO}:upd (upd H a o) a u=upd H a u:=by
 funext b; unfold upd; split <;> rfl
theorem ax {H:Hp} {a b:k_} {o:HO} (h:H a=a_ o) (h':H b=ck):a≠b:=by
 intro e; subst e; rw [h] at h'; cases h'
section
variable (P:r_) (w:E_)
def ObjOk (H:Hp) (h:K5) (a:k_):HO→Prop
 | .lst xs=>xs.length≤sizeLine∧∃ (its:List g_) (n:Nat),Vals xs its∧h.get? a=a_ { cls:=.type "list",data:=.seq its.toArray n }
 | .tup xs=>xs.length≤sizeLine∧∃ its:List g_,Vals xs its∧Sa h a its.toArray
 | .dK kvs=>kvs.length≤sizeLine∧(a == sysModules)=d_∧∃ vs,KV kvs vs∧h.DictOf (sK P w) a vs
 | .dT kvs=>kvs.length≤sizeLine∧(a == sysModules)=d_∧∃ xs:List (List Key×k_×g_),
  Paired (fun (p:List Key×V) (q:List Key×k_×g_)=>p.1=q.1∧H q.2.1=a_ (.tup (p.1.map kV))∧RelV p.2 q.2.2) kvs xs ∧
  ∃ o es ep,h.get? a=a_ o∧o.ExactDict∧o.data=.dict es ep∧es.toList=xs.map (entryOfKey (tupleKind (sK P w)))∧(xs.map (·.1)).Nodup
 | .set S n=>h.SetOf (intKind P w) a S n
 | .ins C dx fs=>H dx=a_ (.own a)∧fs.length≤1000∧dx≠a∧h.get? a=a_ (MG C dx) ∧
  ∃ mA,h.Ns1 dx mA∧(∀ f,GF (fs.lookup f) (mA f))∧Q1 mA (fs.map (·.1))
 | .own _=>∃ o,h.get? a=a_ o
 | .xd fs=>∃ mA,h.Ns1 a mA∧∀ f,GF (fs.lookup f) (mA f)
 | .rng lo hi=>∃ t u v,h.get? a=a_ { cls:=.type "range",data:=.fields #[.int lo t,.int hi u,.int 1 v] }
 | .frz o u=>h.get? a=a_ o∧ObjOk H h a u
 | .tbl ps=>∃ qs:Array g_,h.get? a=a_ { cls:=.none,data:=.fields qs }∧TriplesOk qs.toList∧∀ pos v,codeAmong pos qs.toList=a_ v→∃ c oc vs q t t',v=.ref c∧H c=a_ (.frz oc (.ext fun _=>True))∧oc.data=.fields vs∧vs[1]?=a_ (.str q t)∧ps[0]?=a_ (.str q t')
 | .met f x=>h.get? a=a_ (O1 (.ref f) (.ref x))
 | .ext φ=>φ h∧(∃ o,h.get? a=a_ o)∧∀ h1 h2:K5,φ h1→(∀ o,h1.get? a=a_ o→h2.get? a=a_ o)→φ h2
def HOk (H:Hp) (h:K5):Prop:=∀ a o,H a=a_ o→ObjOk P w H h a o
end
section
variable {P:r_} {w:E_} {H H':Hp} {h h':K5} {a:k_} {o:HO}
theorem ObjOk.lt (x:ObjOk P w H h a o):a < h.objs.size:=by
 cases o with
 | lst xs=>obtain ⟨_,_,_,_,e⟩:=x; exact t_ e
 | tup xs=>obtain ⟨_,_,_,p⟩:=x; exact p.lt
 | dK kvs=>obtain ⟨_,_,_,_,o,_,_,e,_⟩:=x; exact t_ e
 | dT kvs=>obtain ⟨_,_,_,_,o,_,_,e,_⟩:=x; exact t_ e
 | set S n=>obtain ⟨o,_,_,_,e,_⟩:=x; exact t_ e
 | ins C dx fs=>obtain ⟨_,_,_,e,_⟩:=x; exact t_ e
 | own y=>obtain ⟨_,e⟩:=x; exact t_ e
 | xd fs=>obtain ⟨_,⟨_,_,_,e,_⟩,_⟩:=x; exact t_ e
 | rng lo hi=>obtain ⟨_,_,_,e⟩:=x; exact t_ e
 | frz ob u=>obtain ⟨e,_⟩:=x; exact t_ e
 | tbl ps=>obtain ⟨_,e,_⟩:=x; exact t_ e
 | met f y=>exact t_ (show h.get? a=a_ _ from x)
 | ext φ=>obtain ⟨_,⟨_,e⟩,_⟩:=x; exact t_ e
theorem Paired.mapP {α β:Type} {F G:α→β→Prop}:∀ {l₁:List α} {l₂:List β},Paired F l₁ l₂→(∀ a b,F a b→G a b)→Paired G l₁ l₂
 | _,_,.nil,_=>.nil
 | _,_,.cons r t,f=>.cons (f _ _ r) (Paired.mapP t f)
theorem ObjOk.stay (x:ObjOk P w H h a o) (k:∀ b u,(b=a∨H b=a_ (.own a))→h.get? b=a_ u→h'.get? b=a_ u)
 (ho:∀ b,H b=a_ (.own a)→H' b=a_ (.own a)) (ht:∀ b xs,H b=a_ (.tup xs)→H' b=a_ (.tup xs))
 (hf:∀ b o u,H b=a_ (.frz o u)→H' b=a_ (.frz o u):=by first | exact fun _ _ _ q=>q | (intro c _ _ q; rw [aB (ax q (by assumption))]; exact q)):ObjOk P w H' h' a o:=by
 induction o with
 | lst xs=>obtain ⟨z,its,n,r,e⟩:=x; exact ⟨z,its,n,r,k _ _ (.inl rfl) e⟩
 | tup xs=>obtain ⟨z,its,r,ob,e,c⟩:=x; exact ⟨z,its,r,ob,k _ _ (.inl rfl) e,c⟩
 | dK kvs=>obtain ⟨z,y,vs,r,ob,es,ep,e,c⟩:=x; exact ⟨z,y,vs,r,ob,es,ep,k _ _ (.inl rfl) e,c⟩
 | dT kvs =>
  obtain ⟨z,y,xs,r,ob,es,ep,e,c⟩:=x;exact ⟨z,y,xs,Paired.mapP r fun p q z=>⟨z.1,ht _ _ z.2.1,z.2.2⟩,ob,es,ep,k _ _ (.inl rfl) e,c⟩
 | set S n=>obtain ⟨ob,es,ep,t,e,c⟩:=x; exact ⟨ob,es,ep,t,k _ _ (.inl rfl) e,c⟩
 | ins C dx fs =>
  obtain ⟨d,z,ne,e,mA,⟨od,es,ep,e2,c⟩,r⟩:=x;exact ⟨ho _ d,z,ne,k _ _ (.inl rfl) e,mA,⟨od,es,ep,k _ _ (.inr d) e2,c⟩,r⟩
 | own y=>obtain ⟨ob,e⟩:=x; exact ⟨ob,k _ _ (.inl rfl) e⟩
 | xd fs=>obtain ⟨mA,⟨od,es,ep,e,c⟩,r⟩:=x; exact ⟨mA,⟨od,es,ep,k _ _ (.inl rfl) e,c⟩,r⟩
 | rng lo hi=>obtain ⟨t,u,v,e⟩:=x; exact ⟨t,u,v,k _ _ (.inl rfl) e⟩
 | frz ob u ih=>obtain ⟨e,q⟩:=x; exact ⟨k _ _ (.inl rfl) e,ih q⟩
 | tbl ps =>
  obtain ⟨qs,e,tr,ch⟩:=x;exact ⟨qs,k a _ (.inl rfl) e,tr,fun pos v hv=>let ⟨c,oc,vs,q,t,t',e1,e2,r⟩:=ch pos v hv; ⟨c,oc,vs,q,t,t',e1,hf _ _ _ e2,r⟩⟩
 | met f y =>
  have e:h.get? a=a_ (O1 (.ref f) (.ref y)):=x;show h'.get? a=a_ (O1 (.ref f) (.ref y));exact k a _ (.inl rfl) e
 | ext φ=>obtain ⟨p,⟨o,e⟩,st⟩:=x; exact ⟨st _ _ p fun o q=>k _ _ (.inl rfl) q,⟨o,k _ _ (.inl rfl) e⟩,st⟩
theorem HOk.lt (x:HOk P w H h) (e:H a=a_ o):a < h.objs.size:=(x a o e).lt
theorem HOk.fresh (x:HOk P w H h) (e:h.objs.size≤a):H a=ck:=by
 cases q:H a with
 | none=>rfl
 | some u=>exact absurd (H_ (x.lt q) e) (Mc _)
theorem HOk.kept (x:HOk P w H h) (k:∀ b u,h.get? b=a_ u→h'.get? b=a_ u):HOk P w H h':=fun a o e =>
 (x a o e).stay (fun b u _ q=>k b u q) (fun _ q=>q) fun _ _ q=>q
theorem HOk.laid (x:HOk P w H h) (k:∀ b u,h.get? b=a_ u→h'.get? b=a_ u) (hp:h.objs.size≤a) (new:ObjOk P w (upd H a o) h' a o):HOk P w (upd H a o) h':=fun b u e=>by
 have hn:=x.fresh hp;by_cases hb:b=a
 · subst hb; rw [aA] at e; cases e; exact new
 · rw [aB hb] at e;exact (x b u e).stay (fun c v _ q=>k c v q) (fun c q=>by rw [aB (ax q hn)]; exact q) fun c xs q=>by rw [aB (ax q hn)]; exact q
end
def Rd (H:Hp) (a:k_) (u:HO):Prop:=H a=a_ u∨∃ o,H a=a_ (.frz o u)
theorem Rd.of {H:Hp} {a:k_} {u:HO} (h:H a=a_ u):Rd H a u:=.inl h
theorem Rd.ok {P:r_} {w:E_} {H:Hp} {h:K5} {a:k_} {u:HO} (r:Rd H a u) (x:HOk P w H h):ObjOk P w H h a u:=by
 rcases r with r | ⟨o,r⟩
 · exact x a u r
 · obtain ⟨_,q⟩:=x a _ r;exact q
def Mut:Option HO→Prop
 | some (.lst _)=>True
 | some (.dK _)=>True
 | some (.dT _)=>True
 | some (.set _ _)=>True
 | some (.ins _ _ _)=>True
 | some (.ext _)=>True
 | _=>False
section
variable {P:r_} {w:E_} {H:Hp} {h h':K5} {x e:k_} {o':HO}
theorem HOk.write (ok:HOk P w H h) (mu:Mut (H x)) (he:e=x∨H e=a_ (.own x)) (k:∀ b u,b≠e→h.get? b=a_ u→h'.get? b=a_ u) (heo:∃ u,h'.get? e=a_ u)
 (new:ObjOk P w (upd H x o') h' x o'):HOk P w (upd H x o') h':=fun b u q=>by
 have nown:∀ c y,H c=a_ (.own y)→c≠x:=fun c y r z=>by subst z; rw [r] at mu; exact mu
 have ntup:∀ c xs,H c=a_ (.tup xs)→c≠x:=fun c xs r z=>by subst z; rw [r] at mu; exact mu
 by_cases hb:b=x
 · subst hb; rw [aA] at q; cases q; exact new
 · rw [aB hb] at q;by_cases hbe:b=e
   · have q':H b=a_ (.own x):=by
      rcases he with z | z
      · exact absurd (hbe.trans z) hb
      · rw [hbe]; exact z
     rw [q] at q'; cases q';obtain ⟨v,hv⟩:=heo;exact ⟨v,by rw [hbe]; exact hv⟩
   · refine (ok b u q).stay (fun c v hc r=>k c v ?_ r) (fun c r=>by rw [aB (nown c b r)]; exact r) (fun c xs r=>by rw [aB (ntup c xs r)]; exact r) fun c _ _ r=>by rw [aB (fun z=>by subst z; rw [r] at mu; exact mu)]; exact r
     rcases hc with rfl | hc
     · exact hbe
     · rintro rfl;rcases he with z | z
       · exact nown c b hc z
       · rw [hc] at z; cases z; exact hb rfl
end
structure Un (fs ex:List k_) (H H':Hp) (h h':K5):Prop where
 keep:∀ b o,h.get? b=a_ o→H b=ck→b ∉ fs→b ∉ ex→h'.get? b=a_ o
 slot:∀ b o,h.get? b=a_ o→H b=ck→b∈fs→b ∉ ex→∃ sl,h'.get? b=a_ { o with slots:=sl }
 free:∀ b o,h.get? b=a_ o→H b=ck→b ∉ ex→H' b=ck
 there:∀ b o,h.get? b=a_ o→b ∉ ex→∃ o',h'.get? b=a_ o'
 tups:∀ b xs,H b=a_ (.tup xs)→H' b=a_ (.tup xs)
 frzs:∀ b o u,H b=a_ (.frz o u)→H' b=a_ (.frz o u)
 tbls:∀ b ps,H b=a_ (.tbl ps)→∃ more,H' b=a_ (.tbl (ps ++ more))
section
variable {fs fs' ex ex':List k_} {H H1 H2:Hp} {h h1 h2 h':K5} {a x e:k_} {o:HO}
theorem Un.any (u:Un fs ex H H1 h h1) {b:k_} {ob:Obj} (q:h.get? b=a_ ob) (n:H b=ck) (hx:b ∉ ex):∃ sl,h1.get? b=a_ { ob with slots:=sl }:=by
 by_cases hb:b∈fs
 · exact u.slot b ob q n hb hx
 · exact ⟨ob.slots,u.keep b ob q n hb hx⟩
theorem Un.trans (a:Un fs ex H H1 h h1) (b:Un fs ex H1 H2 h1 h2):Un fs ex H H2 h h2 where
 keep:=fun c ob q n hc hx=>b.keep c ob (a.keep c ob q n hc hx) (a.free c ob q n hx) hc hx
 slot:=fun c ob q n hc hx=>by
  obtain ⟨sl,e1⟩:=a.slot c ob q n hc hx;obtain ⟨sl',e2⟩:=b.slot c _ e1 (a.free c ob q n hx) hc hx;exact ⟨sl',e2⟩
 free:=fun c ob q n hx=>by
  obtain ⟨o',e1⟩:=a.there c ob q hx;exact b.free c o' e1 (a.free c ob q n hx) hx
 there:=fun c ob q hx=>by
  obtain ⟨o',e1⟩:=a.there c ob q hx;exact b.there c o' e1 hx
 tups:=fun c xs q=>b.tups c xs (a.tups c xs q)
 frzs:=fun c ob xs q=>b.frzs c ob xs (a.frzs c ob xs q)
 tbls:=fun c ps q=>by
  obtain ⟨m1,e1⟩:=a.tbls c ps q;obtain ⟨m2,e2⟩:=b.tbls c _ e1;exact ⟨m1 ++ m2,by rw [e2,OX]⟩
theorem Un.kept (k:∀ b u,h.get? b=a_ u→h'.get? b=a_ u):Un fs ex H H h h' :=
 ⟨fun b ob q _ _ _=>k b ob q,fun b ob q _ _ _=>⟨ob.slots,k b ob q⟩,fun _ _ _ n _=>n,fun b ob q _=>⟨ob,k b ob q⟩,fun _ _ q=>q,fun _ _ _ q=>q,fun _ ps q=>⟨#[],by rw [q]; simp⟩⟩
theorem Un.refl:Un fs ex H H h h:=Un.kept fun _ _ q=>q
theorem Un.laid (k:∀ b u,h.get? b=a_ u→h'.get? b=a_ u) (hp:h.objs.size≤a) (hn:H a=ck):Un fs ex H (upd H a o) h h' where
 keep:=fun b u q _ _ _=>k b u q
 slot:=fun b u q _ _ _=>⟨u.slots,k b u q⟩
 free:=fun b u q n _=>by rw [aB (K7 (H_ (t_ q) hp))]; exact n
 there:=fun b u q _=>⟨u,k b u q⟩
 tups:=fun b xs q=>by rw [aB (ax q hn)]; exact q
 frzs:=fun b u xs q=>by rw [aB (ax q hn)]; exact q
 tbls:=fun b ps q=>⟨#[],by rw [aB (ax q hn),q]; simp⟩
theorem Un.write (mu:Mut (H x)) (he:e=x∨H e=a_ (.own x)) (k:∀ b u,b≠e→h.get? b=a_ u→h'.get? b=a_ u) (heo:∃ u,h'.get? e=a_ u):Un fs ex H (upd H x o) h h':=by
 have hx:∀ b,H b=ck→b≠x:=fun b n z=>by subst z; rw [n] at mu; exact mu
 have hb:∀ b,H b=ck→b≠e:=fun b n z=>by
  subst z;rcases he with r | r
  · exact hx b n r
  · rw [n] at r; cases r
 have hm:∀ b u,H b=a_ u→¬ Mut (a_ u)→b≠x:=fun b u q nm z=>by subst z; rw [q] at mu; exact nm mu
 refine ⟨fun b u q n _ _=>k b u (hb b n) q,fun b u q n _ _=>⟨u.slots,k b u (hb b n) q⟩,fun b u q n _=>by rw [aB (hx b n)]; exact n,fun b u q _=>?_,
  fun b xs q=>by rw [aB (hm b _ q fun z=>z)]; exact q,fun b u xs q=>by rw [aB (hm b _ q fun z=>z)]; exact q,fun b ps q=>⟨#[],by rw [aB (hm b _ q fun z=>z),q]; simp⟩⟩
 by_cases hbe:b=e
 · subst hbe; exact heo
 · exact ⟨u,k b u hbe q⟩
theorem Un.mono (u:Un fs ex H H1 h h1) (hs:∀ b∈fs,b∈fs') (hx:∀ b∈ex,b∈ex'):Un fs' ex' H H1 h h1 :=
 ⟨fun b ob q n hb he=>u.keep b ob q n (fun z=>hb (hs b z)) fun z=>he (hx b z),fun _ _ q n _ he=>u.any q n fun z=>he (hx _ z),fun b ob q n he=>u.free b ob q n fun z=>he (hx b z),fun b ob q he=>u.there b ob q fun z=>he (hx b z),u.tups,u.frzs,u.tbls⟩
end
def trk (h:K5) (H:Hp):List k_:=(s_ h.objs.size).filter fun a=>(H a).isSome
def wn (h:K5) (H:Hp):K5:=RJ h (trk h H)
theorem sL (h:K5) (H:Hp):(wn h H).objs.size=h.objs.size:=PySem.W.hideAll_size _ _
theorem wo {h:K5} {H:Hp} {b:k_} {o:Obj} (e:h.get? b=a_ o) (n:H b=ck):(wn h H).get? b=a_ o :=
 Oy _ e fun hm=>by
  have q:(H b).isSome=c_:=(Lm.mp hm).2;rw [n] at q; simp at q
theorem zm {h:K5} {H:Hp} {b:k_} {o:Obj} (e:(wn h H).get? b=a_ o):h.get? b=a_ o∧H b=ck:=by
 have e':h.get? b=a_ o:=M5 (trk h H) e;refine ⟨e',?_⟩;cases q:H b with
 | none=>rfl
 | some x =>
  have hm:b∈trk h H:=Lm.mpr ⟨K6.mpr (t_ e'),by simp [q]⟩;have z:(wn h H).get? b=ck:=L8 (trk h H) hm;rw [z] at e; cases e
def zn (g h:K5) (L:k_):List (k_×Obj):=(s_ h.objs.size).filterMap fun a=>if a=L∨(g.get? a).isSome=c_ then ck else (h.get? a).map fun o=>(a,o)
def rest (g h:K5) (L d:k_):List (k_×Obj):=(zn g h L).filter fun p=>q_ (p.1≠d)
structure Mod (K:e_) (mg:Str→Option g_) (base:K5):Prop where
 kin:K.In base
 glob:base.Ns C_ mg
 blt:∃ mb,base.Ns QG mb∧∀ x:Str,x≠"__name__"→mb x=LJ x
 nolimit:base.NoLimit
structure Cx where
 prog:r_
 w:E_
 K:e_
 mg:Str→Option g_
 base:K5
 A:G_
 N:List Str
 s₀:h_
 H₀:Hp
 env:Env
 outer:List Env
 stack:List Env
 ex:List k_
 fn:Str→Bool
 calm:Bool
 pn:List (k_×Obj)
 xe:g_→h_→Prop
def frs (l:List Env):List k_:=l.filterMap (·.frame)
abbrev Cx.fs (X:Cx):List k_:=frs X.outer
def Vis (sc:Me) (x:Str):Prop:=sc.names.lookup x=a_ .local∨sc.names.lookup x=a_ .cell∨sc.names.lookup x=a_ .free
def Loc (sc:Me) (x:Str):Prop:=sc.names.lookup x=a_ .local∨sc.names.lookup x=a_ .cell
def JH (env:Env) (h:K5) (m:Str→Option g_) (x:Str) (u:g_):Prop :=
 (env.kindOf x=a_ .local∧m x=a_ u)∨((env.kindOf x=a_ .cell∨env.kindOf x=a_ .free)∧∃ c,env.cells.lookup x=a_ c∧h.IsCell c (a_ u))
structure Cx.Ok (X:Cx):Prop where
 mod:Mod X.K X.mg X.base
 kind:X.env.scope.kind=.function
 glob:X.env.globals=C_
 blt:X.env.builtins=QG
 above:X.s₀.heap.objs.size≤X.env.locals
 inj:∀ x y c,X.env.cells.lookup x=a_ c→X.env.cells.lookup y=a_ c→x=y
 has:∀ x,(X.env.kindOf x=a_ .cell∨X.env.kindOf x=a_ .free)→∃ c,X.env.cells.lookup x=a_ c
 cab:∀ x c,X.fn x=c_→X.env.cells.lookup x=a_ c→X.s₀.heap.objs.size≤c
 hd:X.calm=c_→X.A.handled=ck
 frames:X.A.frames=a_ X.stack
 stk:X.stack=X.outer∨(X.stack=X.env :: X.outer∧X.env.frame=a_ X.env.locals)
 exf:∀ b∈X.ex,b≠X.env.locals∧∀ x c,X.env.cells.lookup x=a_ c→c≠b
 bs:∀ b o,X.base.get? b=a_ o→X.s₀.heap.get? b=a_ o∧X.H₀ b=ck
 bsz:X.base.objs.size≤X.s₀.heap.objs.size
 noex:∀ b o,X.base.get? b=a_ o→b ∉ X.ex
 exfs:∀ b∈X.ex,b ∉ X.fs
 funs:X.s₀.heap.FunFrames X.base X.outer
 frf:∀ b∈X.fs,X.H₀ b=ck
structure Inv (X:Cx) (f':List (k_×Obj)) (σ:List (Option V)) (H:Hp) (s:h_):Prop where
 ok:X.Ok
 os:s.os=X.s₀.os
 bare:OC s.gens
 base:Un X.fs X.ex X.H₀ H X.s₀.heap s.heap
 loc:∃ m,s.heap.Ns X.env.locals m∧∀ (i:Nat) (x:Str) (v:V),X.N[i]?=a_ x→σ[i]?=a_ (a_ v)→Vis X.env.scope x→∃ u,RelV v u∧JH X.env s.heap m x u
 cell:∀ x c,X.env.cells.lookup x=a_ c→∃ v,s.heap.IsCell c v
 free:H X.env.locals=ck
 freeC:∀ x c,X.env.cells.lookup x=a_ c→H c=ck
 pin:∀ p∈X.pn ++ f',s.heap.get? p.1=a_ p.2∧H p.1=ck∧p.1≠X.env.locals∧p.1 ∉ X.fs∧∀ v,p.2.data≠.cell v
 hok:HOk X.prog X.w H s.heap
 len:σ.length=X.N.length
section
variable {X:Cx} {f':List (k_×Obj)} {σ:List (Option V)} {H H':Hp} {s:h_} {h':K5}
theorem Cx.Ok.nofr (ok:X.Ok) {b:k_} {o:Obj} (e:X.base.get? b=a_ o):b ∉ X.fs:=fun hb=>by
 have:=(ok.funs.mem hb).1;rw [e] at this; cases this
theorem Inv.bs (I:Inv X f' σ H s):∀ b o,X.base.get? b=a_ o→s.heap.get? b=a_ o∧H b=ck:=fun b o e =>
 ⟨I.base.keep b o (I.ok.bs b o e).1 (I.ok.bs b o e).2 (I.ok.nofr e) (I.ok.noex b o e),I.base.free b o (I.ok.bs b o e).1 (I.ok.bs b o e).2 (I.ok.noex b o e)⟩
theorem Inv.bk (I:Inv X f' σ H s):∀ b o,X.base.get? b=a_ o→s.heap.get? b=a_ o:=fun b o e=>(I.bs b o e).1
theorem Inv.mod (I:Inv X f' σ H s):Mod X.K X.mg X.base:=I.ok.mod
theorem Inv.kIn (I:Inv X f' σ H s):X.K.In s.heap:=I.ok.mod.kin.keeps I.bk
theorem Inv.nolimit (I:Inv X f' σ H s):s.heap.NoLimit:=I.ok.mod.nolimit.keeps I.bk
theorem Inv.fr (I:Inv X f' σ H s):∃ m,Fr X.base X.env.locals s.heap m :=
 let ⟨m,hn,_⟩:=I.loc
 ⟨m,hn,I.bk,K0 I.ok.bsz I.ok.above⟩
theorem Inv.lt (I:Inv X f' σ H s):X.env.locals < s.heap.objs.size:=let ⟨_,hn,_⟩:=I.loc; hn.lt
theorem Inv.sz (I:Inv X f' σ H s):X.s₀.heap.objs.size≤s.heap.objs.size:=K0 I.ok.above (N2 I.lt)
theorem Inv.nofs (I:Inv X f' σ H s) {a:k_} (h:s.heap.objs.size≤a):a ∉ X.fs:=fun hb=>by
 obtain ⟨_,o,ho,_⟩:=I.ok.funs.mem hb;exact absurd (H_ (t_ ho) (K0 I.sz h)) (Mc _)
theorem Inv.cne (I:Inv X f' σ H s):∀ x c,X.env.cells.lookup x=a_ c→c≠X.env.locals:=fun x c e z=>by
 obtain ⟨v,o,ho,hd⟩:=I.cell x c e;obtain ⟨m,⟨o',es,ep,ho',hd',_⟩,_⟩:=I.loc;rw [z,ho'] at ho; cases ho; rw [hd'] at hd; cases hd
theorem Inv.funs (I:Inv X f' σ H s):s.heap.FunFrames X.base X.outer:=by
 have all:∀ (l:List Env),(∀ b∈frs l,b∈X.fs)→X.s₀.heap.FunFrames X.base l→s.heap.FunFrames X.base l:=by
  intro l
  induction l with
  | nil=>intro _ _; trivial
  | cons env r ih =>
   intro hs hl;obtain ⟨hk,⟨L,o,hf,hn,ho,hd⟩,hr⟩:=hl;have hL:L∈X.fs:=hs L (by unfold frs; rw [MS,hf]; exact o_);obtain ⟨sl,e⟩:=I.base.slot L o ho (I.ok.frf L hL) hL fun z=>I.ok.exfs L z hL;exact ⟨hk,⟨L,_,hf,hn,e,hd⟩,ih (fun b hb=>hs b (by unfold frs; rw [MS,hf]; exact pi _ hb)) hr⟩
 exact all X.outer (fun _ hb=>hb) I.ok.funs
theorem Inv.stack (I:Inv X f' σ H s):s.heap.FunFrames X.base X.stack:=by
 rcases I.ok.stk with e | ⟨e,hf⟩
 · rw [e]; exact I.funs
 · rw [e];obtain ⟨m,hn,_⟩:=I.loc;refine .cons (by rw [I.ok.kind]; decide) hf hn ?_ I.funs;exact Heap.get?_none_of_le (K0 I.ok.bsz I.ok.above)
theorem Inv.stkSub (I:Inv X f' σ H s):∀ b∈frs X.stack,b∈X.env.locals :: X.fs:=fun b hb=>by
 rcases I.ok.stk with e | ⟨e,hf⟩
 · rw [e] at hb; exact pi _ hb
 · rw [e] at hb;unfold frs at hb;rw [MS,hf] at hb;exact hb
theorem Inv.stkFree (I:Inv X f' σ H s):∀ b∈frs X.stack,H b=ck:=fun b hb=>by
 rcases rl.mp (I.stkSub b hb) with e | hb
 · rw [e]; exact I.free
 · obtain ⟨_,o,ho,_⟩:=I.ok.funs.mem hb;exact I.base.free b o ho (I.ok.frf b hb) fun z=>I.ok.exfs b z hb
theorem Inv.step {g':Array OO} {t':Nat} {d':Drawn} {ch:List k_} (I:Inv X f' σ H s)
 (hch:∀ b∈ch,(b∈X.ex∨X.s₀.heap.objs.size≤b)∧b≠X.env.locals∧(∀ x c,X.env.cells.lookup x=a_ c→c≠b)∧∀ p∈X.pn ++ f',p.1≠b)
 (keep:∀ b o,b≠X.env.locals→b ∉ X.fs→b ∉ ch→s.heap.get? b=a_ o→H b=ck→h'.get? b=a_ o)
 (slot:∀ b o,b≠X.env.locals→b∈X.fs→b ∉ ch→s.heap.get? b=a_ o→H b=ck→∃ sl,h'.get? b=a_ { o with slots:=sl }) (free:∀ b o,b ∉ ch→s.heap.get? b=a_ o→H b=ck→H' b=ck)
 (there:∀ b o,b ∉ ch→s.heap.get? b=a_ o→∃ o',h'.get? b=a_ o')
 (tups:∀ b xs,H b=a_ (.tup xs)→H' b=a_ (.tup xs)) (frzs:∀ b o u,H b=a_ (.frz o u)→H' b=a_ (.frz o u)) (tbls:∀ b ps,H b=a_ (.tbl ps)→∃ more,H' b=a_ (.tbl (ps ++ more)))
 (ns:∀ m,s.heap.Ns X.env.locals m→h'.Ns X.env.locals m) (hok:HOk X.prog X.w H' h') (hg:OC g') :
 Inv X f' σ H' { s with heap:=h',gens:=g',drawn:=d',toks:=t' }:=by
 have neL:∀ b o,X.s₀.heap.get? b=a_ o→b≠X.env.locals:=fun b o e=>K7 (H_ (t_ e) I.ok.above);have neC:∀ b o,X.s₀.heap.get? b=a_ o→b ∉ X.ex→b ∉ ch:=fun b o e hx hb=>by
  rcases (hch b hb).1 with z | z
  · exact hx z
  · exact absurd (H_ (t_ e) z) (Mc _)
 have cellK:∀ x c,X.env.cells.lookup x=a_ c→∀ v,s.heap.IsCell c v→h'.IsCell c v:=fun x c e v ⟨o,ho,hd⟩=>by
  have nch:c ∉ ch:=fun z=>(hch c z).2.2.1 x c e rfl;by_cases hc:c∈X.fs
  · obtain ⟨sl,q⟩:=slot c o (I.cne x c e) hc nch ho (I.freeC x c e);exact ⟨_,q,hd⟩
  · exact ⟨o,keep c o (I.cne x c e) hc nch ho (I.freeC x c e),hd⟩
 refine ⟨I.ok,I.os,hg,⟨fun b o e n hb hx=>?_,fun b o e n hb hx=>?_,fun b o e n hx=>?_,fun b o e hx=>?_,fun b xs e=>tups b xs (I.base.tups b xs e),fun b o xs e=>frzs b o xs (I.base.frzs b o xs e),fun b ps e=>?_⟩,?_,fun x c e=>?_,?_,fun x c e=>?_,fun p hp=>?_,hok,I.len⟩
 · exact keep b o (neL b o e) hb (neC b o e hx) (I.base.keep b o e n hb hx) (I.base.free b o e n hx)
 · obtain ⟨sl,e1⟩:=I.base.slot b o e n hb hx;obtain ⟨sl',e2⟩:=slot b _ (neL b o e) hb (neC b o e hx) e1 (I.base.free b o e n hx);exact ⟨sl',e2⟩
 · obtain ⟨o',e1⟩:=I.base.there b o e hx;exact free b o' (neC b o e hx) e1 (I.base.free b o e n hx)
 · obtain ⟨o',e1⟩:=I.base.there b o e hx;exact there b o' (neC b o e hx) e1
 · obtain ⟨m1,e1⟩:=I.base.tbls b ps e;obtain ⟨m2,e2⟩:=tbls b _ e1;exact ⟨m1 ++ m2,by rw [e2,OX]⟩
 · obtain ⟨m,hn,hl⟩:=I.loc;refine ⟨m,ns m hn,fun i x v e1 e2 e3=>?_⟩;obtain ⟨u,r,l⟩:=hl i x v e1 e2 e3;refine ⟨u,r,?_⟩;rcases l with l | ⟨k,c,e,z⟩
   · exact .inl l
   · exact .inr ⟨k,c,e,cellK x c e _ z⟩
 · obtain ⟨v,z⟩:=I.cell x c e;exact ⟨v,cellK x c e v z⟩
 · obtain ⟨m,⟨o,_,_,ho,_⟩,_⟩:=I.loc;exact free _ o (fun z=>(hch _ z).2.1 rfl) ho I.free
 · obtain ⟨v,o,ho,hd⟩:=I.cell x c e;exact free c o (fun z=>(hch c z).2.2.1 x c e rfl) ho (I.freeC x c e)
 · obtain ⟨e,n,ne,nf,d⟩:=I.pin p hp;have nch:p.1 ∉ ch:=fun z=>(hch p.1 z).2.2.2 p hp rfl;exact ⟨keep p.1 p.2 ne nf nch e n,free p.1 p.2 nch e n,ne,nf,d⟩
theorem Inv.un {t':Nat} (I:Inv X f' σ H s) (u:Un X.fs [] H H' s.heap h') (hok:HOk X.prog X.w H' h'):Inv X f' σ H' { s with heap:=h',toks:=t' }:=by
 obtain ⟨m,⟨o,es,ep,ho,r⟩,_⟩:=id I.loc;obtain ⟨sl,hL⟩:=u.any ho I.free (by simp);exact I.step (g':=s.gens) (d':=s.drawn) (ch:=[]) (fun _ z=>nomatch z) (fun b o _ hb _ e n=>u.keep b o e n hb (by simp)) (fun b o _ hb _ e n=>u.slot b o e n hb (by simp)) (fun b o _ e n=>u.free b o e n (by simp)) (fun b o _ e=>u.there b o e (by simp)) u.tups u.frzs u.tbls (fun m' hm=>by
  obtain ⟨o',es',ep',ho',r'⟩:=hm;rw [ho] at ho'; cases ho';exact ⟨_,es',ep',hL,r'⟩) hok I.bare
theorem Inv.call {g':Array OO} {t':Nat} {d':Drawn} {ch:List k_} (I:Inv X f' σ H s) (u:Un (frs X.stack) ch H H' s.heap h') (hok:HOk X.prog X.w H' h') (hg:OC g')
 (hch:∀ b∈ch,(b∈X.ex∨X.s₀.heap.objs.size≤b)∧b≠X.env.locals∧(∀ x c,X.env.cells.lookup x=a_ c→c≠b)∧∀ p∈X.pn ++ f',p.1≠b) :
 Inv X f' σ H' { s with heap:=h',gens:=g',drawn:=d',toks:=t' }:=by
 obtain ⟨m,⟨o,es,ep,ho,r⟩,_⟩:=id I.loc;obtain ⟨sl,hL⟩:=u.any ho I.free fun z=>(hch _ z).2.1 rfl;exact I.step (ch:=ch) hch (fun b o hL hb hc e n=>u.keep b o e n (fun z=>(rl.mp (I.stkSub b z)).elim hL hb) hc) (fun b o _ _ hc e n=>u.any e n hc) (fun b o hc e n=>u.free b o e n hc) (fun b o hc e=>u.there b o e hc) u.tups u.frzs u.tbls (fun m' hm=>by
  obtain ⟨o',es',ep',ho',r'⟩:=hm;rw [ho] at ho'; cases ho';exact ⟨_,es',ep',hL,r'⟩) hok hg
theorem Inv.turned {t':Nat} {it:k_} (I:Inv X f' σ H s) (k:∀ b o,b≠it→s.heap.get? b=a_ o→h'.get? b=a_ o) (hn:H it=ck) (hL:it≠X.env.locals)
 (h1:it∈X.ex∨X.s₀.heap.objs.size≤it) (h2:∀ x c,X.env.cells.lookup x=a_ c→c≠it) (h3:∀ p∈X.pn ++ f',p.1≠it):Inv X f' σ H { s with heap:=h',toks:=t' }:=by
 have nit:∀ b u,H b=a_ u→b≠it:=fun b u e z=>by rw [z,hn] at e; cases e
 refine I.step (g':=s.gens) (d':=s.drawn) (ch:=[it]) (fun b hb=>?_) (fun b o _ _ hc e _=>k b o (fun z=>hc (by simp [z])) e) (fun b o _ _ hc e _=>⟨o.slots,k b o (fun z=>hc (by simp [z])) e⟩) (fun _ _ _ _ n=>n)
  (fun b o hc e=>⟨o,k b o (fun z=>hc (by simp [z])) e⟩) (fun _ _ e=>e) (fun _ _ _ e=>e) (fun b ps e=>⟨#[],by rw [e]; simp⟩) (fun m hm=>?_) (fun b u e=>?_) I.bare
 · have e:b=it:=by simpa using hb
   subst e;exact ⟨h1,hL,h2,h3⟩
 · obtain ⟨o,es,ep,ho,r⟩:=hm;exact ⟨o,es,ep,k _ o (M8 hL) ho,r⟩
 · refine (I.hok b u e).stay (fun c v hc q=>k c v ?_ q) (fun _ q=>q) fun _ _ q=>q;rcases hc with z | z
   · rw [z]; exact nit b u e
   · exact nit c _ z
theorem Inv.tok (I:Inv X f' σ H s) (t:Nat):Inv X f' σ H { s with toks:=t }:=I.un (h':=s.heap) (t':=t) Un.refl I.hok
theorem Inv.kept {t':Nat} (I:Inv X f' σ H s) (k:∀ b u,s.heap.get? b=a_ u→h'.get? b=a_ u):Inv X f' σ H { s with heap:=h',toks:=t' }:=I.un (Un.kept k) (I.hok.kept k)
theorem Inv.laid {a:k_} {o:HO} {t':Nat} (I:Inv X f' σ H s) (k:∀ b u,s.heap.get? b=a_ u→h'.get? b=a_ u) (hp:s.heap.objs.size≤a) (new:ObjOk X.prog X.w (upd H a o) h' a o) :
 Inv X f' σ (upd H a o) { s with heap:=h',toks:=t' }:=I.un (Un.laid k hp (I.hok.fresh hp)) (I.hok.laid k hp new)
theorem Inv.write {x e:k_} {o:HO} {t':Nat} (I:Inv X f' σ H s) (mu:Mut (H x)) (he:e=x∨H e=a_ (.own x)) (k:∀ b u,b≠e→s.heap.get? b=a_ u→h'.get? b=a_ u) (heo:∃ u,h'.get? e=a_ u)
 (new:ObjOk X.prog X.w (upd H x o) h' x o):Inv X f' σ (upd H x o) { s with heap:=h',toks:=t' }:=I.un (Un.write mu he k heo) (I.hok.write mu he k heo new)
theorem Inv.pins_of {pins':List (k_×Obj)} (I:Inv X f' σ H s) (h:∀ p∈pins',s.heap.get? p.1=a_ p.2∧H p.1=ck∧p.1≠X.env.locals∧p.1 ∉ X.fs∧∀ v,p.2.data≠.cell v):Inv X pins' σ H s :=
 ⟨I.ok,I.os,I.bare,I.base,I.loc,I.cell,I.free,I.freeC,fun p hp=>(K8.mp hp).elim (fun z=>I.pin p (y_ _ z)) (h p),I.hok,I.len⟩
theorem lO {N:List Str} (hN:N.Nodup) {i j:Nat} {x:Str} (a:N[i]?=a_ x) (b:N[j]?=a_ x):i=j:=by
 obtain ⟨h1,e1⟩:=K2.mp a;obtain ⟨h2,e2⟩:=K2.mp b;exact (RC hN).mp (e1.trans e2.symm)
theorem sM {M:QF} {A:G_} {E:g_→h_→Prop} {i:Nat} {x:Str} {v:V} {u:g_} {Q:Unit→h_→Prop} (I:Inv X f' σ H s) (hN:X.N.Nodup) (hi:X.N[i]?=a_ x) (hx:Loc X.env.scope x) (r:RelV v u)
 (h:∀ s',Inv X f' (σ.set i (a_ v)) H s'→(∃ a,Nq a s.heap s'.heap∧(a=X.env.locals∨X.env.cells.lookup x=a_ a))→Q () s') (hf:X.fn x=c_∨X.env.scope.names.lookup x=a_ .local:=by first | exact .inl rfl | exact .inr rfl | assumption):w_ M A (storeName X.env x u) Q E s:=by
 obtain ⟨m,hn,hl⟩:=id I.loc;have hcls:(X.env.scope.kind == .class || (X.env.scope.kind == .module && X.env.locals != X.env.globals))=d_:=by rw [I.ok.kind]; rfl
 have hiσ:i < σ.length:=by rw [I.len]; exact (K2.mp hi).1
 have cne:=I.cne;have tracked:∀ {a:k_} {h':K5},(∃ o,s.heap.get? a=a_ o∧H a=ck)→Nq a s.heap h'→HOk X.prog X.w H h':=fun {a h'} ha hs b ob e=>by
  obtain ⟨_,_,hfree⟩:=ha;refine (I.hok b ob e).stay (fun c w' hc q=>(hs.2 c ?_).trans q) (fun _ q=>q) fun _ _ q=>q;rintro rfl;rcases hc with rfl | hc
  · rw [hfree] at e; cases e
  · rw [hfree] at hc; cases hc
 rcases hx with hk | hk
 · refine wpAny_storeName_local hk hn (fun h' hn' hs=>?_) hcls;obtain ⟨oL,_,_,hoL,_⟩:=id hn;refine h _ ⟨I.ok,I.os,I.bare,⟨fun b o e n hb hx=>?_,fun b o e n hb hx=>?_,I.base.free,fun b o e hx=>?_,I.base.tups,I.base.frzs,I.base.tbls⟩,⟨_,hn',fun j y v' e1 e2 e3=>?_⟩,fun y c e=>?_,I.free,I.freeC,fun p hp=>?_,tracked ⟨oL,hoL,I.free⟩ hs,by simpa using I.len⟩ ⟨_,hs,.inl rfl⟩
   · exact (hs.2 b (K7 (H_ (t_ e) I.ok.above))).trans (I.base.keep b o e n hb hx)
   · obtain ⟨sl,e1⟩:=I.base.slot b o e n hb hx;exact ⟨sl,(hs.2 b (K7 (H_ (t_ e) I.ok.above))).trans e1⟩
   · obtain ⟨o',e1⟩:=I.base.there b o e hx;exact ⟨o',(hs.2 b (K7 (H_ (t_ e) I.ok.above))).trans e1⟩
   · by_cases hj:j=i
     · subst hj;rw [hi] at e1; cases e1;rw [K1 hiσ] at e2;cases e2;exact ⟨u,r,.inl ⟨hk,by simp⟩⟩
     · rw [J_ (M8 hj)] at e2;obtain ⟨u',r',q⟩:=hl j y v' e1 e2 e3;refine ⟨u',r',?_⟩;rcases q with ⟨k,e⟩ | ⟨k,c,e,z⟩
       · refine .inl ⟨k,?_⟩;have:y≠x:=fun e=>hj (lO hN e1 (e ▸ hi));simp [this,e]
       · exact .inr ⟨k,c,e,z.sameBut hs (cne y c e)⟩
   · obtain ⟨w',z⟩:=I.cell y c e;exact ⟨w',z.sameBut hs (cne y c e)⟩
   · obtain ⟨e,n,ne,nf,d⟩:=I.pin p hp;exact ⟨(hs.2 p.1 ne).trans e,n,ne,nf,d⟩
 · have hfn:X.fn x=c_:=by
    rcases hf with z | z
    · exact z
    · rw [z] at hk; cases hk
   obtain ⟨c,hc⟩:=I.ok.has x (.inl hk);obtain ⟨w',z⟩:=I.cell x c hc;refine wpAny_storeName_cell I.ok.kind hk hc z (fun h' hc' hs=>?_);obtain ⟨oc,hoc,hocd⟩:=id z;refine h { s with heap:=h' } ⟨I.ok,I.os,I.bare,⟨fun b o e n hb hx=>?_,fun b o e n hb hx=>?_,I.base.free,fun b o e hx=>?_,I.base.tups,I.base.frzs,I.base.tbls⟩,⟨m,hn.sameBut hs (M8 (cne x c hc)),fun j y v' e1 e2 e3=>?_⟩,fun y c' e=>?_,I.free,I.freeC,fun p hp=>?_,tracked ⟨oc,hoc,I.freeC x c hc⟩ hs,by simpa using I.len⟩ ⟨c,hs,.inr hc⟩
   · exact (hs.2 b (K7 (H_ (t_ e) (I.ok.cab x c hfn hc)))).trans (I.base.keep b o e n hb hx)
   · obtain ⟨sl,e1⟩:=I.base.slot b o e n hb hx;exact ⟨sl,(hs.2 b (K7 (H_ (t_ e) (I.ok.cab x c hfn hc)))).trans e1⟩
   · obtain ⟨o',e1⟩:=I.base.there b o e hx;exact ⟨o',(hs.2 b (K7 (H_ (t_ e) (I.ok.cab x c hfn hc)))).trans e1⟩
   · by_cases hj:j=i
     · subst hj;rw [hi] at e1; cases e1;rw [K1 hiσ] at e2;cases e2;exact ⟨u,r,.inr ⟨.inl hk,c,hc,hc'⟩⟩
     · rw [J_ (M8 hj)] at e2;obtain ⟨u',r',q⟩:=hl j y v' e1 e2 e3;refine ⟨u',r',?_⟩;rcases q with q | ⟨k,c',e,z'⟩
       · exact .inl q
       · refine .inr ⟨k,c',e,z'.sameBut hs ?_⟩;rintro rfl;exact hj (lO hN e1 (I.ok.inj _ _ _ e hc ▸ hi))
   · by_cases hcc:c'=c
     · subst hcc; exact ⟨_,hc'⟩
     · obtain ⟨w2,z2⟩:=I.cell y c' e;exact ⟨w2,z2.sameBut hs hcc⟩
   · obtain ⟨e,n,ne,nf,d⟩:=I.pin p hp;refine ⟨(hs.2 p.1 ?_).trans e,n,ne,nf,d⟩;intro q;rw [q,hoc] at e;have q':oc=p.2:=Lc e;exact d w' (by rw [← q']; exact hocd)
theorem j5 {M:QF} {A:G_} {E:g_→h_→Prop} {i:Nat} {x:Str} {v:V} {u:g_} {Q:Unit→h_→Prop} (I:Inv X f' σ H s) (hN:X.N.Nodup) (hi:X.N[i]?=a_ x) (hx:Loc X.env.scope x) (r:RelV v u)
 (h:∀ s',Inv X f' (σ.set i (a_ v)) H s'→Q () s') (hf:X.fn x=c_∨X.env.scope.names.lookup x=a_ .local:=by first | exact .inl rfl | exact .inr rfl | assumption):w_ M A (storeName X.env x u) Q E s :=
 sM I hN hi hx r (fun s' I' _=>h s' I') hf
theorem Inv.call' {s':h_} {ch:List k_} (I:Inv X f' σ H s) (ho:s'.os=s.os) (u:Un (frs X.stack) ch H H' s.heap s'.heap) (hok:HOk X.prog X.w H' s'.heap) (hg:OC s'.gens)
 (hch:∀ b∈ch,(b∈X.ex∨X.s₀.heap.objs.size≤b)∧b≠X.env.locals∧(∀ x c,X.env.cells.lookup x=a_ c→c≠b)∧∀ p∈X.pn ++ f',p.1≠b):Inv X f' σ H' s':=by
 obtain ⟨h',g',d',t',o'⟩:=s';have e:o'=s.os:=ho;subst e;exact I.call (g':=g') (t':=t') (d':=d') u hok hg hch
end
abbrev XK:=g_→Option k_→Hp→Prop
abbrev St:=List (Option V)
abbrev VK:=V→Hp→Prop
abbrev TE:=St→Hp→VK→Prop
abbrev TT:=St→Hp→(Bool→Hp→Prop)→Prop
abbrev TA:=St→Hp→(List V→Hp→Prop)→Prop
structure sy where
 nx:St→Hp→Prop
 rt:VK
 bk:St→Hp→Prop:=fun _ _=>False
 ct:St→Hp→Prop:=fun _ _=>False
abbrev TS:=sy→St→Hp→Prop
def EP (X:Cx) (f':List (k_×Obj)) (σ:St) (Q:VK) (u:g_) (s':h_):Prop:=∃ v H',Inv X f' σ H' s'∧RelV v u∧Q v H'
def TP (X:Cx) (f':List (k_×Obj)) (σ:St) (Q:Bool→Hp→Prop) (b:Bool) (s':h_):Prop:=∃ H',Inv X f' σ H' s'∧Q b H'
def AP (X:Cx) (f':List (k_×Obj)) (σ:St) (Q:List V→Hp→Prop) (us:List g_) (s':h_):Prop:=∃ vs H',Inv X f' σ H' s'∧Vals vs us∧Q vs H'
def SP (X:Cx) (f':List (k_×Obj)) (D:sy) (f:Flow) (s':h_):Prop :=
 match f with
 | .next=>∃ σ' H',Inv X f' σ' H' s'∧D.nx σ' H'
 | .brk=>∃ σ' H',Inv X f' σ' H' s'∧D.bk σ' H'
 | .cont=>∃ σ' H',Inv X f' σ' H' s'∧D.ct σ' H'
 | .ret u=>∃ v σ' H',Inv X f' σ' H' s'∧RelV v u∧D.rt v H'
def PE (X:Cx) (e:F_) (t:TE):Prop :=
 ∀ (f':List (k_×Obj)) (s:h_) (σ:St) (H:Hp) (Q:VK),Inv X f' σ H s→t σ H Q→w_ (z_ X.prog X.w) X.A (eval e X.env) (EP X f' σ Q) X.xe s
def PT (X:Cx) (e:F_) (t:TT):Prop :=
 ∀ (f':List (k_×Obj)) (s:h_) (σ:St) (H:Hp) (Q:Bool→Hp→Prop),Inv X f' σ H s→t σ H Q→w_ (z_ X.prog X.w) X.A (isTrue e X.env (eval e X.env)) (TP X f' σ Q) X.xe s
def PW (X:Cx) (e:F_) (t:TT):Prop :=
 ∀ (whole:Sem g_) (f':List (k_×Obj)) (s:h_) (σ:St) (H:Hp) (Q:Bool→Hp→Prop),Inv X f' σ H s→t σ H Q→w_ (z_ X.prog X.w) X.A (isTrue e X.env whole) (TP X f' σ Q) X.xe s
theorem PW.pt {X:Cx} {e:F_} {t:TT} (h:PW X e t):PT X e t:=h _
def PA (X:Cx) (es:List F_) (t:TA):Prop :=
 ∀ (pos:Pos) (f':List (k_×Obj)) (s:h_) (σ:St) (H:Hp) (Q:List V→Hp→Prop),Inv X f' σ H s→t σ H Q→w_ (z_ X.prog X.w) X.A (spliced (Lr pos (i_ es X.env))) (AP X f' σ Q) X.xe s
def PS (X:Cx) (st:LY) (t:TS):Prop :=
 ∀ (f':List (k_×Obj)) (s:h_) (σ:St) (H:Hp) (D:sy),Inv X f' σ H s→t D σ H→w_ (z_ X.prog X.w) X.A (exec st X.env) (SP X f' D) X.xe s
def PSs (X:Cx) (st:List LY) (t:TS):Prop :=
 ∀ (f':List (k_×Obj)) (s:h_) (σ:St) (H:Hp) (D:sy),Inv X f' σ H s→t D σ H→w_ (z_ X.prog X.w) X.A (execs st X.env) (SP X f' D) X.xe s
theorem thn {α:Type} {t:Sem α} {Q Q':α→h_→Prop} {M:QF} {A:G_} {E:g_→h_→Prop} {s:h_} (h:w_ M A t Q E s) (hQ:∀ a s,Q a s→Q' a s):w_ M A t Q' E s:=LD h hQ fun _ _ x=>x
section
variable {X:Cx}
def zo (i:Nat):TE:=fun σ H Q=>∃ v,σ[i]?=a_ (a_ v)∧Q v H
def tC (v:V):TE:=fun _ H Q=>Q v H
theorem sN {i:Nat} {x:Str} {pos:Pos} (hN:X.N[i]?=a_ x) (hv:Vis X.env.scope x) (hd:(x == ("__debug__":Str))=d_:=by decide) (hcd:(x == ("__classdict__":Str))=d_:=by decide):PE X (.Name x pos) (zo i):=by
 intro f' s σ H Q I h;obtain ⟨v,e,h⟩:=h;obtain ⟨m,hn,hl⟩:=I.loc;obtain ⟨u,r,l⟩:=hl i x v hN e hv;have fin:EP X f' σ Q u s:=⟨v,H,I,r,h⟩;rcases l with ⟨hk,hm⟩ | ⟨hk,c,hc,hcell⟩
 · exact wpAny_Name (wpAny_loadName_local I.ok.kind hk hn hm fin) hd
 · rcases hk with hk | hk
   · exact wpAny_Name (wpAny_loadName_cell I.ok.kind hk hc hcell fin) hd
   · exact wpAny_Name (wpAny_loadName_free I.ok.kind hk hc hcell fin hcd) hd
theorem B0 {i j pos}:PE X (.Constant (.int i) j pos) (tC (.int i)):=fun _ _ _ H _ I h=>wpAny_Constant_int ⟨.int i,H,I.tok _,⟨_,rfl⟩,h⟩
theorem GG {b j pos}:PE X (.Constant (.bool b) j pos) (tC (.bl b)):=fun _ _ _ H _ I h=>Constant_bool ⟨.bl b,H,I,rfl,h⟩
theorem B1 {j pos}:PE X (.Constant .none j pos) (tC .non):=fun _ _ _ H _ I h=>Constant_none ⟨.non,H,I,rfl,h⟩
theorem B2 {x j pos}:PE X (.Constant (.str x) j pos) (tC (.str x)):=fun _ _ _ H _ I h=>Calls.Constant_str ⟨.str x,H,I.tok _,⟨_,rfl⟩,h⟩
def Gl (X:Cx) (x:Str):Prop:=X.env.kindOf x=a_ .globalImplicit
theorem ke {E:g_→h_→Prop} {f':List (k_×Obj)} {s:h_} {σ:St} {H:Hp} {x:Str} {u:g_} {pos:Pos} {Q:g_→h_→Prop} (I:Inv X f' σ H s) (hg:Gl X x) (hm:X.mg x=a_ u) (h:Q u s)
 (hd:(x == ("__debug__":Str))=d_:=by decide):w_ (z_ X.prog X.w) X.A (eval (.Name x pos) X.env) Q E s :=
 OR I.ok.kind hg (Calls.loadGlobal_global (by rw [I.ok.glob]; exact I.mod.glob.keeps I.bk) hm h) hd
theorem iR {E:g_→h_→Prop} {f':List (k_×Obj)} {s:h_} {σ:St} {H:Hp} {x:Str} {u:g_} {pos:Pos} {Q:g_→h_→Prop} (I:Inv X f' σ H s) (hg:Gl X x) (hm:X.mg x=ck) (hv:LJ x=a_ u) (h:Q u s)
 (hn:x≠"__name__":=by decide) (hd:(x == ("__debug__":Str))=d_:=by decide):w_ (z_ X.prog X.w) X.A (eval (.Name x pos) X.env) Q E s:=by
 obtain ⟨mb,h1,h2⟩:=I.mod.blt;exact OR I.ok.kind hg (Calls.loadGlobal_builtin (by rw [I.ok.glob]; exact I.mod.glob.keeps I.bk) hm (by rw [I.ok.blt]; exact h1.keeps I.bk) ((h2 x hn).trans hv) h) hd
theorem o4 {x:Str} {v:V} {u:g_} {pos:Pos} (hg:Gl X x) (hm:X.mg x=a_ u) (r:RelV v u) (hd:(x == ("__debug__":Str))=d_:=by decide):PE X (.Name x pos) (tC v) :=
 fun _ _ _ H _ I h=>ke I hg hm ⟨v,H,I,r,h⟩ hd
theorem sO {x:Str} {v:V} {u:g_} {pos:Pos} (hg:Gl X x) (hm:X.mg x=ck) (hv:LJ x=a_ u) (r:RelV v u) (hn:x≠"__name__":=by decide) (hd:(x == ("__debug__":Str))=d_:=by decide):PE X (.Name x pos) (tC v) :=
 fun _ _ _ H _ I h=>iR I hg hm hv ⟨v,H,I,r,h⟩ hn hd
variable {a b:F_} {ta tb:TE} {pos:Pos}
def tB (t:TE):TT:=fun σ H Q=>t σ H fun x H1=>∃ c,x=.bl c∧Q c H1
theorem B3 {e:F_} {t:TE} (h:PE X e t) (he:∀ whole,isTrue e X.env whole=(do let v ← whole; RU e.pos; Nn [v] (truthy v)):=by intro _; rfl):PT X e (tB t):=by
 intro f' s σ H Q I hw;refine isTrue_plain (thn (h f' s σ H _ I hw) fun v s1 ⟨x,H1,I1,r1,q1⟩=>?_) (he _);obtain ⟨d,rfl,q⟩:=q1;cases r1;exact Ms ⟨H1,I1,q⟩
variable {tA tB':TT} {rest:List F_}
def JJ (t u:TT):TT:=fun σ H Q=>t σ H fun c H1=>if c=c_ then u σ H1 Q else Q d_ H1
def tOr (t u:TT):TT:=fun σ H Q=>t σ H fun c H1=>if c=c_ then Q c_ H1 else u σ H1 Q
def JK (t:TT):TT:=fun σ H Q=>t σ H fun c H1=>Q (!c) H1
theorem zp (ha:PT X a tA):PW X (.BoolOp .And [a] pos) tA:=by
 intro wh f' s σ H Q I h;refine isTrue_and (thn (ha f' s σ H Q I h) fun c s1 e=>?_);cases c with
 | true=>exact isTrue_and_nil e
 | false=>exact e
theorem B4 (ha:PT X a tA):PW X (.BoolOp .Or [a] pos) tA:=by
 intro wh f' s σ H Q I h;refine isTrue_or (thn (ha f' s σ H Q I h) fun c s1 e=>?_);cases c with
 | false=>exact isTrue_or_nil e
 | true=>exact e
theorem B5 (ha:PT X a tA) (hb:PW X (.BoolOp .And (b :: rest) pos) tB'):PW X (.BoolOp .And (a :: b :: rest) pos) (JJ tA tB'):=by
 intro wh f' s σ H Q I h;refine isTrue_and (thn (ha f' s σ H _ I h) fun c s1 ⟨H1,I1,q1⟩=>?_);cases c with
 | true=>exact hb wh f' s1 σ H1 Q I1 q1
 | false=>exact ⟨H1,I1,q1⟩
theorem GH (ha:PT X a tA) (hb:PW X (.BoolOp .Or (b :: rest) pos) tB'):PW X (.BoolOp .Or (a :: b :: rest) pos) (tOr tA tB'):=by
 intro wh f' s σ H Q I h;refine isTrue_or (thn (ha f' s σ H _ I h) fun c s1 ⟨H1,I1,q1⟩=>?_);cases c with
 | true=>exact ⟨H1,I1,q1⟩
 | false=>exact hb wh f' s1 σ H1 Q I1 q1
theorem B6 (ha:PT X a tA):PT X (.UnaryOp .Not a pos) (JK tA):=by
 intro f' s σ H Q I h;exact isTrue_not (ha f' s σ H (fun c H1=>Q (!c) H1) I h)
def GI (ta tb:TE):TE:=fun σ H Q=>ta σ H fun x H1=>∃ c,x=.bl c∧if c=c_ then tb σ H1 Q else Q (.bl d_) H1
def JL (ta tb:TE):TE:=fun σ H Q=>ta σ H fun x H1=>∃ c,x=.bl c∧if c=c_ then Q (.bl c_) H1 else tb σ H1 Q
def GJ (ta:TE):TE:=fun σ H Q=>ta σ H fun x H1=>∃ c,x=.bl c∧Q (.bl (!c)) H1
theorem B7 {op} {t:TE} (h:PE X a t):PE X (.BoolOp op [a] pos) t:=fun f' s σ H Q I hw=>BoolOp_one (h f' s σ H Q I hw)
theorem B8 (ha:PE X a ta) (hb:PE X (.BoolOp .And (b :: rest) pos) tb):PE X (.BoolOp .And (a :: b :: rest) pos) (GI ta tb):=by
 intro f' s σ H Q I h;refine BoolOp_and (thn (ha f' s σ H _ I h) fun v s1 ⟨x,H1,I1,r1,q1⟩=>?_);obtain ⟨c,rfl,q1⟩:=q1;cases r1;refine Ms ?_;cases c with
 | true=>exact hb f' s1 σ H1 Q I1 q1
 | false=>exact ⟨.bl d_,H1,I1,rfl,q1⟩
theorem GK (ha:PE X a ta) (hb:PE X (.BoolOp .Or (b :: rest) pos) tb):PE X (.BoolOp .Or (a :: b :: rest) pos) (JL ta tb):=by
 intro f' s σ H Q I h;refine BoolOp_or (thn (ha f' s σ H _ I h) fun v s1 ⟨x,H1,I1,r1,q1⟩=>?_);obtain ⟨c,rfl,q1⟩:=q1;cases r1;refine Ms ?_;cases c with
 | false=>exact hb f' s1 σ H1 Q I1 q1
 | true=>exact ⟨.bl c_,H1,I1,rfl,q1⟩
theorem B9 (ha:PE X a ta):PE X (.UnaryOp .Not a pos) (GJ ta):=by
 intro f' s σ H Q I h;refine UnaryOp_ (thn (ha f' s σ H _ I h) fun v s1 ⟨x,H1,I1,r1,q1⟩=>?_);obtain ⟨c,rfl,q1⟩:=q1;cases r1;exact not_of (Ms ⟨.bl (!c),H1,I1,rfl,q1⟩)
def tIf (t:TT) (ta tb:TE):TE:=fun σ H Q=>t σ H fun c H1=>if c=c_ then ta σ H1 Q else tb σ H1 Q
theorem wp {c:F_} (hc:PT X c tA) (ha:PE X a ta) (hb:PE X b tb):PE X (.IfExp c a b pos) (tIf tA ta tb):=by
 intro f' s σ H Q I h;refine wpAny_IfExp (thn (hc f' s σ H _ I h) fun d s1 ⟨H1,I1,q1⟩=>?_);cases d with
 | true=>exact ha f' s1 σ H1 Q I1 q1
 | false=>exact hb f' s1 σ H1 Q I1 q1
end
def SqL (K:e_) (H:Hp) (a:k_) (xs:List V):Prop :=
 Rd H a (.lst xs) ∨
  ∃ (o:Obj) (its:Array g_) (n:Nat),K.lookup a=a_ o∧o.cls=.type "list"∧o.dict=ck∧o.data=.seq its n∧its.size≤sizeLine∧Vals xs its.toList
def SqT (K:e_) (H:Hp) (a:k_) (xs:List V):Prop :=
 Rd H a (.tup xs) ∨
  ∃ (o:Obj) (its:Array g_) (n:Nat),K.lookup a=a_ o∧o.cls=.type "tuple"∧o.data=.seq its n∧its.size≤sizeLine∧Vals xs its.toList
def JM:g_→Option V
 | .none=>a_ .non
 | .bool b=>a_ (.bl b)
 | .int i _=>a_ (.int i)
 | .str x _=>a_ (.str x)
 | .bytes b _=>a_ (.byt b)
 | .float b _=>a_ (.flt b)
 | .ref a=>a_ (.ref a)
 | .type n=>a_ (.ty n)
 | _=>ck
theorem RelV.abs {x:V} {u:g_} (r:RelV x u):JM u=a_ x:=by
 cases x with
 | non=>cases r; rfl
 | bl _=>cases r; rfl
 | int _=>obtain ⟨t,rfl⟩:=r; rfl
 | str _=>obtain ⟨t,rfl⟩:=r; rfl
 | byt _=>obtain ⟨t,rfl⟩:=r; rfl
 | flt _=>obtain ⟨t,rfl⟩:=r; rfl
 | ref _=>cases r; rfl
 | ty _=>cases r; rfl
theorem RelV.inj {x y:V} {u:g_} (r:RelV x u) (q:RelV y u):x=y:=Lc (r.abs.symm.trans q.abs)
theorem Vals.inj:∀ {xs ys:List V} {us:List g_},Vals xs us→Vals ys us→xs=ys
 | _,_,_,.nil,.nil=>rfl
 | _,_,_,.cons r t,.cons r' t'=>by rw [r.inj r',Vals.inj t t']
section
variable {X:Cx} {f':List (k_×Obj)} {σ:St} {H:Hp} {s:h_} {a:k_} {xs ys:List V}
theorem SqL.of {K:e_} (h:H a=a_ (.lst xs)):SqL K H a xs:=.inl (.inl h)
theorem SqT.of {K:e_} (h:H a=a_ (.tup xs)):SqT K H a xs:=.inl (.inl h)
theorem Inv.list (I:Inv X f' σ H s) (h:SqL X.K H a xs):∃ its:List g_,Vals xs its∧PlainL s.heap a its.toArray∧xs.length≤sizeLine:=by
 rcases h with h | ⟨o,its,n,hk,hc,hd,hs,hz,r⟩
 · obtain ⟨z,its,n,r,e⟩:=h.ok I.hok;exact ⟨its,r,⟨_,n,e,rfl,rfl,rfl⟩,z⟩
 · refine ⟨its.toList,r,⟨o,n,I.kIn a o hk,hc,hd,by simpa using hs⟩,?_⟩;have e:=r.length;simp only [Lf] at e;omega
theorem Inv.tuple (I:Inv X f' σ H s) (h:SqT X.K H a xs):∃ its:List g_,Vals xs its∧Sa s.heap a its.toArray∧xs.length≤sizeLine:=by
 rcases h with h | ⟨o,its,n,hk,hc,hs,hz,r⟩
 · obtain ⟨z,its,r,p⟩:=h.ok I.hok;exact ⟨its,r,p,z⟩
 · refine ⟨its.toList,r,⟨o,I.kIn a o hk,hc,n,by simpa using hs⟩,?_⟩;have e:=r.length;simp only [Lf] at e;omega
theorem Inv.list_inj (I:Inv X f' σ H s) (h:SqL X.K H a xs) (h':SqL X.K H a ys):xs=ys:=by
 obtain ⟨its,r,⟨o,n,e,_,_,d⟩,_⟩:=I.list h;obtain ⟨its',r',⟨o',n',e',_,_,d'⟩,_⟩:=I.list h';rw [e] at e'; cases e';rw [d] at d';injection d' with d1 _;have:its=its':=by simpa using congrArg Array.toList d1
 subst this;exact r.inj r'
theorem Inv.tuple_inj (I:Inv X f' σ H s) (h:SqT X.K H a xs) (h':SqT X.K H a ys):xs=ys:=by
 obtain ⟨its,r,⟨o,e,_,n,d⟩,_⟩:=I.tuple h;obtain ⟨its',r',⟨o',e',_,n',d'⟩,_⟩:=I.tuple h';rw [e] at e'; cases e';rw [d] at d';injection d' with d1 _;have:its=its':=by simpa using congrArg Array.toList d1
 subst this;exact r.inj r'
end
abbrev Cx.wish (X:Cx) (E:g_→h_→Prop):Cx:={ X with xe:=E }
abbrev Cx.nox (X:Cx):Cx:=X.wish fun _ _=>False
theorem Cx.Ok.wish {X:Cx} (ok:X.Ok) (E:g_→h_→Prop):(X.wish E).Ok :=
 ⟨ok.mod,ok.kind,ok.glob,ok.blt,ok.above,ok.inj,ok.has,ok.cab,ok.hd,ok.frames,ok.stk,ok.exf,ok.bs,ok.bsz,ok.noex,ok.exfs,ok.funs,ok.frf⟩
theorem Cx.Ok.unwish {X:Cx} {E:g_→h_→Prop} (ok:(X.wish E).Ok):X.Ok :=
 ⟨ok.mod,ok.kind,ok.glob,ok.blt,ok.above,ok.inj,ok.has,ok.cab,ok.hd,ok.frames,ok.stk,ok.exf,ok.bs,ok.bsz,ok.noex,ok.exfs,ok.funs,ok.frf⟩
section
variable {X:Cx} {f':List (k_×Obj)} {σ:St} {H:Hp} {s:h_} {E:g_→h_→Prop}
theorem Inv.wish (I:Inv X f' σ H s) (E:g_→h_→Prop):Inv (X.wish E) f' σ H s:=⟨I.ok.wish E,I.os,I.bare,I.base,I.loc,I.cell,I.free,I.freeC,I.pin,I.hok,I.len⟩
theorem Inv.unwish (I:Inv (X.wish E) f' σ H s):Inv X f' σ H s:=⟨I.ok.unwish,I.os,I.bare,I.base,I.loc,I.cell,I.free,I.freeC,I.pin,I.hok,I.len⟩
theorem SP.unwish {D:sy} {f:Flow} {s':h_} (h:SP (X.wish E) f' D f s'):SP X f' D f s':=by
 cases f with
 | next=>obtain ⟨σ',H',I,q⟩:=h; exact ⟨σ',H',I.unwish,q⟩
 | brk=>obtain ⟨σ',H',I,q⟩:=h; exact ⟨σ',H',I.unwish,q⟩
 | cont=>obtain ⟨σ',H',I,q⟩:=h; exact ⟨σ',H',I.unwish,q⟩
 | ret u=>obtain ⟨v,σ',H',I,r,q⟩:=h; exact ⟨v,σ',H',I.unwish,r,q⟩
theorem PE.nox {e:F_} {t:TE} (h:PE X.nox e t):PE X e t:=fun f' s σ H Q I hw =>
 LD (h f' s σ H Q (I.wish _) hw) (fun _ _ ⟨v,H',I',r,q⟩=>⟨v,H',I'.unwish,r,q⟩) fun _ _ z=>Li z
theorem PT.nox {e:F_} {t:TT} (h:PT X.nox e t):PT X e t:=fun f' s σ H Q I hw =>
 LD (h f' s σ H Q (I.wish _) hw) (fun _ _ ⟨H',I',q⟩=>⟨H',I'.unwish,q⟩) fun _ _ z=>Li z
theorem PSs.nox {st:List LY} {t:TS} (h:PSs X.nox st t):PSs X st t:=fun f' s σ H D I hw =>
 LD (h f' s σ H D (I.wish _) hw) (fun _ _ q=>q.unwish) fun _ _ z=>Li z
end
section
variable {X:Cx} {st:LY} {rest:List LY} {t u:TS} {e:F_} {te:TE} {pos:Pos}
def GL:TS:=fun D σ H=>D.nx σ H
def JN (t u:TS):TS:=fun D σ H=>t { D with nx:=u D } σ H
theorem sP:PSs X [] GL:=fun _ _ σ H _ I h=>PN ⟨σ,H,I,h⟩
theorem j6 (h1:PS X st t) (h2:PSs X rest u):PSs X (st :: rest) (JN t u):=by
 intro f' s σ H D I h;refine wpAny_execs_cons (thn (h1 f' s σ H { D with nx:=u D } I h) fun f s1 q=>?_);cases f with
 | next =>
  obtain ⟨σ',H',I',q⟩:=q;exact h2 f' s1 σ' H' D I' q
 | ret v=>exact q
 | brk=>exact q
 | cont=>exact q
theorem sQ (h1:PS X st t):PSs X [st] t:=by
 intro f' s σ H D I h;refine wpAny_execs_cons (thn (h1 f' s σ H D I h) fun f s1 q=>?_);cases f with
 | next=>exact PN q
 | ret v=>exact q
 | brk=>exact q
 | cont=>exact q
theorem Inv.quiet {f':List (k_×Obj)} {σ:St} {H:Hp} {s:h_} (I:Inv X f' σ H s):interactive X.env=d_:=by simp [interactive,I.ok.kind]
def GM (te:TE):TS:=fun D σ H=>te σ H fun _ H1=>D.nx σ H1
theorem sS (he:PE X e te) (hs:Mg e ck pos.line X.env=pure d_:=by rfl):PS X (.Expr e pos) (GM te):=by
 intro f' s σ H D I h;exact wpAny_Expr_any (thn (he f' s σ H _ I h) fun v s1 ⟨x,H1,I1,r1,q1⟩=>⟨σ,H1,I1,q1⟩) I.quiet hs
def JO (te:TE):TS:=fun D σ H=>te σ H D.rt
theorem yp (he:PE X e te):PS X (.Return (a_ e) pos) (JO te):=by
 intro f' s σ H D I h;exact wpAny_Return_some (thn (he f' s σ H _ I h) fun v s1 ⟨x,H1,I1,r1,q1⟩=>⟨x,σ,H1,I1,r1,q1⟩)
def JP (c:TT) (t u:TS):TS:=fun D σ H=>c σ H fun b H1=>if b=c_ then t D σ H1 else u D σ H1
theorem zq {c:F_} {a b:List LY} {tc:TT} (hc:PT X c tc) (ha:PSs X a t) (hb:PSs X b u):PS X (.If c a b pos) (JP tc t u):=by
 intro f' s σ H D I h;refine wpAny_If (thn (hc f' s σ H _ I h) fun d s1 ⟨H1,I1,q1⟩=>?_);cases d with
 | true=>exact ha f' s1 σ H1 D I1 q1
 | false=>exact hb f' s1 σ H1 D I1 q1
end
abbrev TG:=V→St→Hp→(St→Hp→Prop)→Prop
abbrev TGs:=List V→St→Hp→(St→Hp→Prop)→Prop
def PG (X:Cx) (target:F_) (t:TG):Prop :=
 ∀ (f':List (k_×Obj)) (s:h_) (σ:St) (H:Hp) (v:V) (u:g_) (Q:St→Hp→Prop),Inv X f' σ H s→RelV v u→t v σ H Q →
  w_ (z_ X.prog X.w) X.A (MN target X.env u) (fun _ s'=>∃ σ' H',Inv X f' σ' H' s'∧Q σ' H') X.xe s
def PGs (X:Cx) (ts:List F_) (t:TGs):Prop :=
 ∀ (f':List (k_×Obj)) (s:h_) (σ:St) (H:Hp) (vs:List V) (us:List g_) (Q:St→Hp→Prop),Inv X f' σ H s→Vals vs us→t vs σ H Q →
  w_ (z_ X.prog X.w) X.A (assignInOrder ((K4 ts X.env).map (·.2)) us) (fun _ s'=>∃ σ' H',Inv X f' σ' H' s'∧Q σ' H') X.xe s
abbrev GN:=V→V→V→Hp→(Hp→Prop)→Prop
def IU (X:Cx) (t:GN):Prop :=
 ∀ (f':List (k_×Obj)) (s:h_) (σ:St) (H:Hp) (o i v:V) (ov iv u:g_) (Q:Hp→Prop),Inv X f' σ H s→RelV o ov→RelV i iv→RelV v u→t o i v H Q →
  w_ (z_ X.prog X.w) X.A (setItem ov iv u) (fun _ s'=>∃ H',Inv X f' σ H' s'∧Q H') X.xe s
section
variable {X:Cx} {pos:Pos}
def wq (i:Nat):TG:=fun v σ H Q=>Q (σ.set i (a_ v)) H
theorem iz {i:Nat} {x:Str} (hN:X.N.Nodup) (hi:X.N[i]?=a_ x) (hx:Loc X.env.scope x) (hf:X.fn x=c_∨X.env.scope.names.lookup x=a_ .local:=by first | exact .inl rfl | exact .inr rfl | assumption):PG X (.Name x pos) (wq i):=by
 intro f' s σ H v u Q I r h;exact wpAny_assign_Name (j5 I hN hi hx r (fun s' I'=>⟨_,H,I',h⟩) hf)
def JQ:TGs:=fun vs σ H Q=>vs=[]∧Q σ H
def GO (t:TG) (u:TGs):TGs:=fun vs σ H Q=>∃ v r,vs=v :: r∧t v σ H fun σ' H'=>u r σ' H' Q
theorem sU:PGs X [] JQ:=by
 intro f' s σ H vs us Q I r h;obtain ⟨e,h⟩:=h;subst e;cases r;exact assignInOrder_nil ⟨σ,H,I,h⟩
theorem lP {e:F_} {es:List F_} {t:TG} {u:TGs} (h1:PG X e t) (h2:PGs X es u)
 (hs:(K4 (e :: es) X.env).map (·.2)=MN e X.env :: (K4 es X.env).map (·.2):=by rfl):PGs X (e :: es) (GO t u):=by
 intro f' s σ H vs us Q I r h;obtain ⟨v,vr,e1,h⟩:=h;subst e1;cases r with
 | cons r rr =>
  rw [hs];refine assignInOrder_cons (thn (h1 f' s σ H _ _ _ I r h) fun _ s1 ⟨σ1,H1,I1,q1⟩=>?_);exact h2 f' s1 σ1 H1 _ _ Q I1 rr q1
def JR (K:e_) (n:Nat) (t:TGs):TG:=fun v σ H Q=>∃ a xs,v=.ref a∧SqT K H a xs∧xs.length=n∧t xs σ H Q
theorem yq {es:List F_} {k:Nat} {t:TGs} {n:Nat} (hc:X.calm=c_) (h:PGs X es t)
 (hn:(K4 es X.env).length=n:=by rfl) (hst:(K4 es X.env).findIdx? (·.1)=ck:=by rfl):PG X (.Tuple es k pos) (JR X.K n t):=by
 intro f' s σ H v u Q I r hw;obtain ⟨a,xs,e1,hq,hl,hw⟩:=hw;subst e1;cases r;obtain ⟨its,rv,ht,hz⟩:=I.tuple hq;refine assign_Tuple_tuple (I.ok.hd hc) ht (by simp [hn,← hl,rv.length]) hst fun h' hx=>?_;have I1:Inv X f' σ H { s with heap:=h' }:=I.kept (t':=s.toks) fun b o e=>hx b o (K7 (t_ e)) e;exact h f' _ σ H xs _ Q I1 (by simpa using rv) hw
def JT (to ti:TE) (t:GN):TG:=fun v σ H Q=>to σ H fun o H1=>ti σ H1 fun i H2=>t o i v H2 fun H3=>Q σ H3
theorem yr {o i:F_} {to ti:TE} {t:GN} (ho:PE X o to) (hi:PE X i ti) (hs:IU X t)
 (ha:∀ v,MN (.Subscript o i pos) X.env v=(do
   let ov ← Nn [v] (eval o X.env)
   let iv ← Nn [v,ov] (eval i X.env)
   RU pos
   Nn [v,ov,iv] (setItem ov iv v)
   release [v,ov,iv] []):=by intro _; rfl):PG X (.Subscript o i pos) (JT to ti t):=by
 intro f' s σ H v u Q I r h;rw [ha];refine f_ (LH (thn (ho f' s σ H _ I h) fun ov s1 ⟨x,H1,I1,r1,q1⟩=>?_));refine f_ (LH (thn (hi f' s1 σ H1 _ I1 q1) fun iv s2 ⟨y,H2,I2,r2,q2⟩=>?_));refine f_ (Qz (f_ (LH (thn (hs f' s2 σ H2 x y v ov iv u _ I2 r1 r2 r q2) fun _ s3 ⟨H3,I3,q3⟩=>?_))));exact wpAny_release ⟨σ,H3,I3,q3⟩
def IV (te:TE) (g:TG):TS:=fun D σ H=>te σ H fun x H1=>g x σ H1 D.nx
theorem sV {tg e:F_} {te:TE} {g:TG} (he:PE X e te) (hg:PG X tg g) (hs:Pb [tg] e pos.line X.env=pure d_:=by rfl) (hw:Pc [tg] e X.env=pure ck:=by rfl)
 (h1:(K4 [tg] X.env).map (·.2)=[MN tg X.env]:=by rfl):PS X (.Assign [tg] e pos) (IV te g):=by
 intro f' s σ H D I h;refine wpAny_Assign_stores (thn (he f' s σ H _ I h) fun v s1 ⟨x,H1,I1,r1,q1⟩=>?_) hs hw;rw [h1];exact thn (hg f' s1 σ H1 x v _ I1 r1 q1) fun _ s2 q=>q
theorem qh {i:Nat} {x:Str} {e:F_} {te:TE} {pos':Pos} (hN:X.N.Nodup) (hi:X.N[i]?=a_ x) (hx:Loc X.env.scope x) (he:PE X e te) (hs:Mg e (a_ (.Name x pos')) pos.line X.env=pure d_:=by rfl) (hf:X.fn x=c_∨X.env.scope.names.lookup x=a_ .local:=by first | exact .inl rfl | exact .inr rfl | assumption) :
 PS X (.Assign [.Name x pos'] e pos) (IV te (wq i)):=by
 intro f' s σ H D I h;refine wpAny_Assign_Name (thn (he f' s σ H _ I h) fun v s1 ⟨y,H1,I1,r1,q1⟩=>?_) hs;exact j5 I1 hN hi hx r1 (fun s2 I2=>⟨_,H1,I2,q1⟩) hf
end
section
variable {X:Cx} {pos:Pos}
end
structure It where
 go:Nat→Hp→Prop
 yld:Nat→Hp→V→Hp→Prop
 stop:Nat→Hp→Prop
def sW (X:Cx) (f':List (k_×Obj)) (H:Hp) (b:k_):Prop :=
 H b=ck∧b≠X.env.locals∧b ∉ X.fs∧(b∈X.ex∨X.s₀.heap.objs.size≤b)∧(∀ x c,X.env.cells.lookup x=a_ c→c≠b)∧∀ p∈X.pn ++ f',p.1≠b
theorem Inv.fpOk {X:Cx} {f':List (k_×Obj)} {σ:St} {H H':Hp} {s:h_} {b:k_} (I:Inv X f' σ H s) (hb:s.heap.objs.size≤b) (hn:H' b=ck):sW X f' H' b:=by
 refine ⟨hn,N0 (H_ I.lt hb),I.nofs hb,.inr (K0 I.sz hb),fun x c e z=>?_,fun p hp z=>?_⟩
 · obtain ⟨v,q⟩:=I.cell x c e;exact absurd (H_ q.lt (by rw [z]; exact hb)) (Mc _)
 · exact absurd (H_ (t_ (I.pin p hp).1) (by rw [z]; exact hb)) (Mc _)
structure wt (P:r_) (w:E_) (K:e_) (tg:F_) (J:It) (fp:List k_) (it:k_) (tn:Nat→K5→Prop):Prop where
 mem:it∈fp
 obj:∀ i h,tn i h→∀ b∈fp,∃ o,h.get? b=a_ o∧∀ v,o.data≠.cell v
 keep:∀ i h h',tn i h→(∀ b∈fp,∀ o,h.get? b=a_ o→h'.get? b=a_ o)→tn i h'
 item:∀ (X:Cx),X.prog=P→X.w=w→X.K=K→X.calm=c_→∀ (i:Nat) (f':List (k_×Obj)) (s:h_) (σ:St) (H:Hp) (E:g_→h_→Prop),Inv X f' σ H s→(∀ b∈fp,sW X f' H b)→tn i s.heap→J.go i H →
  w_ (z_ P w) X.A (P8 (.ref it)) (fun r s1=>∃ u,r=a_ u ∧
   w_ (z_ P w) X.A (Oq tg (.ref it) u) (fun _ s2=>∃ x H',Inv X f' σ H' s2∧RelV x u∧J.yld i H x H'∧tn (i + 1) s2.heap∧∀ b∈fp,H' b=ck) E s1) E s
 done:∀ (X:Cx),X.prog=P→X.w=w→X.K=K→X.calm=c_→∀ (i:Nat) (f':List (k_×Obj)) (s:h_) (σ:St) (H:Hp) (E:g_→h_→Prop),Inv X f' σ H s→(∀ b∈fp,sW X f' H b)→tn i s.heap→J.stop i H →
  w_ (z_ P w) X.A (P8 (.ref it)) (fun r s1=>r=ck∧Inv X f' σ H s1) E s
 self:∀ (A:G_) (i:Nat) (s:h_) (Q:g_→h_→Prop) (E:g_→h_→Prop),tn i s.heap→Q (.ref it) s→w_ (z_ P w) A (pyIter (.ref it)) Q E s
abbrev TI:=St→Hp→(It→Hp→Prop)→Prop
def PIE (X:Cx) (f':List (k_×Obj)) (σ:St) (tg:F_) (R:It→Hp→Prop) (itv:g_) (s2:h_):Prop :=
 ∃ (it:k_) (fp:List k_) (tn:Nat→K5→Prop) (J:It) (H':Hp),itv=.ref it∧Inv X f' σ H' s2∧wt X.prog X.w X.K tg J fp it tn∧tn 0 s2.heap∧(∀ b∈fp,sW X f' H' b)∧R J H'
def PI (X:Cx) (tg iter:F_) (wi:TI):Prop :=
 ∀ (f':List (k_×Obj)) (s:h_) (σ:St) (H:Hp) (R:It→Hp→Prop),Inv X f' σ H s→wi σ H R →
  w_ (z_ X.prog X.w) X.A (eval iter X.env) (fun v s1=>w_ (z_ X.prog X.w) X.A (pyIter v) (PIE X f' σ tg R) X.xe s1) X.xe s
theorem wu {M:QF} {A:G_} {E:g_→h_→Prop} {s:h_} {tg:F_} {it:k_} {u:g_} {o:Obj} {n:String} {vs:Array g_} {Q:Unit→h_→Prop} (ho:s.heap.get? it=a_ o) (hc:o.cls=.type n) (hd:o.data=.fields vs)
 (hn:["enumerate","zip","dict_itemiterator","dict_reverseitemiterator","odict_iterator","itertools.zip_longest","itertools.pairwise"].contains n=d_) (hQ:Q () s):w_ M A (Oq tg (.ref it) u) Q E s:=by
 unfold Oq;cases tg <;> first
  | exact m_ hQ
  | (cases u <;> first
      | exact m_ hQ
      | (refine f_ (wpAny_load ho ?_)
         rw [hc,hd];show w_ M A (if (["enumerate","zip","dict_itemiterator","dict_reverseitemiterator","odict_iterator","itertools.zip_longest","itertools.pairwise"].contains n && vs[0]? == a_ (RW _))=c_ then _ else _) Q E s;rw [if_neg (by intro h; rw [hn,Bool.false_and] at h; cases h)];exact m_ hQ))
def Itl (K:e_) (a:k_):It :=
 ⟨fun i H=>∃ xs x,SqL K H a xs∧xs[i]?=a_ x,fun i H x H'=>H'=H∧∀ xs,SqL K H a xs→xs[i]?=a_ x,fun i H=>∃ xs,SqL K H a xs∧xs.length≤i⟩
def Itt (K:e_) (a:k_):It :=
 ⟨fun i H=>∃ xs x,SqT K H a xs∧xs[i]?=a_ x,fun i H x H'=>H'=H∧∀ xs,SqT K H a xs→xs[i]?=a_ x,fun i H=>∃ xs,SqT K H a xs∧xs.length≤i⟩
def Itr (lo:Int) (n:Nat):It:=⟨fun i _=>i < n,fun i H x H'=>H'=H∧x=.int (lo + i),fun i _=>n≤i⟩
theorem sX {P:r_} {w:E_} {K:e_} {tg:F_} (a it:k_):wt P w K tg (Itl K a) [it] it (fun i h=>h.IsListIter it a i) where
 mem:=by simp
 obj:=fun i h st b hb=>by
  have e:b=it:=by simpa using hb
  subst e;obtain ⟨o,e,c,d⟩:=st;exact ⟨o,e,fun v z=>by rw [d] at z; cases z⟩
 keep:=fun i h h' st k=>st.at fun o e=>k it (by simp) o e
 item:=by
  intro X hP hw hK hc i f' s σ H E I hf st hg;subst hP hw hK;obtain ⟨xs,x,hq,hx⟩:=hg;obtain ⟨its,rv,p,hz⟩:=I.list hq;obtain ⟨u,hu,ru⟩:=rv.get hx;obtain ⟨f0,f1,f2,f3,f4,f5⟩:=hf it (by simp);refine wpAny_pyNext_list_item st p.isList (x:=u) (by simpa using hu) fun h' st' sb=>?_;have I1:Inv X f' σ H { s with heap:=h' }:=I.turned (t':=s.toks) (fun b o hb e=>(sb.2 b hb).trans e) f0 f1 f3 f4 f5;obtain ⟨o,e,c,d⟩:=id st';exact ⟨u,rfl,wu (s:={ s with heap:=h' }) e c d (by decide) ⟨x,H,I1,ru,⟨rfl,fun ys hy=>by rw [I.list_inj hy hq]; exact hx⟩,st',fun b hb=>(hf b hb).1⟩⟩
 done:=by
  intro X hP hw hK hc i f' s σ H E I hf st hg;subst hP hw hK;obtain ⟨xs,hq,hx⟩:=hg;obtain ⟨its,rv,p,hz⟩:=I.list hq;obtain ⟨f0,f1,f2,f3,f4,f5⟩:=hf it (by simp);have hl:=rv.length;exact wpAny_pyNext_list_end (I.ok.hd hc) st p.isList (by simp; omega) fun h' eb=>⟨rfl,I.turned (t':=s.toks) (fun b o hb e=>eb b o hb e) f0 f1 f3 f4 f5⟩
 self:=fun _ _ _ _ _ st h=>wpAny_pyIter_listiter st h
theorem rD {P:r_} {w:E_} {K:e_} {tg:F_} (a it:k_):wt P w K tg (Itt K a) [it] it (fun i h=>h.IsTupleIter it a i) where
 mem:=by simp
 obj:=fun i h st b hb=>by
  have e:b=it:=by simpa using hb
  subst e;obtain ⟨o,e,c,d⟩:=st;exact ⟨o,e,fun v z=>by rw [d] at z; cases z⟩
 keep:=fun i h h' st k=>st.at fun o e=>k it (by simp) o e
 item:=by
  intro X hP hw hK hc i f' s σ H E I hf st hg;subst hP hw hK;obtain ⟨xs,x,hq,hx⟩:=hg;obtain ⟨its,rv,p,hz⟩:=I.tuple hq;obtain ⟨u,hu,ru⟩:=rv.get hx;obtain ⟨f0,f1,f2,f3,f4,f5⟩:=hf it (by simp);refine wpAny_pyNext_tuple_item st (show s.heap.IsTuple a its.toArray from p) (x:=u) (by simpa using hu) fun h' st' sb=>?_;have I1:Inv X f' σ H { s with heap:=h' }:=I.turned (t':=s.toks) (fun b o hb e=>(sb.2 b hb).trans e) f0 f1 f3 f4 f5;obtain ⟨o,e,c,d⟩:=id st';exact ⟨u,rfl,wu (s:={ s with heap:=h' }) e c d (by decide) ⟨x,H,I1,ru,⟨rfl,fun ys hy=>by rw [I.tuple_inj hy hq]; exact hx⟩,st',fun b hb=>(hf b hb).1⟩⟩
 done:=by
  intro X hP hw hK hc i f' s σ H E I hf st hg;subst hP hw hK;obtain ⟨xs,hq,hx⟩:=hg;obtain ⟨its,rv,p,hz⟩:=I.tuple hq;obtain ⟨f0,f1,f2,f3,f4,f5⟩:=hf it (by simp);have hl:=rv.length;exact wpAny_pyNext_tuple_end (I.ok.hd hc) st (show s.heap.IsTuple a its.toArray from p) (by simp; omega) fun h' eb=>⟨rfl,I.turned (t':=s.toks) (fun b o hb e=>eb b o hb e) f0 f1 f3 f4 f5⟩
 self:=fun _ _ _ _ _ st h=>wpAny_pyIter_tupleiter st h
theorem rE {P:r_} {w:E_} {K:e_} {tg:F_} (it:k_) (lo:Int) (n:Nat):wt P w K tg (Itr lo n) [it] it (fun i h=>IsRangeIter h it (lo + (i:Nat) * 1) ((n:Int) - (i:Nat)) 1) where
 mem:=by simp
 obj:=fun i h st b hb=>by
  have e:b=it:=by simpa using hb
  subst e;exact ⟨_,st,fun v z=>by
   have z':RI _=Data.cell v:=z;cases z'⟩
 keep:=fun i h h' st k=>k it (by simp) _ st
 item:=by
  intro X hP hw hK hc i f' s σ H E I hf st hg;subst hP hw hK;obtain ⟨f0,f1,f2,f3,f4,f5⟩:=hf it (by simp);have W:=Walks.range (prog:=X.prog) (w:=X.w) (I.ok.hd hc) it lo 1 n;refine W.item i s _ _ hg st fun v h' tk hv st' kk=>?_;obtain ⟨t,rfl⟩:=hv;have I1:Inv X f' σ H { s with heap:=h',toks:=tk }:=I.turned (fun b o hb e=>kk b o (by simpa using hb) e) f0 f1 f3 f4 f5;refine ⟨_,rfl,wu (s:={ s with heap:=h',toks:=tk }) (n:="range_iterator") st' rfl rfl (by decide) ⟨.int (lo + i),H,I1,⟨t,?_⟩,⟨rfl,rfl⟩,st',fun b hb=>(hf b hb).1⟩⟩;rw [Int.mul_one]
 done:=by
  intro X hP hw hK hc i f' s σ H E I hf st hg;subst hP hw hK;obtain ⟨f0,f1,f2,f3,f4,f5⟩:=hf it (by simp);exact wpAny_pyNext_range_end (I.ok.hd hc) st (by have:n≤i:=hg; omega) fun h' eb=>⟨rfl,I.turned (t':=s.toks) (fun b o hb e=>eb b o hb e) f0 f1 f3 f4 f5⟩
 self:=fun _ _ _ _ _ st h=>wpAny_pyIter_rangeiter st h
section
variable {X:Cx} {tg:F_}
theorem qi {f':List (k_×Obj)} {σ:St} {H:Hp} {s:h_} {R:It→Hp→Prop} {E:g_→h_→Prop} {lo hi:Int} {t u v:Tok} {tk:Nat} (I:Inv X f' σ H s) (h1:-(2 ^ 62)≤lo) (h2:lo < 2 ^ 62) (h3:-(2 ^ 62)≤hi) (h4:hi < 2 ^ 62)
 (q:R (Itr lo (hi - lo).toNat) H):w_ (z_ X.prog X.w) X.A (pyIter (.ref s.heap.objs.size)) (PIE X f' σ tg R) E { s with heap:=s.heap.push { cls:=.type "range",data:=.fields #[.int lo t,.int hi u,.int 1 v] },toks:=tk }:=by
 refine wpAny_pyIter_range (IsRange.new ..) (small_one h1 h2 h3 h4) ?_;have I1:Inv X f' σ H { s with heap:=s.heap.push { cls:=.type "range",data:=.fields #[.int lo t,.int hi u,.int 1 v] },toks:=tk }:=I.kept fun b o e=>j_ _ e;refine ⟨(s.heap.push { cls:=.type "range",data:=.fields #[.int lo t,.int hi u,.int 1 v] }).objs.size,[(s.heap.push { cls:=.type "range",data:=.fields #[.int lo t,.int hi u,.int 1 v] }).objs.size],_,_,H,rfl,
  I1.kept (t':=tk) fun b o e=>j_ _ e,rE _ lo (hi - lo).toNat,?_,fun b hb=>?_,q⟩
 · have e1:lo + ((0:Nat):Int) * 1=lo:=by simp
   have e2:(((hi - lo).toNat:Nat):Int) - ((0:Nat):Int)=Builtin.Range.rangeSize lo hi 1:=by rw [rangeSize_one]; split <;> omega
   show IsRangeIter _ _ (lo + ((0:Nat):Int) * 1) ((((hi - lo).toNat:Nat):Int) - ((0:Nat):Int)) 1;rw [e1,e2];exact B_ _ rfl
 · have e:b=(s.heap.push { cls:=.type "range",data:=.fields #[.int lo t,.int hi u,.int 1 v] }).objs.size:=by simpa using hb
   subst e;exact I1.fpOk (uk _) (I1.hok.fresh (uk _))
def GP (ta:TA):TI:=fun σ H R=>ta σ H fun vs H1=>∃ j:Int,vs=[.int j]∧-(2 ^ 62)≤j∧j < 2 ^ 62∧R (Itr 0 j.toNat) H1
def GQ (ta:TA):TI:=fun σ H R=>ta σ H fun vs H1=>∃ i j:Int,vs=[.int i,.int j]∧(-(2 ^ 62)≤i∧i < 2 ^ 62∧-(2 ^ 62)≤j∧j < 2 ^ 62)∧R (Itr i (j - i).toNat) H1
theorem sY {a:F_} {ta:TA} {p pos:Pos} (hg:Gl X "range") (hm:X.mg "range"=ck) (ha:PA X [a] ta) (hs:i_ [a] X.env=[(d_,eval a X.env)]:=by rfl):PI X tg (.Call (.Name "range" p) [a] [] pos) (GP ta):=by
 intro f' s σ H R I h;refine Call_ (iR I hg hm boot_range (LL (thn (ha pos f' s σ H _ I h) fun us s1 ⟨vs,H1,I1,r1,q1⟩=>?_) hs rfl));obtain ⟨j,e,q1,q2,q⟩:=q1;subst e;cases r1 with
 | cons r rr =>
  cases rr;obtain ⟨t,rfl⟩:=r;exact call_range_1 (qi I1 (by omega) (by omega) q1 q2 (by simpa using q))
theorem sZ {a b:F_} {ta:TA} {p pos:Pos} (hg:Gl X "range") (hm:X.mg "range"=ck) (ha:PA X [a,b] ta) (hs:i_ [a,b] X.env=[(d_,eval a X.env),(d_,eval b X.env)]:=by rfl) (hs2:i_ [b] X.env=[(d_,eval b X.env)]:=by rfl) :
 PI X tg (.Call (.Name "range" p) [a,b] [] pos) (GQ ta):=by
 intro f' s σ H R I h;refine Call_ (iR I hg hm boot_range (LL (thn (ha pos f' s σ H _ I h) fun us s1 ⟨vs,H1,I1,r1,q1⟩=>?_) (by rw [hs,hs2]) (by rw [hs2]; rfl)));obtain ⟨i,j,e,⟨q1,q2,q3,q4⟩,q⟩:=q1;subst e;cases r1 with
 | cons r rr =>
  cases rr with
  | cons r' rr =>
   cases rr;obtain ⟨t,rfl⟩:=r;obtain ⟨t',rfl⟩:=r';exact call_range_2 (qi I1 q1 q2 q3 q4 q)
def JU (wi:TI) (g:TG) (tb:TS):TS:=fun D σ H=>wi σ H fun J H1=>∃ W:Nat→Nat→St→Hp→Prop,(∃ m,W 0 m σ H1)∧∀ i m σ H,W i m σ H →
 (J.stop i H∧D.nx σ H)∨(J.go i H∧∃ N:St→Hp→Prop,(∀ σ' H',N σ' H'→∃ m',m' < m∧W (i + 1) m' σ' H')∧∀ x H',J.yld i H x H'→g x σ H' fun σ2 H2=>tb { D with nx:=N,ct:=N,bk:=D.nx } σ2 H2)
def eI (fp:List k_) (h:K5):List (k_×Obj):=fp.filterMap fun b=>(h.get? b).map fun o=>(b,o)
theorem dw {fp:List k_} {h:K5} {b:k_} {o:Obj} (hb:b∈fp) (e:h.get? b=a_ o):(b,o)∈eI fp h:=Mm.mpr ⟨b,hb,by rw [e]; rfl⟩
theorem kf {fp:List k_} {h:K5} {p:k_×Obj} (hp:p∈eI fp h):p.1∈fp∧h.get? p.1=a_ p.2:=by
 obtain ⟨b,hb,e⟩:=Mm.mp hp;cases q:h.get? b with
 | none=>rw [q] at e; cases e
 | some o =>
  rw [q] at e;have e':(b,o)=p:=Lc e;subst e';exact ⟨hb,q⟩
theorem Inv.pinned {f':List (k_×Obj)} {σ:St} {H:Hp} {s:h_} {fp:List k_} (I:Inv X f' σ H s) (hf:∀ b∈fp,sW X f' H b) (ho:∀ b∈fp,∃ o,s.heap.get? b=a_ o∧∀ v,o.data≠.cell v):Inv X (f' ++ eI fp s.heap) σ H s :=
 I.pins_of fun p hp=>(K8.mp hp).elim (fun z=>I.pin p (l_ _ z)) fun z=>by
  obtain ⟨hb,e⟩:=kf z;obtain ⟨f0,f1,f2,_⟩:=hf p.1 hb;obtain ⟨o,e',d⟩:=ho p.1 hb;rw [e] at e'; cases e';exact ⟨e,f0,f1,f2,d⟩
theorem Inv.unpinned {f' pl:List (k_×Obj)} {σ:St} {H:Hp} {s:h_} (I:Inv X (f' ++ pl) σ H s):Inv X f' σ H s:=I.pins_of fun p hp=>I.pin p (l_ _ (y_ _ hp))
theorem td {iter:F_} {body:List LY} {wi:TI} {g:TG} {tb:TS} {pos:Pos} (hp:OF (z_ X.prog X.w) X.A X.env X.xe) (hc:X.calm=c_) (hi:PI X tg iter wi) (hg:PG X tg g) (hb:PSs X body tb)
 (hs:∀ x,K_ iter X.env x=pure x:=by intro _; rfl):PS X (.For tg iter body [] pos) (JU wi g tb):=by
 intro f' s σ H D I h;refine wpAny_For (thn (hi f' s σ H _ I h) fun v s1 h1=>thn h1 fun itv s2 h2=>?_) hs;obtain ⟨it,fp,tn,J,H2,e,I2,T,st2,f2,W,⟨m0,w0⟩,turn⟩:=h2;subst e;have stat:∀ {H':Hp},(∀ b∈fp,H' b=ck)→∀ b∈fp,sW X f' H' b:=fun hn b hb=>⟨hn b hb,(f2 b hb).2⟩;refine codeAny_forLoop_any (fun n s'=>∃ i σ' H',Inv X f' σ' H' s'∧tn i s'.heap∧(∀ b∈fp,H' b=ck)∧W i n σ' H') ?_ m0 ⟨0,σ,H2,I2,st2,fun b hb=>(f2 b hb).1,w0⟩;rintro n s3 ⟨i,σ3,H3,I3,st3,fr3,w3⟩;rcases turn i n σ3 H3 w3 with ⟨stop,qn⟩ | ⟨go,N,hN,step⟩
 · refine NF hp (thn (T.done X rfl rfl rfl hc i f' s3 σ3 H3 X.xe I3 (stat fr3) st3 stop) fun r s4 ⟨hr,I4⟩=>?_);subst hr;exact PN ⟨σ3,H3,I4,qn⟩
 · refine NF hp (thn (T.item X rfl rfl rfl hc i f' s3 σ3 H3 X.xe I3 (stat fr3) st3 go) fun r s4 ⟨u,hr,h4⟩=>?_);subst hr;refine NF hp (thn h4 fun _ s5 ⟨x,H5,I5,r5,y5,st5,fr5⟩=>?_);have I5':=I5.pinned (stat fr5) (T.obj _ _ st5);refine NF hp (thn (hg _ s5 σ3 H5 x u _ I5' r5 (step x H5 y5)) fun _ s6 ⟨σ6,H6,I6,q6⟩=>?_);refine NF hp (thn (hb _ s6 σ6 H6 _ I6 q6) fun f s7 q7=>?_);have again:∀ {σ7:St} {H7:Hp},Inv X (f' ++ eI fp s5.heap) σ7 H7 s7→N σ7 H7→∃ m,m < n∧∃ i σ' H',Inv X f' σ' H' s7∧tn i s7.heap∧(∀ b∈fp,H' b=ck)∧W i m σ' H':=fun {σ7 H7} I7 n7=>by
    obtain ⟨m',hm,w7⟩:=hN σ7 H7 n7;refine ⟨m',hm,i + 1,σ7,H7,I7.unpinned,T.keep _ _ _ st5 fun b hb o e=>(I7.pin (b,o) (l_ _ (l_ _ (dw hb e)))).1,fun b hb=>?_,w7⟩;obtain ⟨o,e,d⟩:=T.obj _ _ st5 b hb;exact (I7.pin (b,o) (l_ _ (l_ _ (dw hb e)))).2.1
   cases f with
   | next=>obtain ⟨σ7,H7,I7,n7⟩:=q7; exact again I7 n7
   | cont=>obtain ⟨σ7,H7,I7,n7⟩:=q7; exact again I7 n7
   | brk=>obtain ⟨σ7,H7,I7,q7⟩:=q7; exact ⟨σ7,H7,I7.unpinned,q7⟩
   | ret v=>obtain ⟨x7,σ7,H7,I7,r7,q7⟩:=q7; exact ⟨x7,σ7,H7,I7.unpinned,r7,q7⟩
end
abbrev R2:=V→V→Hp→VK→Prop
def OpR (X:Cx) (f:g_→g_→Sem g_) (r:R2):Prop :=
 ∀ (f':List (k_×Obj)) (s:h_) (σ:St) (H:Hp) (x y:V) (v u:g_) (Q:VK),Inv X f' σ H s→RelV x v→RelV y u→r x y H Q →
  w_ (z_ X.prog X.w) X.A (f v u) (EP X f' σ Q) X.xe s
def UnR (X:Cx) (f:g_→Sem g_) (r:V→Hp→VK→Prop):Prop :=
 ∀ (f':List (k_×Obj)) (s:h_) (σ:St) (H:Hp) (x:V) (v:g_) (Q:VK),Inv X f' σ H s→RelV x v→r x H Q →
  w_ (z_ X.prog X.w) X.A (f v) (EP X f' σ Q) X.xe s
def CallR (X:Cx) (f:g_) (r:List V→Hp→VK→Prop):Prop :=
 ∀ (f':List (k_×Obj)) (s:h_) (σ:St) (H:Hp) (xs:List V) (us:List g_) (Q:VK),Inv X f' σ H s→Vals xs us→r xs H Q →
  w_ (z_ X.prog X.w) X.A (call f us) (EP X f' σ Q) X.xe s
def tOp (r:R2) (ta tb:TE):TE:=fun σ H Q=>ta σ H fun x H1=>tb σ H1 fun y H2=>r x y H2 Q
def tUn (r:V→Hp→VK→Prop) (ta:TE):TE:=fun σ H Q=>ta σ H fun x H1=>r x H1 Q
def rI (C:Int→Int→Prop) (g:Int→Int→V):R2:=fun x y H Q=>∃ i j,x=.int i∧y=.int j∧C i j∧Q (g i j) H
def rI0 (g:Int→Int→V):R2:=fun x y H Q=>∃ i j,x=.int i∧y=.int j∧Q (g i j) H
def rU (g:Int→V):V→Hp→VK→Prop:=fun x H Q=>∃ i,x=.int i∧Q (g i) H
section
variable {X:Cx} {a b c:F_} {ta tb tc:TE} {pos:Pos}
theorem GR (ha:PE X a ta) (hb:PE X b tb) {f':List (k_×Obj)} {s:h_} {σ:St} {H:Hp} {R:V→V→Hp→Prop} (I:Inv X f' σ H s)
 (h:ta σ H fun x H1=>tb σ H1 fun y H2=>R x y H2) {Q:g_→h_→Prop} {f:g_→g_→Sem g_}
 (hf:∀ v u s2 x y H2,Inv X f' σ H2 s2→RelV x v→RelV y u→R x y H2→w_ (z_ X.prog X.w) X.A (f v u) Q X.xe s2) :
 w_ (z_ X.prog X.w) X.A (eval a X.env) (fun v s₁=>w_ (z_ X.prog X.w) X.A (eval b X.env) (fun u s₂=>w_ (z_ X.prog X.w) X.A (f v u) Q X.xe s₂) X.xe s₁) X.xe s:=by
 refine thn (ha f' s σ H _ I h) fun v s1 ⟨x,H1,I1,r1,q1⟩=>?_;refine thn (hb f' s1 σ H1 _ I1 q1) fun u s2 ⟨y,H2,I2,r2,q2⟩=>?_;exact hf v u s2 x y H2 I2 r1 r2 q2
theorem GS {op:Operator} {r:R2} (ho:OpR X (Mi op) r) (ha:PE X a ta) (hb:PE X b tb):PE X (.BinOp a op b pos) (tOp r ta tb):=by
 intro f' s σ H Q I h;exact wpAny_BinOp (GR ha hb I h fun v u s2 x y H2 I2 rx ry q=>ho f' s2 σ H2 x y v u Q I2 rx ry q)
theorem GT {op:UnaryOp} {r:V→Hp→VK→Prop} (ho:UnR X (unaryOp op) r) (ha:PE X a ta):PE X (.UnaryOp op a pos) (tUn r ta):=by
 intro f' s σ H Q I h;exact UnaryOp_ (thn (ha f' s σ H _ I h) fun v s1 ⟨x,H1,I1,r1,q1⟩=>ho f' s1 σ H1 x v Q I1 r1 q1)
theorem opI {f:g_→g_→Sem g_} {C:Int→Int→Prop} {g:Int→Int→Int}
 (rule:∀ (i j:Int) (t u:Tok) (s:h_) (Q:g_→h_→Prop) (E:g_→h_→Prop),C i j→Q (.int (g i j) s.toks) { s with toks:=s.toks + 1 }→w_ (z_ X.prog X.w) X.A (f (.int i t) (.int j u)) Q E s) :
 OpR X f (rI C fun i j=>.int (g i j)):=by
 intro f' s σ H x y v u Q I rx ry h;obtain ⟨i,j,rfl,rfl,hc,q⟩:=h;obtain ⟨t,rfl⟩:=rx;obtain ⟨t',rfl⟩:=ry;exact rule i j t t' s _ _ hc ⟨.int (g i j),H,I.tok _,⟨_,rfl⟩,q⟩
theorem IW {f:g_→g_→Sem g_} {g:Int→Int→Int}
 (rule:∀ (i j:Int) (t u:Tok) (s:h_) (Q:g_→h_→Prop) (E:g_→h_→Prop),Q (.int (g i j) s.toks) { s with toks:=s.toks + 1 }→w_ (z_ X.prog X.w) X.A (f (.int i t) (.int j u)) Q E s) :
 OpR X f (rI0 fun i j=>.int (g i j)):=by
 intro f' s σ H x y v u Q I rx ry h;obtain ⟨i,j,rfl,rfl,q⟩:=h;obtain ⟨t,rfl⟩:=rx;obtain ⟨t',rfl⟩:=ry;exact rule i j t t' s _ _ ⟨.int (g i j),H,I.tok _,⟨_,rfl⟩,q⟩
theorem GU {f:g_→g_→Sem g_} {g:Int→Int→Bool}
 (rule:∀ (i j:Int) (t u:Tok) (s:h_) (Q:g_→h_→Prop) (E:g_→h_→Prop),Q (.bool (g i j)) s→w_ (z_ X.prog X.w) X.A (f (.int i t) (.int j u)) Q E s) :
 OpR X f (rI0 fun i j=>.bl (g i j)):=by
 intro f' s σ H x y v u Q I rx ry h;obtain ⟨i,j,rfl,rfl,q⟩:=h;obtain ⟨t,rfl⟩:=rx;obtain ⟨t',rfl⟩:=ry;exact rule i j t t' s _ _ ⟨.bl (g i j),H,I,rfl,q⟩
def IX (i j:Int):Prop:=0 < j∧j < 1073741824
def CMul (i j:Int):Prop:=(-(2 ^ 64) < i∧i < 2 ^ 64)∨(-(2 ^ 64) < j∧j < 2 ^ 64)
theorem CMul.ok {i j:Int} (h:CMul i j):IntMulOk i j:=by
 rcases h with ⟨h1,h2⟩ | ⟨h1,h2⟩
 · exact .of_left (intBits_le_64 h1 h2)
 · exact .of_right (intBits_le_64 h1 h2)
theorem op_add:OpR X (Mi .Add) (rI0 fun i j=>.int (i + j)):=IW fun _ _ _ _ _ _ _ q=>add_int q
theorem Ca:OpR X (Mi .Sub) (rI0 fun i j=>.int (i - j)):=IW fun _ _ _ _ _ _ _ q=>sub_int q
theorem yt:OpR X (Mi .Mult) (rI CMul fun i j=>.int (i * j)):=opI fun _ _ _ _ _ _ _ hc q=>mul_int q hc.ok
theorem zr:OpR X (Mi .FloorDiv) (rI IX fun i j=>.int (i / j)):=opI fun i j _ _ _ _ _ hc q=>by
 have h1:(0:Int) < j:=hc.1;have h2:j < 1073741824:=hc.2;exact floordiv_int (by omega) (by rw [Int.fdiv_eq_ediv_of_nonneg i (by omega)]; exact q) (.inl (PyProof.noPylong_small (by omega)))
theorem Cb:OpR X (Mi .Mod) (rI (fun _ j=>0 < j) fun i j=>.int (i % j)):=opI fun i j _ _ _ _ _ hc q=>by
 have h1:(0:Int) < j:=hc;exact mod_int' (by omega) (by rw [Int.fmod_eq_emod_of_nonneg i (by omega)]; exact q)
theorem unI {f:g_→Sem g_} {g:Int→Int}
 (rule:∀ (i:Int) (t:Tok) (s:h_) (Q:g_→h_→Prop) (E:g_→h_→Prop),Q (.int (g i) s.toks) { s with toks:=s.toks + 1 }→w_ (z_ X.prog X.w) X.A (f (.int i t)) Q E s) :
 UnR X f (rU fun i=>.int (g i)):=by
 intro f' s σ H x v Q I rx h;obtain ⟨i,rfl,q⟩:=h;obtain ⟨t,rfl⟩:=rx;exact rule i t s _ _ ⟨.int (g i),H,I.tok _,⟨_,rfl⟩,q⟩
theorem Cc:UnR X (unaryOp .USub) (rU fun i=>.int (-i)):=unI fun _ _ _ _ _ q=>neg_int q
end
def GV:V→V→Bool
 | .non,.non=>c_ | .non,.int _=>c_ | .int _,.non=>c_ | .non,.bl _=>c_ | .bl _,.non=>c_ | .non,.str _=>c_ | .str _,.non=>c_
 | .int _,.int _=>c_ | .bl _,.bl _=>c_ | .str _,.str _=>c_ | .byt _,.byt _=>c_
 | .int _,.str _=>c_ | .str _,.int _=>c_ | .bl _,.str _=>c_ | .str _,.bl _=>c_
 | _,_=>d_
def rEq:R2:=fun x y H Q=>GV x y=c_∧Q (.bl (q_ (x=y))) H
def rNe:R2:=fun x y H Q=>GV x y=c_∧Q (.bl (!q_ (x=y))) H
theorem o5 {i j:Int}:q_ (V.int i=V.int j)=(i == j):=by
 rw [Ln];simp
theorem tf {i j:Bool}:q_ (V.bl i=V.bl j)=(i == j):=by
 rw [Ln];simp
theorem o6 {i j:Str}:q_ (V.str i=V.str j)=(i == j):=by
 rw [Ln];simp
theorem tj {i j:Array UInt8}:q_ (V.byt i=V.byt j)=(i.toList == j.toList):=by
 rw [Ln];cases i;cases j;simp
section
variable {X:Cx} {a b c:F_} {ta tb tc:TE} {pos:Pos}
theorem bH {f':List (k_×Obj)} {σ:St} {H:Hp} {s:h_} {Q:VK} {k k':Bool} (I:Inv X f' σ H s) (q:Q (.bl k) H) (e:k=k'):EP X f' σ Q (.bool k') s:=by
 subst e;exact ⟨.bl k,H,I,rfl,q⟩
theorem op_eq:OpR X (Lj .Eq) rEq:=by
 intro f' s σ H x y v u Q I rx ry h;obtain ⟨hs,q⟩:=h;cases x with
 | non =>
  cases rx;cases y with
  | non=>cases ry; exact PySem.EqNone.eq_none_none (bH I q (by simp))
  | bl j=>cases ry; exact PySem.EqNone.eq_none_bool (bH I q (by simp))
  | int j=>obtain ⟨t',rfl⟩:=ry; exact PySem.EqNone.eq_none_int (bH I q (by simp))
  | str j=>obtain ⟨t',rfl⟩:=ry; exact PySem.EqNone.eq_none_str (bH I q (by simp))
  | _=>exact absurd (show d_=c_ from hs) p_
 | bl i =>
  cases rx;cases y with
  | non=>cases ry; exact PySem.EqNone.eq_bool_none (bH I q (by simp))
  | bl j=>cases ry; exact eq_bool (bH I q tf)
  | str j=>obtain ⟨t',rfl⟩:=ry; exact PySem.EqMixed.eq_bool_str (bH I q (by simp))
  | _=>exact absurd (show d_=c_ from hs) p_
 | int i =>
  obtain ⟨t,rfl⟩:=rx;cases y with
  | non=>cases ry; exact PySem.EqNone.eq_int_none (bH I q (by simp))
  | int j=>obtain ⟨t',rfl⟩:=ry; exact eq_int (bH I q o5)
  | str j=>obtain ⟨t',rfl⟩:=ry; exact PySem.EqMixed.eq_int_str (bH I q (by simp))
  | _=>exact absurd (show d_=c_ from hs) p_
 | str i =>
  obtain ⟨t,rfl⟩:=rx;cases y with
  | non=>cases ry; exact PySem.EqNone.eq_str_none (bH I q (by simp))
  | bl j=>cases ry; exact PySem.EqMixed.eq_str_bool (bH I q (by simp))
  | int j=>obtain ⟨t',rfl⟩:=ry; exact PySem.EqMixed.eq_str_int (bH I q (by simp))
  | str j=>obtain ⟨t',rfl⟩:=ry; exact eq_str (bH I q o6)
  | _=>exact absurd (show d_=c_ from hs) p_
 | byt i =>
  obtain ⟨t,rfl⟩:=rx;cases y with
  | byt j=>obtain ⟨t',rfl⟩:=ry; exact PySem.W.eq_bytes (bH I q tj)
  | _=>exact absurd (show d_=c_ from hs) p_
 | _=>cases y <;> exact absurd (show d_=c_ from hs) p_
theorem op_ne:OpR X (Lj .NotEq) rNe:=by
 intro f' s σ H x y v u Q I rx ry h;obtain ⟨hs,q⟩:=h;cases x with
 | non =>
  cases rx;cases y with
  | non=>cases ry; exact PySem.EqNone.ne_none_none (bH I q (by simp))
  | bl j=>cases ry; exact PySem.EqNone.ne_none_bool (bH I q (by simp))
  | int j=>obtain ⟨t',rfl⟩:=ry; exact PySem.EqNone.ne_none_int (bH I q (by simp))
  | str j=>obtain ⟨t',rfl⟩:=ry; exact PySem.EqNone.ne_none_str (bH I q (by simp))
  | _=>exact absurd (show d_=c_ from hs) p_
 | bl i =>
  cases rx;cases y with
  | non=>cases ry; exact PySem.EqNone.ne_bool_none (bH I q (by simp))
  | bl j=>cases ry; exact ne_bool (bH I q (congrArg not tf))
  | str j=>obtain ⟨t',rfl⟩:=ry; exact PySem.EqMixed.ne_bool_str (bH I q (by simp))
  | _=>exact absurd (show d_=c_ from hs) p_
 | int i =>
  obtain ⟨t,rfl⟩:=rx;cases y with
  | non=>cases ry; exact PySem.EqNone.ne_int_none (bH I q (by simp))
  | int j=>obtain ⟨t',rfl⟩:=ry; exact ne_int (bH I q (congrArg not o5))
  | str j=>obtain ⟨t',rfl⟩:=ry; exact PySem.EqMixed.ne_int_str (bH I q (by simp))
  | _=>exact absurd (show d_=c_ from hs) p_
 | str i =>
  obtain ⟨t,rfl⟩:=rx;cases y with
  | non=>cases ry; exact PySem.EqNone.ne_str_none (bH I q (by simp))
  | bl j=>cases ry; exact PySem.EqMixed.ne_str_bool (bH I q (by simp))
  | int j=>obtain ⟨t',rfl⟩:=ry; exact PySem.EqMixed.ne_str_int (bH I q (by simp))
  | str j=>obtain ⟨t',rfl⟩:=ry; exact ne_str (bH I q (congrArg not o6))
  | _=>exact absurd (show d_=c_ from hs) p_
 | byt i =>
  obtain ⟨t,rfl⟩:=rx;cases y with
  | byt j=>obtain ⟨t',rfl⟩:=ry; exact PySem.W.ne_bytes (bH I q (congrArg not tj))
  | _=>exact absurd (show d_=c_ from hs) p_
 | _=>cases y <;> exact absurd (show d_=c_ from hs) p_
theorem op_lt:OpR X (Lj .Lt) (rI0 fun i j=>.bl (q_ (i < j))):=GU fun _ _ _ _ _ _ _ q=>lt_int q
theorem op_le:OpR X (Lj .LtE) (rI0 fun i j=>.bl (q_ (i≤j))):=GU fun _ _ _ _ _ _ _ q=>le_int q
theorem Cd:OpR X (Lj .Gt) (rI0 fun i j=>.bl (q_ (j < i))):=GU fun _ _ _ _ _ _ _ q=>gt_int q
theorem tq:OpR X (Lj .Lt) (fun x y H Q=>∃ i j,x=.str i∧y=.str j∧Q (.bl (q_ (i.cps.toList < j.cps.toList))) H):=by
 intro f' s σ H x y v u Q I rx ry h;obtain ⟨i,j,rfl,rfl,q⟩:=h;obtain ⟨t,rfl⟩:=rx;obtain ⟨t',rfl⟩:=ry;exact lt_str (bH I q rfl)
theorem op_in_str:OpR X (Lj .In) (fun x y H Q=>∃ i j,x=.str i∧y=.str j∧Q (.bl (!(Ld j i 0 j.length 1).isEmpty)) H):=by
 intro f' s σ H x y v u Q I rx ry h;obtain ⟨i,j,rfl,rfl,q⟩:=h;obtain ⟨t,rfl⟩:=rx;obtain ⟨t',rfl⟩:=ry;exact in_str (bH I q rfl)
theorem yu:OpR X (Lj .Is) (fun x y H Q=>y=.non∧Q (.bl (q_ (x=.non))) H):=by
 intro f' s σ H x y v u Q I rx ry h;obtain ⟨rfl,q⟩:=h;cases ry;refine is_none_gen (bH I q ?_);cases x <;> first
  | (cases rx; rfl)
  | (obtain ⟨t,rfl⟩:=rx; rfl)
theorem tt:OpR X (Lj .IsNot) (fun x y H Q=>y=.non∧Q (.bl (!q_ (x=.non))) H):=by
 intro f' s σ H x y v u Q I rx ry h;obtain ⟨rfl,q⟩:=h;cases ry;refine isnot_none_gen (bH I q ?_);cases x <;> first
  | (cases rx; rfl)
  | (obtain ⟨t,rfl⟩:=rx; rfl)
theorem OpR.or {f:g_→g_→Sem g_} {r r':R2} (h:OpR X f r) (h':OpR X f r'):OpR X f (fun x y H Q=>r x y H Q∨r' x y H Q):=by
 intro f' s σ H x y v u Q I rx ry q;rcases q with q | q
 · exact h f' s σ H x y v u Q I rx ry q
 · exact h' f' s σ H x y v u Q I rx ry q
theorem IY (b:F_) {op:CmpOp} (h:op≠.In:=by decide) (h2:op≠.NotIn:=by decide):K3 op b=d_:=by
 have e1:(op == CmpOp.In)=d_:=by cases op <;> first | rfl | exact absurd rfl h
 have e2:(op == CmpOp.NotIn)=d_:=by cases op <;> first | rfl | exact absurd rfl h2
 cases b <;> simp [K3,e1,e2]
theorem zt {op:CmpOp} {r:R2} (ho:OpR X (Lj op) r) (ha:PE X a ta) (hb:PE X b tb) (hm:K3 op b=d_):PE X (.Compare a [op] [b] pos) (tOp r ta tb):=by
 intro f' s σ H Q I h;exact wpAny_Compare1 (GR ha hb I h fun v u s2 x y H2 I2 rx ry q=>ho f' s2 σ H2 x y v u Q I2 rx ry q) hm
def GW (t:TE):TT:=fun σ H Q=>t σ H fun x H'=>∃ k,x=.bl k∧Q k H'
theorem zu {op:CmpOp} {r:R2} (ho:OpR X (Lj op) r) (ha:PE X a ta) (hb:PE X b tb) (hm:K3 op b=d_):PT X (.Compare a [op] [b] pos) (GW (tOp r ta tb)):=by
 intro f' s σ H Q I h;refine wpAny_isTrue_Compare1 (thn (ha f' s σ H _ I h) fun v s1 ⟨x,H1,I1,r1,q1⟩=>thn (hb f' s1 σ H1 _ I1 q1) fun u s2 ⟨y,H2,I2,r2,q2⟩ =>
  thn (ho f' s2 σ H2 x y v u _ I2 r1 r2 q2) fun c s3 ⟨z,H3,I3,r3,k,e,q3⟩=>?_) hm
 subst e;cases r3;exact Ms ⟨H3,I3,q3⟩
theorem mV:(sizeLine:Nat) < 2 ^ 63:=by rw [NK]; decide
theorem op_add_str:OpR X (Mi .Add) (fun x y H Q=>∃ i j,x=.str i∧y=.str j∧i.length + j.length≤sizeLine∧Q (.str (i ++ j)) H):=by
 intro f' s σ H x y v u Q I rx ry h;obtain ⟨i,j,rfl,rfl,hz,q⟩:=h;obtain ⟨t,rfl⟩:=rx;obtain ⟨t',rfl⟩:=ry;exact add_str (fun t' tk=>⟨.str (i ++ j),H,I.tok _,⟨_,rfl⟩,q⟩) hz
theorem eW {x:V} {us:List g_} (r:Vals [x] us):∃ u,us=[u]∧RelV x u:=by
 cases r with
 | cons r1 r2=>cases r2; exact ⟨_,rfl,r1⟩
theorem ww {x y:V} {us:List g_} (r:Vals [x,y] us):∃ u w',us=[u,w']∧RelV x u∧RelV y w':=by
 cases r with
 | cons r1 r2 =>
  cases r2 with
  | cons r3 r4=>cases r4; exact ⟨_,_,rfl,r1,r3⟩
theorem tu (hc:X.calm=c_):CallR X (.builtin "max") (fun xs H Q=>∃ i j,xs=[.int i,.int j]∧Q (.int (if j > i then j else i)) H):=by
 intro f' s σ H xs us Q I r h;obtain ⟨i,j,rfl,q⟩:=h;obtain ⟨u,w',rfl,⟨t,rfl⟩,⟨t',rfl⟩⟩:=ww r;refine max_two_ints (I.ok.hd hc) fun h' tk k=>⟨_,H,I.kept k,?_,q⟩;by_cases hj:j > i
 · rw [if_pos hj,if_pos hj]; exact ⟨_,rfl⟩
 · rw [if_neg hj,if_neg hj]; exact ⟨_,rfl⟩
theorem tx (hc:X.calm=c_):CallR X (.builtin "min") (fun xs H Q=>∃ i j,xs=[.int i,.int j]∧Q (.int (if j < i then j else i)) H):=by
 intro f' s σ H xs us Q I r h;obtain ⟨i,j,rfl,q⟩:=h;obtain ⟨u,w',rfl,⟨t,rfl⟩,⟨t',rfl⟩⟩:=ww r;refine min_two_ints (I.ok.hd hc) fun h' tk k=>⟨_,H,I.kept k,?_,q⟩;by_cases hj:j < i
 · rw [if_pos hj,if_pos hj]; exact ⟨_,rfl⟩
 · rw [if_neg hj,if_neg hj]; exact ⟨_,rfl⟩
theorem mW:CallR X (.type "str") (fun xs H Q=>∃ i,xs=[.int i]∧i.natAbs.log2 < 1920∧Q (.str (QX i)) H):=by
 intro f' s σ H xs us Q I r h;obtain ⟨i,rfl,hz,q⟩:=h;obtain ⟨u,rfl,t,rfl⟩:=eW r;exact QM hz ⟨.str _,H,I.tok _,⟨_,rfl⟩,q⟩
def JV (K:e_) (x:V) (H:Hp) (n:Nat):Prop :=
 match x with
 | .str y=>y.length≤sizeLine∧n=y.length
 | .byt y=>y.size≤sizeLine∧n=y.size
 | .ref p=>(∃ xs,SqL K H p xs∧n=xs.length)∨∃ xs,SqT K H p xs∧n=xs.length
 | _=>False
theorem wx:CallR X (.builtin "len") (fun xs H Q=>∃ x n,xs=[x]∧JV X.K x H n∧Q (.int n) H):=by
 intro f' s σ H xs us Q I r h;obtain ⟨x,n,rfl,e,q⟩:=h;obtain ⟨u,rfl,rx⟩:=eW r;have hl:=mV;have hs:sizeLine=16777216:=NK;cases x with
 | str y =>
  obtain ⟨t,rfl⟩:=rx;obtain ⟨hy,e'⟩:y.length≤sizeLine∧n=y.length:=e;subst e';exact len_str (by omega) ⟨.int _,H,I.tok _,⟨_,rfl⟩,q⟩
 | byt y =>
  obtain ⟨t,rfl⟩:=rx;obtain ⟨hy,e'⟩:y.size≤sizeLine∧n=y.size:=e;subst e';exact PySem.W.len_bytes (by omega) ⟨.int _,H,I.tok _,⟨_,rfl⟩,q⟩
 | ref p =>
  cases rx;have e':(∃ xs,SqL X.K H p xs∧n=xs.length)∨∃ xs,SqT X.K H p xs∧n=xs.length:=e;rcases e' with ⟨xs,hx,e'⟩ | ⟨xs,hx,e'⟩
  · subst e';obtain ⟨its,r',pl,hz⟩:=I.list hx;have hlen:=r'.length;exact Calls.call_len_list pl.isList (by simp only [xy]; omega) ⟨.int xs.length,H,I.tok _,⟨_,by simp only [xy]; rw [hlen]⟩,q⟩
  · subst e';obtain ⟨its,r',pl,hz⟩:=I.tuple hx;have hlen:=r'.length;exact len_tuple pl (by simp only [xy]; omega) ⟨.int xs.length,H,I.tok _,⟨_,by simp only [xy]; rw [hlen]⟩,q⟩
 | _=>exact (show False from e).elim
end
structure ObjM (h:K5) (x dx C:k_) (mA:Str→Option g_):Prop where
 obj:h.get? x=a_ (MG C dx)
 ns:h.Ns1 dx mA
 ne:dx≠x
theorem tz {h:K5} {dx:k_} {mA:Str→Option g_} (n:h.Ns1 dx mA):∃ od,h.get? dx=a_ od∧∀ name,Qa name od=a_ (mA name):=by
 obtain ⟨o,es,ep,ho,hd,hk,_,hm⟩:=n;refine ⟨o,ho,fun name=>?_⟩;have e:=hm name;unfold nsFind findBy at e;rw [← Array.find?_toList] at e;unfold Qa;rw [hd];dsimp only;split
 · rename_i y q;rw [q] at e;exact congrArg a_ e
 · rename_i q;rw [q] at e;have a:es.toList.any (·.refKey)=d_:=by
    rw [Rj];intro y hy;obtain ⟨z,t,hkey⟩:=hk y (Lz.mp hy);simp [DictEntry.refKey,hkey]
   have a':¬ es.toList.any (·.refKey)=c_:=by rw [a]; exact p_
   rw [if_neg a'];exact congrArg a_ e
theorem ObjM.look {h:K5} {x dx C:k_} {mA:Str→Option g_} (I:ObjM h x dx C mA):∃ od,PySem.W.InstAt h x (MG C dx) C (a_ od)∧∀ name,Qa name od=a_ (mA name) :=
 let ⟨od,ho,hl⟩:=tz I.ns
 ⟨od,⟨I.obj,rfl,rfl,ho⟩,hl⟩
section
variable {prog:r_} {w:E_} {A:G_} {E:g_→h_→Prop} {s:h_} {K:e_} {x dx C f:k_} {mA:Str→Option g_} {name:Str} {v:g_}
theorem tE {ns:List Str} {Q:Unit→h_→Prop} (X:K.In s.heap) (I:ObjM s.heap x dx C mA)
 (hs:Nj K (.ref C) "__setattr__"=a_ (a_ (.builtin "object.__setattr__"))) (hp:Q4 K C=c_) (ht:PySem.W.takerIn K C name=a_ ck) (hh:Q8 K C=c_)
 (hw:Q1 mA ns) (hsz:ns.length≤sizeLine)
 (h:∀ h',ObjM h' x dx C (fun y=>if y=name then a_ v else mA y)→Nq dx s.heap h'→Q () { s with heap:=h',toks:=s.toks + 2 }) :
 w_ (z_ prog w) A (setAttr (.ref x) name v) Q E s:=by
 obtain ⟨od,J,hl⟩:=I.look;refine PySem.W.set_plain X J hs (PySem.W.osa_open (s:={ s with toks:=s.toks + 1 }) (r:=ck) X J hp ht fun b=>?_);obtain ⟨cd,hc,hd'⟩:=PySem.W.any_some hh;have hx:s.heap.get? x=a_ ⟨.ref C,a_ dx,.plain,#[]⟩:=I.obj;refine f_ (m_ (f_ (f_ (wpAny_loadPart hx (f_ (PySem.W.Looks.here (s:={ s with toks:=s.toks + 1 }) (PySem.W.looks_clsIn X hc) ?_))))));rw [hd'];refine m_ (a:=a_ dx) (f_ (m_ (f_ ?_)));refine wpAny_nsSet1 (s:={ s with toks:=s.toks + 1 }) I.ns fun h' hn2 hs2=>?_;obtain ⟨oD,esD,epD,hoD,hdD,hcD⟩:=hn2.count (PySem.Within.cons name v hw);refine f_ (wpAny_lookBehind hoD (by rw [hdD]; exact pastItsLine_dict (K0 hcD (by rw [LR]; omega))) ?_);exact m_ (h _ ⟨(hs2.2 _ (M8 I.ne)).trans I.obj,hn2,I.ne⟩ hs2)
end
section
variable {P:r_} {w:E_} {H H':Hp} {h h':K5} {a C dx:k_} {fs fs':List (Str×V)}
theorem zv (hok:HOk P w H h) (e:H a=a_ (.ins C dx fs)):∃ mA,ObjM h a dx C mA∧(∀ f,GF (fs.lookup f) (mA f))∧Q1 mA (fs.map (·.1))∧fs.length≤1000∧H dx=a_ (.own a):=by
 obtain ⟨d,z,ne,ob,mA,n,r,q⟩:=(show ObjOk P w H h a (.ins C dx fs) from hok a _ e);exact ⟨mA,⟨ob,n,ne⟩,r,q,z,d⟩
end
structure Cls (K:e_) (C:k_):Prop where
 pg:Ro K C Si=c_
 hd:Q8 K C=c_
 po:Q4 K C=c_
 sa:Nj K (.ref C) "__setattr__"=a_ (a_ (.builtin "object.__setattr__"))
theorem Cls.get {K:e_} {C:k_} (c:Cls K C) (f:Str):Ro K C f=c_:=c.pg
structure Con (K:e_) (C:k_) (f:Str) (v:V) (u:g_):Prop where
 at_:Nj K (.ref C) f=a_ (a_ u)
 rel:RelV v u
 get:Q3 K u "__get__"=a_ ck
 cp:PySem.W.copiedNames.contains f=d_
structure KS (K:e_) (C:k_) (m:Str) (f:k_):Prop where
 at_:Nj K (.ref C) m=a_ (a_ (.ref f))
 fn:Sl K (.ref f)=c_
 kp:LZ K (.ref f)=c_
section
variable {X:Cx} {f':List (k_×Obj)} {σ:St} {H:Hp} {s:h_} {a C dx:k_} {fs:List (Str×V)} {f:Str} {v:V} {A:G_} {E:g_→h_→Prop}
theorem Inv.made (I:Inv X f' σ H s):Inv X f' σ (upd (upd H s.heap.objs.size (.own (s.heap.objs.size + 1))) (s.heap.objs.size + 1) (.ins C s.heap.objs.size []))
 { s with heap:=(s.heap.push Md).push (MG C s.heap.objs.size) }:=by
 have e1:(s.heap.push Md).get? s.heap.objs.size=a_ Md:=B_ s.heap rfl;have e2:((s.heap.push Md).push (MG C s.heap.objs.size)).get? (s.heap.objs.size + 1)=a_ (MG C s.heap.objs.size):=by
  have:=B_ (s.heap.push Md) (o:=MG C s.heap.objs.size) rfl
  rwa [Lv] at this
 have e3:(s.heap.push Md).Ns s.heap.objs.size (fun _=>ck):=⟨Md,#[],_,e1,rfl,(fun e he=>absurd he (by simp)),fun _=>rfl⟩;have I1:=I.laid (a:=s.heap.objs.size) (o:=.own (s.heap.objs.size + 1)) (h':=s.heap.push Md) (t':=s.toks) (fun b u q=>j_ _ q) (uk _) ⟨_,e1⟩;refine I1.laid (a:=s.heap.objs.size + 1) (o:=.ins C s.heap.objs.size []) (t':=s.toks) (fun b u q=>j_ _ q) (N3 (Lv _ _)) ?_;have ne:s.heap.objs.size≠s.heap.objs.size + 1:=K7 (RA _);refine ⟨by rw [aB ne,aA],Mh _,ne,e2,fun _=>ck,(Heap.Ns1.of_empty e3).at fun o q=>j_ _ q,fun _=>OG,fun y hy=>absurd rfl hy⟩
end
section
variable {X:Cx} {o e value:F_} {f:Str} {pos pos' tpos:Pos} {ta tv:TE}
end
section
variable {X:Cx} {f':List (k_×Obj)} {σ:St} {H:Hp} {s:h_} {A:G_} {E:g_→h_→Prop} {Q:g_→h_→Prop} {c:g_} {b:Bool}
inductive qj (K:e_) (H:Hp):V→g_→Prop where
 | non:qj K H .non (.type "NoneType")
 | bl (x:Bool):qj K H (.bl x) (.type "bool")
 | int (i:Int):qj K H (.int i) (.type "int")
 | str (x:Str):qj K H (.str x) (.type "str")
 | flt (x:UInt64):qj K H (.flt x) (.type "float")
 | lst {a:k_} {xs:List V} (e:H a=a_ (.lst xs)):qj K H (.ref a) (.type "list")
 | frz {a:k_} {o:Obj} {xs:List V} (e:H a=a_ (.frz o (.lst xs))):qj K H (.ref a) (.type "list")
 | tup {a:k_} {xs:List V} (e:H a=a_ (.tup xs)):qj K H (.ref a) (.type "tuple")
 | dK {a:k_} {kvs:List (Key×V)} (e:H a=a_ (.dK kvs)):qj K H (.ref a) (.type "dict")
 | dT {a:k_} {kvs:List (List Key×V)} (e:H a=a_ (.dT kvs)):qj K H (.ref a) (.type "dict")
 | ins {a C dx:k_} {fs:List (Str×V)} (e:H a=a_ (.ins C dx fs)) (cl:Cls K C) (ha:Nj K (.ref C) "__class__"=a_ (a_ (.builtin "object.__class__")))
  (hn:Q3 K (.builtin "object.__class__") "__get__"=a_ (a_ (.builtin "getset_descriptor.__get__"))) (htk:PySem.W.takesIn K (.builtin "object.__class__")=a_ c_)
  (hm:PySem.W.mroIn K C (.type "object")=a_ c_):qj K H (.ref a) (.ref C)
theorem tG {x:V} {u t:g_} (I:Inv X f' σ H s) (rx:RelV x u) (ty:qj X.K H x t) (e:MV X.K t c=a_ b) (h:∀ tk,Q (.bool b) { s with toks:=tk }) :
 w_ (z_ X.prog X.w) A (call (.builtin "isinstance") [u,c]) Q E s:=by
 cases ty with
 | non=>cases (show u=K9 from rx); exact LQ PySem.W.kitx_none I.kIn OG e (fun z=>nomatch z) h
 | bl y=>cases (show u=Lo y from rx); exact LQ PySem.W.kitx_bool I.kIn OG e (fun z=>nomatch z) h
 | int i=>obtain ⟨t,q⟩:=(show ∃ t,u=Rp i t from rx); cases q; exact LQ PySem.W.kitx_int I.kIn OG e (fun z=>nomatch z) h
 | str y=>obtain ⟨t,q⟩:=(show ∃ t,u=No y t from rx); cases q; exact LQ PySem.W.kitx_str I.kIn OG e (fun z=>nomatch z) h
 | flt y=>obtain ⟨t,q⟩:=(show ∃ t,u=Value.float y t from rx); cases q; exact LQ PySem.W.kitx_float I.kIn OG e (fun z=>nomatch z) h
 | @lst a xs ea =>
  cases (show u=x_ a from rx);obtain ⟨_,_,n,_,h1⟩:=(show ObjOk X.prog X.w H s.heap a (.lst xs) from I.hok a _ ea);exact LQ Q6 I.kIn ⟨_,h1,rfl⟩ e (fun z=>nomatch z) h
 | @frz a ob xs ea =>
  cases (show u=x_ a from rx);obtain ⟨_,_,_,n,_,h1⟩:=(show ObjOk X.prog X.w H s.heap a (.frz ob (.lst xs)) from I.hok a _ ea);exact LQ Q6 I.kIn ⟨_,h1,rfl⟩ e (fun z=>nomatch z) h
 | @tup a xs ea =>
  cases (show u=x_ a from rx);obtain ⟨_,_,_,p⟩:=(show ObjOk X.prog X.w H s.heap a (.tup xs) from I.hok a _ ea);obtain ⟨o,h1,h2,_⟩:=p;exact LQ PySem.W.kitx_tuple I.kIn ⟨o,h1,h2⟩ e (fun z=>nomatch z) h
 | @dK a kvs ea =>
  cases (show u=x_ a from rx);obtain ⟨_,_,vs,_,p⟩:=(show ObjOk X.prog X.w H s.heap a (.dK kvs) from I.hok a _ ea);obtain ⟨o,es,ep,h1,h2,_⟩:=p;exact LQ Q7 I.kIn ⟨o,h1,h2.1⟩ e (fun z=>nomatch z) h
 | @dT a kvs ea =>
  cases (show u=x_ a from rx);obtain ⟨_,_,xs,_,o,es,ep,h1,h2,_⟩:=(show ObjOk X.prog X.w H s.heap a (.dT kvs) from I.hok a _ ea);exact LQ Q7 I.kIn ⟨o,h1,h2.1⟩ e (fun z=>nomatch z) h
 | @ins a C dx fs ea cl ha hn htk hm =>
  cases (show u=x_ a from rx);obtain ⟨mA,O,_⟩:=zv I.hok ea;obtain ⟨od,J,_⟩:=O.look;exact LQ (PySem.W.kitx_own (cl.get _) cl.hd ha hn htk hm) I.kIn J e (fun z=>nomatch z) h
end
structure Room (k:Nat) (A:G_):Prop where
 hd:A.handled=ck
 dp:A.depth + 3 * k + 5 < recursionLimit
 un:A.units + 16 * k + 200 < cLine
theorem Room.mono {j k:Nat} {A:G_} (r:Room k A) (h:j≤k):Room j A:=⟨r.hd,by have:=r.dp; omega,by have:=r.un; omega⟩
theorem Room.deeper {k:Nat} {A:G_} (r:Room (k + 1) A) (env:Env):Room k (A.deeper env) :=
 ⟨r.hd,by have:=r.dp; show A.depth + 1 + 3 * k + 5 < _; omega,by have:=r.un; show A.units + 3 + 16 * k + 200 < _; omega⟩
theorem Room.in1 {k:Nat} {A:G_} (r:Room (k + 1) A):Room k A.in1 :=
 ⟨r.hd,by have:=r.dp; show A.depth + 3 * k + 5 < _; omega,by have:=r.un; show A.units + 1 + 16 * k + 200 < _; omega⟩
theorem Room.depth {k:Nat} {A:G_} (r:Room k A):A.depth < recursionLimit:=by have:=r.dp; omega
theorem Room.units {k:Nat} {A:G_} (r:Room k A):A.units + 64 < cLine:=by have:=r.un; omega
theorem Room.units0 {k:Nat} {A:G_} (r:Room k A):A.units < cLine:=by have:=r.un; omega
def JW:TA:=fun _ H Q=>Q [] H
def GX (ta:TE) (tr:TA):TA:=fun σ H Q=>ta σ H fun x H1=>tr σ H1 fun xs H2=>Q (x :: xs) H2
section
variable {X:Cx} {e:F_} {es:List F_} {te:TE} {t:TA} {pos:Pos}
theorem qk:PA X [] JW:=fun _ _ _ _ H Q I h=>Q9 ⟨[],H,I,.nil,h⟩
theorem iA (ha:PE X e te) (hr:PA X es t) (hs:i_ (e :: es) X.env=(d_,eval e X.env) :: i_ es X.env:=by rfl):PA X (e :: es) (GX te t):=by
 intro pos f' s σ H Q I h;rw [hs];show w_ _ _ (spliced ((d_,eval e X.env) :: Lr pos (i_ es X.env))) _ _ s;refine QP (thn (ha f' s σ H _ I h) fun u s1 ⟨x,H1,I1,r1,q1⟩=>?_);exact thn (hr pos f' s1 σ H1 _ I1 q1) fun us s2 ⟨xs,H2,I2,r2,q2⟩=>⟨x :: xs,H2,I2,.cons r1 r2,q2⟩
def JX (t:TA):TE:=fun σ H Q=>t σ H fun xs H1=>xs.length≤sizeLine∧∀ p,H1 p=ck→Q (.ref p) (upd H1 p (.tup xs))
def JY (t:TA):TE:=fun σ H Q=>t σ H fun xs H1=>xs.length≤sizeLine∧∀ p,H1 p=ck→Q (.ref p) (upd H1 p (.lst xs))
theorem Ce {x1} (h:PA X es t):PE X (.Tuple es x1 pos) (JX t):=by
 intro f' s σ H Q I hq;refine wpAny_Tuple_spliced (thn (h pos f' s σ H _ I hq) fun us s1 ⟨xs,H1,I1,r,z,q⟩=>⟨by rw [← r.length]; exact z,?_⟩);have hf:H1 s1.heap.objs.size=ck:=I1.hok.fresh (uk _);refine ⟨.ref s1.heap.objs.size,upd H1 s1.heap.objs.size (.tup xs),I1.laid (t':=s1.toks) (fun b u e=>j_ _ e) (uk _) ?_,rfl,q _ hf⟩;exact ⟨z,us,r,⟨_,B_ _ rfl,rfl,_,rfl⟩⟩
theorem yw (h:PA X es t):PE X (.List es pos) (JY t):=by
 intro f' s σ H Q I hq;refine wpAny_List_spliced (thn (h pos f' s σ H _ I hq) fun us s1 ⟨xs,H1,I1,r,z,q⟩=>⟨by rw [← r.length]; exact z,?_⟩);have hf:H1 s1.heap.objs.size=ck:=I1.hok.fresh (uk _);refine ⟨.ref s1.heap.objs.size,upd H1 s1.heap.objs.size (.lst xs),I1.laid (t':=s1.toks) (fun b u e=>j_ _ e) (uk _) ?_,rfl,q _ hf⟩;exact ⟨z,us,0,r,B_ _ rfl⟩
end
abbrev Sp:=List V→Hp→VK→XK→Prop
abbrev CXT:=List Env→Hp→h_→XK→g_→h_→Prop
structure Env0 (P:r_) (w:E_) (K:e_) (mg:Str→Option g_) (base:K5) (A:G_) (outer:List Env) (s:h_) (H:Hp):Prop where
 frames:A.frames=a_ outer
 mod:Mod K mg base
 bs:∀ b o,base.get? b=a_ o→s.heap.get? b=a_ o∧H b=ck
 bsz:base.objs.size≤s.heap.objs.size
 funs:s.heap.FunFrames base outer
 frf:∀ b∈frs outer,H b=ck
 hok:HOk P w H s.heap
 bare:OC s.gens
def CE (outer:List Env) (P:r_) (w:E_) (H:Hp) (s:h_) (Q:VK) (u:g_) (s':h_):Prop :=
 ∃ v H',s'.os=s.os∧OC s'.gens∧Un (frs outer) [] H H' s.heap s'.heap∧HOk P w H' s'.heap∧RelV v u∧Q v H'
def CR (CX:CXT) (outer:List Env) (P:r_) (w:E_) (H:Hp) (s:h_) (Q:VK) (E:XK) (r:QL) (s':h_):Prop :=
 match r with
 | .ok (.ret u)=>CE outer P w H s Q u s'
 | .ok _=>False
 | .error e=>CX outer H s E e s'
structure FnOk (P:r_) (w:E_) (K:e_) (mg:Str→Option g_) (base:K5) (CX:CXT) (k:Nat) (f:k_) (fd:LK) (ps:List Str) (sp:Sp):Prop where
 len:∀ vs H Q E,sp vs H Q E→vs.length=ps.length
 run:∀ (A:G_) (outer:List Env) (s:h_) (H:Hp) (args:Args) (us:List g_) (vs:List V) (Q:VK) (E:XK),Room k A→Env0 P w K mg base A outer s H→O3 s fd args (ps.zip us)→Vals vs us→sp vs H Q E →
  NV (z_ P w) A (.call (.ref f) args) (CR CX outer P w H s Q E) s
theorem FnOk.mono {P:r_} {w:E_} {K:e_} {mg:Str→Option g_} {base:K5} {CX:CXT} {j k:Nat} {f:k_} {fd:LK} {ps:List Str} {sp:Sp} (F:FnOk P w K mg base CX j f fd ps sp) (h:j≤k) :
 FnOk P w K mg base CX k f fd ps sp:=⟨F.len,fun A outer s H args us vs Q E hr=>F.run A outer s H args us vs Q E (hr.mono h)⟩
theorem FnOk.imp {P:r_} {w:E_} {K:e_} {mg:Str→Option g_} {base:K5} {CX:CXT} {k:Nat} {f:k_} {fd:LK} {ps:List Str} {sp sp':Sp} (F:FnOk P w K mg base CX k f fd ps sp)
 (h:∀ vs H Q E,sp' vs H Q E→sp vs H Q E):FnOk P w K mg base CX k f fd ps sp' :=
 ⟨fun vs H Q E q=>F.len vs H Q E (h _ _ _ _ q),fun A outer s H args us vs Q E hr he hb hv hs=>F.run A outer s H args us vs Q E hr he hb hv (h _ _ _ _ hs)⟩
theorem Env0.in1 {P:r_} {w:E_} {K:e_} {mg:Str→Option g_} {base:K5} {A:G_} {outer:List Env} {s:h_} {H:Hp} (e:Env0 P w K mg base A outer s H) :
 Env0 P w K mg base A.in1 outer s H:=⟨e.frames,e.mod,e.bs,e.bsz,e.funs,e.frf,e.hok,e.bare⟩
section
variable {X:Cx} {f':List (k_×Obj)} {σ:St} {H:Hp} {s s':h_}
theorem Inv.env0 (I:Inv X f' σ H s):Env0 X.prog X.w X.K X.mg X.base X.A X.stack s H :=
 ⟨I.ok.frames,I.ok.mod,I.bs,K0 I.ok.bsz I.sz,I.stack,I.stkFree,I.hok,I.bare⟩
theorem Inv.after {Q:VK} {u:g_} (I:Inv X f' σ H s) (h:CE X.stack X.prog X.w H s Q u s'):EP X f' σ Q u s':=by
 obtain ⟨v,H',os,bare,un,hok,r,q⟩:=h;obtain ⟨hh,g,d,t,os'⟩:=s';obtain rfl:os'=s.os:=os;exact ⟨v,H',I.call (h':=hh) (g':=g) (d':=d) (t':=t) (ch:=[]) un hok bare (fun b z=>absurd z (by simp)),r,q⟩
end
def GY (sp:Sp) (dvs:List V) (E:XK) (t:TA):TE:=fun σ H Q=>t σ H fun vs H1=>sp (vs ++ dvs) H1 Q E
def Binds (K:e_) (fd:LK) (ps:List Str) (ds:List g_):Prop :=
 ∀ (s:h_) (us:List g_),K.In s.heap→(us ++ ds).length=ps.length→O3 s fd ⟨us,[]⟩ (ps.zip (us ++ ds))
theorem Binds.all {K:e_} {fd:LK} {ps:List Str} (h:∀ us:List g_,us.length=ps.length→bindArgs fd ⟨us,[]⟩=pure (ps.zip us)):Binds K fd ps []:=fun s us _ hl=>by
 rw [Nd] at hl ⊢;exact .of_eq (h us hl)
def ql (CX:CXT) (X:Cx) (E:XK):Prop:=∀ (f':List (k_×Obj)) (σ:St) (H:Hp) (s:h_) (e:g_) (s':h_),Inv X f' σ H s→CX X.stack H s E e s'→X.xe e s'
section
variable {X:Cx} {CX:CXT} {k:Nat} {f C:k_} {fd:LK} {ps:List Str} {sp:Sp} {dvs:List V} {ds:List g_} {E:XK} {x m:Str} {p pos apos:Pos} {e o:F_} {es:List F_} {ta:TE} {t:TA}
theorem Cf {f':List (k_×Obj)} {σ:St} {H:Hp} {s:h_} {Q:VK} {us:List g_} {vs:List V} (F:FnOk X.prog X.w X.K X.mg X.base CX k f fd ps sp) (hr:Room k X.A) (hb:Binds X.K fd ps ds) (hd:Vals dvs ds) (hx:ql CX X E)
 (I:Inv X f' σ H s) (r:Vals vs us) (h:sp (vs ++ dvs) H Q E):w_ (z_ X.prog X.w) X.A (call (.ref f) us) (EP X f' σ Q) X.xe s:=by
 have r2:Vals (vs ++ dvs) (us ++ ds):=r.append hd;have hl:(us ++ ds).length=ps.length:=by rw [← r2.length]; exact F.len _ _ _ _ h
 refine Pt (NU (F.run X.A X.stack s H ⟨us,[]⟩ (us ++ ds) (vs ++ dvs) Q E hr I.env0 (hb s us I.kIn hl) r2 h) fun r s' hq=>?_);cases r with
 | error e=>exact hx f' σ H s e s' I hq
 | ok fl =>
  cases fl with
  | ret u=>exact I.after hq
  | next=>exact Li hq
  | brk=>exact Li hq
  | cont=>exact Li hq
theorem tH (F:FnOk X.prog X.w X.K X.mg X.base CX k f fd ps sp) (hr:Room k X.A) (hg:Gl X x) (hm:X.mg x=a_ (.ref f)) (hk:LZ X.K (.ref f)=c_) (hb:Binds X.K fd ps ds) (hd:Vals dvs ds) (hx:ql CX X E)
 (ha:PA X (e :: es) t) (hdb:(x == ("__debug__":Str))=d_:=by decide) (he:i_ (e :: es) X.env=(d_,eval e X.env) :: i_ es X.env:=by rfl) (hpl:(Lr pos (i_ es X.env)).any (·.1)=d_:=by rfl) :
 PE X (.Call (.Name x p) (e :: es) [] pos) (GY sp dvs E t):=by
 intro f' s σ H Q I h;refine MB (ke I hg hm ?_ hdb);refine QI (h₀:=X.base) I.ok.mod.kin hk (thn (ha pos f' s σ H _ I h) fun us s1 ⟨vs,H1,I1,r,q⟩=>⟨I1.kIn,?_⟩) he hpl;exact Cf F hr hb hd hx I1 r q
structure Mk (K:e_) (C f:k_):Prop where
 makes:PySem.W.makesIn K C=c_
 init:Nj K (.ref C) "__init__"=a_ (a_ (.ref f))
 fn:Sl K (.ref f)=c_
 kp:LZ K (.ref C)=c_
end
section
variable {X:Cx} {CX:CXT} {k:Nat} {f C:k_} {fd:LK} {ps ks:List Str} {sp:Sp} {E:XK} {x m:Str} {p pos apos kpos:Pos} {e o:F_} {es:List F_} {kws:List MR} {te ta:TE} {t tk:TA} {nm:Option Str}
structure IZ (K:e_) (fd:LK) (ps ks:List Str) (g:List g_→List g_→List g_) (gV:List V→List V→List V):Prop where
 to:∀ (s:h_) (us ws:List g_),K.In s.heap→(g us ws).length=ps.length→O3 s fd ⟨us,ks.zip ws⟩ (ps.zip (g us ws))
 rel:∀ {vs:List V} {us:List g_} {zs:List V} {ws:List g_},Vals vs us→Vals zs ws→Vals (gV vs zs) (g us ws)
variable {g:List g_→List g_→List g_} {gV:List V→List V→List V}
end
structure gJ (N P:List Str) (sc:Me):Prop where
 kind:sc.kind=.function
 co:sc.isCoroutine=d_
 gen:sc.isGenerator=d_
 nd:N.Nodup
 pre:N.take P.length=P
 par:∀ x∈P,sc.names.lookup x=a_ .local∨sc.names.lookup x=a_ .cell
 nofree:∀ y∈sc.names,y.2≠.free
theorem mX {kindOf:Str→Option MX} {x:Str}:∀ {binds:List (Str×g_)} {m:Str→Option g_},(∀ v,(x,v) ∉ binds)→R3 kindOf binds m x=m x
 | [],_,_=>rfl
 | (n,v) :: r,m,h=>by
  unfold R3;rw [mX fun w hw=>h w (pi _ hw)];split
  · have:x≠n:=by rintro rfl; exact h v o_
    simp [this]
  · rfl
theorem mY {kindOf:Str→Option MX} {x:Str}:∀ {binds:List (Str×g_)} {m:Str→Option g_},(∀ v,(x,v) ∉ binds)→R4 kindOf binds m x=m x
 | [],_,_=>rfl
 | (n,v) :: r,m,h=>by
  unfold R4;rw [mY fun w hw=>h w (pi _ hw)];split
  · rfl
  · have:x≠n:=by rintro rfl; exact h v o_
    simp [this]
theorem mZ {kindOf:Str→Option MX} {x:Str} {v:g_}:∀ {P:List Str} {vs:List g_} {i:Nat} {m:Str→Option g_},P.Nodup→P[i]?=a_ x→vs[i]?=a_ v→kindOf x=a_ .local →
 R3 kindOf (P.zip vs) m x=a_ v
 | [],_,_,_,_,h,_,_=>by simp at h
 | _ :: _,[],_,_,_,_,h,_=>by simp at h
 | p :: P,w :: vs,0,m,nd,h1,h2,hk=>by
  simp at h1 h2; subst h1; subst h2;show R3 kindOf ((p,w) :: P.zip vs) m p=_;unfold R3;rw [mX fun v hv=>(Nb.mp nd).1 (Ov hv).1,if_pos hk];simp
 | p :: P,w :: vs,i + 1,m,nd,h1,h2,hk=>by
  show R3 kindOf ((p,w) :: P.zip vs) m x=_;unfold R3;exact mZ (i:=i) (Nb.mp nd).2 (by simpa using h1) (by simpa using h2) hk
theorem m5 {kindOf:Str→Option MX} {x:Str} {v:g_}:∀ {P:List Str} {vs:List g_} {i:Nat} {m:Str→Option g_},P.Nodup→P[i]?=a_ x→vs[i]?=a_ v→kindOf x≠a_ .local →
 R4 kindOf (P.zip vs) m x=a_ v
 | [],_,_,_,_,h,_,_=>by simp at h
 | _ :: _,[],_,_,_,_,h,_=>by simp at h
 | p :: P,w :: vs,0,m,nd,h1,h2,hk=>by
  simp at h1 h2; subst h1; subst h2;show R4 kindOf ((p,w) :: P.zip vs) m p=_;unfold R4;rw [mY fun v hv=>(Nb.mp nd).1 (Ov hv).1,if_neg hk];simp
 | p :: P,w :: vs,i + 1,m,nd,h1,h2,hk=>by
  show R4 kindOf ((p,w) :: P.zip vs) m x=_;unfold R4;exact m5 (i:=i) (Nb.mp nd).2 (by simpa using h1) (by simpa using h2) hk
def start (N:List Str) (vs:List V):St:=vs.map a_ ++ u_ (N.length - vs.length) ck
def qm (CX:CXT) (P:r_) (w:E_) (K:e_) (mg:Str→Option g_) (base:K5) (N:List Str) (qual:Str) (scope:Me) (f:k_) (cd:g_) (A:G_) (outer:List Env) (s:h_) (H:Hp) (E:XK):Cx where
 prog:=P
 w:=w
 K:=K
 mg:=mg
 base:=base
 A:=A.deeper (NH qual scope s.heap.objs.size f cd)
 N:=N
 s₀:=s
 H₀:=H
 env:=NH qual scope s.heap.objs.size f cd
 outer:=outer
 stack:=NH qual scope s.heap.objs.size f cd :: outer
 ex:=[]
 calm:=c_
 fn:=fun _=>c_
 pn:=[]
 xe:=fun e s'=>w_ (z_ P w) (A.deeper (NH qual scope s.heap.objs.size f cd)) (leaving (NH qual scope s.heap.objs.size f cd) e) (fun _ s''=>CX outer H s E e s'') (fun e' s''=>CX outer H s E e' s'') s'
theorem qo {sc:Me} {n:Nat} {x:Str} (h:sc.names.lookup x=a_ .cell):∃ c,(Lq n sc.names []).lookup x=a_ c:=by
 have q:=NW sc.names n [] (.inl h);exact MP.mp q
theorem m7 {CX:CXT} {P:r_} {w:E_} {K:e_} {mg:Str→Option g_} {base:K5} {N ps:List Str} {qual:Str} {scope:Me} {f:k_} {cd:g_} {A:G_} {outer:List Env} {s s1:h_} {H:Hp} {E:XK} {us:List g_} {vs:List V}
 (S:gJ N ps scope) (hd:A.handled=ck) (e0:Env0 P w K mg base A outer s H) (hl:vs.length=ps.length) (r:Vals vs us)
 (x:InCallC s s.heap.objs.size (R3 (NH qual scope s.heap.objs.size f cd).kindOf (ps.zip us) fun _=>ck) (Lq (s.heap.objs.size + 1) scope.names []) (R4 (NH qual scope s.heap.objs.size f cd).kindOf (ps.zip us) fun _=>ck) s1) :
 Inv (qm CX P w K mg base N qual scope f cd A outer s H E) [] (start N vs) H s1:=by
 have hpl:ps.length≤N.length:=by have:=congrArg Oo S.pre; rw [Of] at this; omega
 obtain ⟨h1,tk,rfl,hk⟩:=x.done;have noA:∀ b:k_,b ∉ (qm CX P w K mg base N qual scope f cd A outer s H E).ex:=fun b z=>absurd (show b∈([]:List k_) from z) (by simp);refine ⟨⟨e0.mod,S.kind,rfl,rfl,uk _,fun y z c h1 h2=>?_,fun y hy=>?_,fun y c _ h=>?_,fun _=>hd,Qf e0.frames,.inr ⟨rfl,rfl⟩,fun b z=>absurd z (noA b),e0.bs,e0.bsz,fun b _ _=>noA b,fun b z=>absurd z (noA b),e0.funs,e0.frf⟩,
  rfl,e0.bare,Un.kept hk,⟨_,x.toInCall.ns,fun i y v h1 h2 h3=>?_⟩,fun y c h=>⟨_,x.cell y c h⟩,e0.hok.fresh (uk _),fun y c h=>?_,fun p hp=>absurd (show p∈([]:List (k_×Obj)) from hp) (by simp),e0.hok.kept hk,?_⟩
 · exact name_of_addr x.apart (MQ h1) (MQ h2)
 · have hy:scope.names.lookup y=a_ .cell∨scope.names.lookup y=a_ .free:=hy;rcases hy with hy | hy
   · exact qo hy
   · exact absurd rfl (S.nofree _ (MQ hy))
 · exact N2 (x.above y c (MQ h))
 · have hi:i < vs.length:=by
    unfold start at h2;by_cases hi:i < vs.length
    · exact hi
    · rw [LO (by simpa using hi)] at h2;rw [M0] at h2;split at h2 <;> cases h2
   have ha:vs[i]?=a_ v:=by
    unfold start at h2;rw [LS (by simpa using hi),Lx] at h2;cases e:vs[i]? with
    | none=>rw [e] at h2; cases h2
    | some a=>rw [e] at h2; cases h2; rfl
   obtain ⟨u,hu,rv⟩:=r.get ha;have hp:ps[i]?=a_ y:=by
    rw [← S.pre,Pd (by omega)]; exact h1
   have ndP:ps.Nodup:=by rw [← S.pre]; exact S.nd.sublist (Rh _ _)
   refine ⟨u,rv,?_⟩;rcases S.par y (LN hp) with k | k
   · exact .inl ⟨k,mZ ndP hp hu k⟩
   · obtain ⟨c,e⟩:=qo (n:=s.heap.objs.size + 1) k;refine .inr ⟨.inl k,c,e,?_⟩;have q:=x.cell y c e;rw [m5 ndP hp hu (by show scope.names.lookup y≠_; rw [k]; decide)] at q;exact q
 · exact e0.hok.fresh (N2 (x.above y c (MQ h)))
 · unfold start;show _=N.length;rw [LG,La,MD];omega
theorem Cg {CX:CXT} {P:r_} {w:E_} {K:e_} {mg:Str→Option g_} {base:K5} {k:Nat} {f:k_} {name qual:Str} {params:Arguments} {body:List LY} {scope:Me} {dV kV doc pm cdv ct oc:g_} {an od:Option k_}
 {osl:Array (Option g_)} {N ps:List Str} {sp:Sp} (lk:K.lookup f=a_ ⟨oc,od,.func (M6 name qual params body scope dV kV doc pm an cdv ct),osl⟩) (hcd:OJ K cdv qual=c_) (S:gJ N ps scope)
 (len:∀ vs H Q E,sp vs H Q E→vs.length=ps.length)
 (hbody:∀ (A:G_) (outer:List Env) (s:h_) (H:Hp) (vs:List V) (Q:VK) (E:XK),Room k (A.deeper (NH qual scope s.heap.objs.size f cdv))→sp vs H Q E →
   ∃ t,PSs (qm CX P w K mg base N qual scope f cdv A outer s H E) body t∧t { nx:=fun _ H'=>Q .non H',rt:=Q } (start N vs) H) :
 FnOk P w K mg base CX (k + 1) f (M6 name qual params body scope dV kV doc pm an cdv ct) ps sp:=by
 refine ⟨len,fun A outer s H args us vs Q E hr e0 hb r hsp=>?_⟩;have hl:=len _ _ _ _ hsp;have KX:K.In s.heap:=e0.mod.kin.keeps fun b o e=>(e0.bs b o e).1;have lim:s.heap.NoLimit:=e0.mod.nolimit.keeps fun b o e=>(e0.bs b o e).1;have hkind:∀ y∈ps.zip us,scope.names.lookup y.1=a_ .local∨(scope.names.lookup y.1=a_ .cell∧((Lq (s.heap.objs.size + 1) scope.names []).lookup y.1).isSome=c_):=fun ⟨n,v⟩ hy=>by
  rcases S.par n (Ov hy).1 with q | q
  · exact .inl q
  · exact .inr ⟨q,NW _ _ _ (.inl q)⟩
 refine PX hr.depth (KX _ _ lk) rfl S.co S.gen rfl (QH KX hcd) (hb _ _ _ _ ?_);refine OI S.kind hkind fun env he s1 x=>?_;subst he;refine ⟨lim.keeps x.toInCall.keep,codeAny_func ?_⟩;obtain ⟨t,ht,hq⟩:=hbody A outer s H vs Q E (hr.deeper _) hsp;have I:Inv (qm CX P w K mg base N qual scope f cdv A outer s H E) [] (start N vs) H s1:=m7 S hr.hd e0 hl r x;refine LD (ht [] s1 (start N vs) H _ I hq) (fun fl s' hs=>?_) fun e s' hs=>hs;have fin:∀ {σ':St} {H':Hp} {v:V} {u:g_},Inv (qm CX P w K mg base N qual scope f cdv A outer s H E) [] σ' H' s'→RelV v u→Q v H'→CE outer P w H s Q u s' :=
  fun {σ' H' v u} J rv q=>⟨v,H',J.os,J.bare,J.base,J.hok,rv,q⟩
 cases fl with
 | ret u =>
  obtain ⟨v,σ',H',J,rv,q⟩:=hs;exact fin J rv q
 | next =>
  obtain ⟨σ',H',J,q⟩:=hs;exact fin (v:=V.non) (u:=K9) J rfl q
 | brk =>
  obtain ⟨_,_,_,q⟩:=hs;exact Li q
 | cont =>
  obtain ⟨_,_,_,q⟩:=hs;exact Li q
section
variable {X:Cx} {x:Str} {p pos:Pos} {e:F_} {es:List F_} {t:TA} {id T:String} {r:List V→Hp→VK→Prop}
def tCB (r:List V→Hp→VK→Prop) (t:TA):TE:=fun σ H Q=>t σ H fun vs H1=>r vs H1 Q
theorem eM (hc:CallR X (.builtin id) r) (hg:Gl X x) (hm:X.mg x=ck) (hv:LJ x=a_ (.builtin id)) (ha:PA X (e :: es) t) (hn:x≠"__name__":=by decide) (hdb:(x == ("__debug__":Str))=d_:=by decide)
 (he:i_ (e :: es) X.env=(d_,eval e X.env) :: i_ es X.env:=by rfl) (hpl:(Lr pos (i_ es X.env)).any (·.1)=d_:=by rfl):PE X (.Call (.Name x p) (e :: es) [] pos) (tCB r t):=by
 intro f' s σ H Q I h;refine MB (iR I hg hm hv ?_ hn hdb);exact Oc (thn (ha pos f' s σ H _ I h) fun us s1 ⟨vs,H1,I1,r1,q1⟩=>hc f' s1 σ H1 vs us Q I1 r1 q1) he hpl
theorem gK (hc:CallR X (.type T) r) (hg:Gl X x) (hm:X.mg x=ck) (hv:LJ x=a_ (.type T)) (ha:PA X (e :: es) t) (hn:x≠"__name__":=by decide) (hdb:(x == ("__debug__":Str))=d_:=by decide)
 (he:i_ (e :: es) X.env=(d_,eval e X.env) :: i_ es X.env:=by rfl) (hpl:(Lr pos (i_ es X.env)).any (·.1)=d_:=by rfl):PE X (.Call (.Name x p) (e :: es) [] pos) (tCB r t):=by
 intro f' s σ H Q I h;refine MB (iR I hg hm hv ?_ hn hdb);exact LL (thn (ha pos f' s σ H _ I h) fun us s1 ⟨vs,H1,I1,r1,q1⟩=>hc f' s1 σ H1 vs us Q I1 r1 q1) he hpl
end
end L2
namespace HT
open PySem PyProof.Rows
section
open PySem.SeqAt
open PySem.AutoSeq1 (wpAny_loadPart')
open PySem.MeetsSeq PySem.MeetsSeq2 PySem.MeetsSeq3
end
section
variable {prog:r_} {w:E_} {A:G_} {E:g_→h_→Prop} {s:h_}
theorem cat_tup {t b:k_} {vs ws:List g_} {Q:g_→h_→Prop} (ht:Sa s.heap t vs.toArray) (hb:Sa s.heap b ws.toArray) (hv:vs≠[])
 (h1:ws=[]→Q (.ref t) s) (h2:ws≠[]→Q (.ref s.heap.objs.size) { s with heap:=s.heap.push { cls:=.type "tuple",data:=.seq (vs ++ ws).toArray } })
 (hsz:vs.length + ws.length≤sizeLine):w_ (z_ prog w) A (Mi .Add (.ref t) (.ref b)) Q E s:=by
 obtain ⟨⟨cls,dd,data,sl⟩,ho,hc,n,hd⟩:=id ht;obtain ⟨⟨cls2,dd2,data2,sl2⟩,ho2,hc2,n2,hd2⟩:=id hb;simp only at hc hd hc2 hd2;subst hc hd hc2 hd2;have e:vs.toArray ++ ws.toArray=(vs ++ ws).toArray:=by simp
 by_cases hw:ws=[]
 · exact QZ ⟨_,ho,rfl⟩ ⟨_,ho2,rfl⟩ Pg QC NZ NN (NC _ _)
    (tuple_addW1 t b vs.toArray ws.toArray n n2 dd dd2 sl sl2 (by simpa using hv) (by simp [hw])) ⟨ho,ho2,h1 hw⟩
 · refine QZ ⟨_,ho,rfl⟩ ⟨_,ho2,rfl⟩ Pg QC NZ NN (NC _ _)
    (tuple_addW2 t b vs.toArray ws.toArray n n2 dd dd2 sl sl2 (by simpa using hv) (by simpa using hw) (by rw [xy,xy]; exact hsz)) ⟨ho,ho2,?_⟩
   rw [e];exact h2 hw
def sIx (n d:Nat):Option Int→Nat
 | none=>d
 | some v=>if v < 0 then (v + (n:Int)).toNat else min v.toNat n
theorem Ch (n d:Nat) (hd:d≤n) (o:Option Int):sIx n d o≤n:=by
 cases o with
 | none=>exact hd
 | some v =>
  show (if v < 0 then (v + (n:Int)).toNat else min v.toNat n)≤n;by_cases hv:v < 0
  · rw [if_pos hv]; omega
  · rw [if_neg hv]; exact Po _ _
theorem tI (v:Int) (n d:Nat):(if v < 0 then max (v + (n:Int)) 0 else min v (n:Int))=((sIx n d (a_ v):Nat):Int):=by
 show (if v < 0 then max (v + (n:Int)) 0 else min v (n:Int))=(((if v < 0 then (v + (n:Int)).toNat else min v.toNat n):Nat):Int);by_cases hv:v < 0
 · simp only [if_pos hv]; omega
 · simp only [if_neg hv]; omega
theorem rF (lo hi:Option Int) (n:Nat):Nu lo hi 1 (n:Int)=(((sIx n 0 lo:Nat):Int),((sIx n n hi:Nat):Int)):=by
 have h1:¬ ((1:Int) < 0):=by omega
 unfold Nu;simp only [h1,if_false];refine Prod.ext ?_ ?_
 · cases lo with
   | none=>rfl
   | some v=>exact tI v n 0
 · cases hi with
   | none=>rfl
   | some v=>exact tI v n n
theorem rG (i j:Nat):MF (i:Int) (j:Int) 1=j - i:=by
 unfold MF;have h1:(1:Int) > 0:=by omega
 simp only [h1,if_true,Int.ediv_one];split <;> omega
theorem ll {v:g_} {o:Option Int} {Q:Option Int→h_→Prop} (p:PC v o) (h:Q o s):w_ (z_ prog w) A (Builtin.Slice.slicePartIndex v) Q E s:=by
 cases p with
 | none=>exact slicePart_none h
 | int i t=>exact slicePart_int h
theorem sliceApplied_gen {sl:k_} {vl vu:g_} {lo hi:Option Int} {n:Nat} {Q:Int×Int×Nat→h_→Prop} (hs:s.heap.IsSliceOf sl vl vu .none) (pl:PC vl lo) (pu:PC vu hi)
 (h:Q (((sIx n 0 lo:Nat):Int),1,sIx n n hi - sIx n 0 lo) s):w_ (z_ prog w) A (OT (.ref sl) (pure (n:Int))) Q E s:=by
 obtain ⟨os,hos,hcs,hds⟩:=id hs;unfold OT Builtin.Slice.sliceFields;refine f_ (f_ (LM hos hds (x:=vl) rfl (f_ (LM hos hds (x:=vu) rfl (f_ (LM hos hds (x:=.none) rfl (m_ ?_)))))));refine f_ (slicePart_none ?_);show w_ _ _ (if ((1:Int) == 0)=c_ then _ else _) _ _ s;rw [if_neg (by decide)];refine f_ (ll pl (f_ (ll pu (f_ (m_ ?_)))));show w_ _ _ (match Nu lo hi 1 (n:Int) with | (lo,hi)=>pure (lo,(1:Int),MF lo hi 1)) _ _ s
 rw [rF lo hi n];show w_ _ _ (pure (((sIx n 0 lo:Nat):Int),(1:Int),MF ((sIx n 0 lo:Nat):Int) ((sIx n n hi:Nat):Int) 1)) _ _ s;rw [rG];exact m_ h
theorem wz (xs:Array g_) (i k:Nat):((s_ k).filterMap fun (m:Nat)=>xs[((i:Int) + (m:Int) * 1).toNat]?).toArray=((xs.toList.drop i).take k).toArray:=by
 have e:(fun (m:Nat)=>xs[((i:Int) + (m:Int) * 1).toNat]?)=fun m=>xs[i + m]?:=by
  funext m;have:((i:Int) + (m:Int) * 1).toNat=i + m:=by omega
  rw [this]
 rw [e];have:=pick_run xs i k;rw [OV] at this;have e2:((fun x=>xs[x]?) ∘ fun x=>i + x)=fun m=>xs[i + m]?:=rfl;rw [e2] at this;rw [this]
theorem getItem_tuple_cut {t sl:k_} {items:Array g_} {vl vu:g_} {lo hi:Option Int} {Q:g_→h_→Prop} (ht:Sa s.heap t items) (hs:s.heap.IsSliceOf sl vl vu .none) (pl:PC vl lo) (pu:PC vu hi)
 (hw:¬ (sIx items.size 0 lo=0∧sIx items.size items.size hi=items.size))
 (h:Q (.ref s.heap.objs.size) { s with heap:=s.heap.push { cls:=.type "tuple",data:=.seq ((items.toList.drop (sIx items.size 0 lo)).take (sIx items.size items.size hi - sIx items.size 0 lo)).toArray } })
 (hsz:items.size≤sizeLine):w_ (z_ prog w) A (Pw (.ref t) (.ref sl)) Q E s:=by
 have htake:sizeOk (.seq ((items.toList.drop (sIx items.size 0 lo)).take (sIx items.size items.size hi - sIx items.size 0 lo)).toArray):=by
  show ((items.toList.drop (sIx items.size 0 lo)).take (sIx items.size items.size hi - sIx items.size 0 lo)).toArray.size≤sizeLine;rw [xy,Of,Nr,Lf];omega
 have hj:sIx items.size items.size hi≤items.size:=Ch _ _ (uk _) hi;obtain ⟨os,hos,hcs,hds⟩:=id hs;have hTs:s.TypeIs (.ref sl) "slice":=⟨os,hos,hcs⟩;unfold Pw
 try with_reducible refine LH ?_
 first | refine f_ (m_ ?_) | skip
 refine f_ (wpAny_sequenceKey ht.typeIs (by decide) ?_);refine f_ (L7 (name:=b_ "__getitem__") ht.typeIs LC
  (MU LC ht.typeIs entry_tuple_getitem ?_ (args_tuple_getitem _ _)))
 show w_ _ _ (OS (.ref t) >>= _) _ _ s;refine f_ (tupleItemsOf_ ht ?_);refine f_ (Pr hTs ?_);rw [if_pos (by decide)];refine f_ (sliceApplied_gen hs pl pu ?_);have hno:¬ ((((sIx items.size 0 lo:Nat):Int) == 0 && (1:Int) == 1 && (sIx items.size items.size hi - sIx items.size 0 lo) == items.size)=c_):=by
  intro q;rw [n_,n_] at q;have q1:((sIx items.size 0 lo:Nat):Int)=0:=Qt q.1.1;have q2:sIx items.size items.size hi - sIx items.size 0 lo=items.size:=Qt q.2;exact hw ⟨by omega,by omega⟩
 show w_ _ _ (if (((sIx items.size 0 lo:Nat):Int) == 0 && (1:Int) == 1 && (sIx items.size items.size hi - sIx items.size 0 lo) == items.size)=c_ then _ else _) _ _ s;rw [if_neg hno,wz]
 first
  | exact f_ (m:=MO _) (Mt (m_ ⟨_,rfl,m_ h⟩) htake)
  | exact f_ (m:=MO _) (Mt (f_ (m_ (m_ ⟨_,rfl,m_ h⟩))) htake)
  | exact f_ (f_ (m:=MO _) (Mt (m_ (m_ ⟨_,rfl,m_ h⟩)) htake))
  | exact f_ (f_ (m:=MO _) (Mt (m_ ⟨_,rfl,m_ h⟩) htake))
end
end HT
namespace L2
open PySem PySem.Spec PyProof.Rows
abbrev TO:=St→Hp→(Option Int→Hp→Prop)→Prop
def PO (X:Cx) (e:Option F_) (t:TO):Prop :=
 ∀ (f':List (k_×Obj)) (s:h_) (σ:St) (H:Hp) (Q:Option Int→Hp→Prop),Inv X f' σ H s→t σ H Q →
  w_ (z_ X.prog X.w) X.A (evalPart e X.env) (fun u s'=>∃ o H',Inv X f' σ H' s'∧PC u o∧Q o H') X.xe s
def zw:TO:=fun _ H Q=>Q ck H
def GZ (t:TE):TO:=fun σ H Q=>t σ H fun x H1=>∃ i,x=.int i∧Q (a_ i) H1
section
variable {X:Cx} {e:F_} {te:TE} {lo hi:Option F_} {tl th:TO} {pos p2:Pos}
theorem zx:PO X ck zw:=by
 intro f' s σ H Q I h;rw [evalPart_none];exact m_ ⟨ck,H,I,.none,h⟩
theorem zy (h:PE X e te):PO X (a_ e) (GZ te):=by
 intro f' s σ H Q I hw;rw [evalPart_some];refine thn (h f' s σ H _ I hw) fun u s1 ⟨x,H1,I1,r1,q1⟩=>?_;obtain ⟨i,rfl,q⟩:=q1;obtain ⟨t,rfl⟩:=r1;exact ⟨a_ i,H1,I1,.int i t,q⟩
def SlR (X:Cx) (r:V→Option Int→Option Int→Hp→VK→Prop):Prop :=
 ∀ (f':List (k_×Obj)) (s:h_) (σ:St) (H:Hp) (x:V) (v vl vu:g_) (lo hi:Option Int) (sl:k_) (Q:VK),Inv X f' σ H s→RelV x v→s.heap.IsSliceOf sl vl vu .none→PC vl lo→PC vu hi→r x lo hi H Q →
  ∃ T id,typeLookup (.type T) "__getitem__"=pure (a_ (.builtin id))∧s.TypeIs v T∧w_ (z_ X.prog X.w) X.A (Pw v (.ref sl)) (EP X f' σ Q) X.xe s
theorem SlR.or {r r':V→Option Int→Option Int→Hp→VK→Prop} (h:SlR X r) (h':SlR X r'):SlR X (fun x lo hi H Q=>r x lo hi H Q∨r' x lo hi H Q):=by
 intro f' s σ H x v vl vu lo hi sl Q I rx hs pl pu q;rcases q with q | q
 · exact h f' s σ H x v vl vu lo hi sl Q I rx hs pl pu q
 · exact h' f' s σ H x v vl vu lo hi sl Q I rx hs pl pu q
def tSl (r:V→Option Int→Option Int→Hp→VK→Prop) (te:TE) (tl th:TO):TE:=fun σ H Q=>te σ H fun x H1=>tl σ H1 fun l H2=>th σ H2 fun u H3=>r x l u H3 Q
theorem qp {r:V→Option Int→Option Int→Hp→VK→Prop} (hr:SlR X r) (he:PE X e te) (hl:PO X lo tl) (hu:PO X hi th):PE X (.Subscript e (.Slice lo hi ck p2) pos) (tSl r te tl th):=by
 intro f' s σ H Q I h;refine Subscript_ (thn (he f' s σ H _ I h) fun v s1 ⟨x,H1,I1,r1,q1⟩=>?_);refine wpAny_Slice (thn (hl f' s1 σ H1 _ I1 q1) fun vl s2 ⟨l,H2,I2,pl,q2⟩=>thn (hu f' s2 σ H2 _ I2 q2) fun vu s3 ⟨u,H3,I3,pu,q3⟩=>?_);rw [evalPart_none];refine m_ ?_;have I4:Inv X f' σ H3 { s3 with heap:=s3.heap.push { cls:=.type "slice",data:=.fields #[vl,vu,.none] } }:=I3.kept (t':=s3.toks) fun b ob q=>j_ _ q;obtain ⟨T,id,hT,ht,hg⟩:=hr f' { s3 with heap:=s3.heap.push { cls:=.type "slice",data:=.fields #[vl,vu,.none] } } σ H3 x v vl vu l u s3.heap.objs.size Q I4 r1 (Heap.IsSliceOf.new ..) pl pu q3;show w_ (z_ X.prog X.w) X.A (subscriptTail e (.Slice lo hi ck p2) v (.ref s3.heap.objs.size)) (EP X f' σ Q) X.xe { s3 with heap:=s3.heap.push { cls:=.type "slice",data:=.fields #[vl,vu,.none] } };exact tail_any (ops:=[.ref s3.heap.objs.size,v]) ht hT hg (by with_unfolding_all rfl)
def wA (xs:List V) (lo hi:Option Int):List V:=(xs.drop (HT.sIx xs.length 0 lo)).take (HT.sIx xs.length xs.length hi - HT.sIx xs.length 0 lo)
theorem kg (xs:List V) (lo hi:Option Int):(wA xs lo hi).length≤xs.length:=by
 unfold wA;rw [Of,Nr];omega
def JZ (K:e_):V→Option Int→Option Int→Hp→VK→Prop:=fun x lo hi H Q=>∃ a xs,x=.ref a∧SqT K H a xs ∧
 ¬ (HT.sIx xs.length 0 lo=0∧HT.sIx xs.length xs.length hi=xs.length)∧∀ p,H p=ck→Q (.ref p) (upd H p (.tup (wA xs lo hi)))
theorem sl_tup:SlR X (JZ X.K):=by
 intro f' s σ H x v vl vu lo hi sl Q I rx hs pl pu h;obtain ⟨a,xs,rfl,hx,hw,q⟩:=h;cases rx;obtain ⟨its,r,ht,hz⟩:=I.tuple hx;have hlen:its.toArray.size=xs.length:=by rw [xy]; exact r.length.symm
 refine ⟨"tuple",_,LC.lookup,ht.typeIs,?_⟩;refine HT.getItem_tuple_cut ht hs pl pu (by rw [hlen]; exact hw) ?_ (by rw [hlen]; exact hz);rw [hlen];refine ⟨.ref s.heap.objs.size,_,I.laid (t':=s.toks) (o:=.tup (wA xs lo hi)) (fun b ob q=>j_ _ q) (uk _) ?_,rfl,q _ (I.hok.fresh (uk _))⟩;exact ⟨K0 (kg xs lo hi) hz,_,(r.drop (HT.sIx xs.length 0 lo)).take (HT.sIx xs.length xs.length hi - HT.sIx xs.length 0 lo),Sk _ _⟩
def Ci (K:e_):R2:=fun x y H Q=>∃ a b xs ys,x=.ref a∧y=.ref b∧SqT K H a xs∧SqT K H b ys∧xs≠[]∧xs.length + ys.length≤sizeLine ∧
 (ys=[]→Q (.ref a) H)∧(ys≠[]→∀ p,H p=ck→Q (.ref p) (upd H p (.tup (xs ++ ys))))
theorem Vals.nil_iff {xs:List V} {us:List g_} (r:Vals xs us):us=[]↔xs=[]:=by
 cases r with
 | nil=>simp
 | cons _ _=>simp
theorem op_catT:OpR X (Mi .Add) (Ci X.K):=by
 intro f' s σ H x y v u Q I rx ry h;obtain ⟨a,b,xs,ys,rfl,rfl,ha,hb,hx,hz,q1,q2⟩:=h;cases rx;cases ry;obtain ⟨its,r1,p1,_⟩:=I.tuple ha;obtain ⟨its2,r2,p2,_⟩:=I.tuple hb;refine HT.cat_tup p1 p2 (fun z=>hx (r1.nil_iff.mp z)) (fun z=>⟨.ref a,H,I,rfl,q1 (r2.nil_iff.mp z)⟩) (fun z=>?_) (by rw [← r1.length,← r2.length]; exact hz);refine ⟨.ref s.heap.objs.size,_,I.laid (t':=s.toks) (o:=.tup (xs ++ ys)) (fun b ob q=>j_ _ q) (uk _) ?_,rfl,q2 (fun w=>z (r2.nil_iff.mpr w)) _ (I.hok.fresh (uk _))⟩;exact ⟨by rw [LG]; exact hz,_,r1.append r2,Sk _ _⟩
end
def ixN (n:Nat) (i:Int):Option Nat:=if 0≤i then (if i < n then a_ i.toNat else ck) else if -(n:Int)≤i then a_ (i + n).toNat else ck
def atI {α:Type} (xs:List α) (i:Int):Option α:=(ixN xs.length i).bind fun j=>xs[j]?
theorem tJ {n:Nat} {i:Int} {j:Nat} (h:ixN n i=a_ j):seqIndex? i n=a_ j∧j < n∧-(n:Int)≤i∧i < n:=by
 unfold ixN at h;by_cases h0:0≤i
 · rw [if_pos h0] at h;by_cases h1:i < n
   · rw [if_pos h1] at h;have e:i.toNat=j:=Lc h;exact ⟨by rw [RH h0 h1,e],by omega,by omega,h1⟩
   · rw [if_neg h1] at h; cases h
 · rw [if_neg h0] at h;by_cases h1:-(n:Int)≤i
   · rw [if_pos h1] at h;have e:(i + n).toNat=j:=Lc h;exact ⟨by rw [seqIndex_neg (by omega) h1,e],by omega,h1,by omega⟩
   · rw [if_neg h1] at h; cases h
theorem pb {α:Type} {xs:List α} {i:Int} {v:α} (h:atI xs i=a_ v):∃ j,seqIndex? i xs.length=a_ j∧xs[j]?=a_ v∧j < xs.length∧-(xs.length:Int)≤i∧i < xs.length:=by
 unfold atI at h;cases e:ixN xs.length i with
 | none=>rw [e] at h; cases h
 | some j =>
  rw [e] at h;obtain ⟨h1,h2,h3,h4⟩:=tJ e;exact ⟨j,h1,h,h2,h3,h4⟩
def tK (b:F_):Prop:=∀ o i,RF b d_ o i=operate [o,i] (Pw o i)
def IxR (X:Cx) (r:R2):Prop :=
 ∀ (value slice:F_) (f':List (k_×Obj)) (s:h_) (σ:St) (H:Hp) (x y:V) (v u:g_) (Q:VK),Inv X f' σ H s→RelV x v→RelV y u→r x y H Q →
  RF slice d_ v u=operate [v,u] (Pw v u)→w_ (z_ X.prog X.w) X.A (subscriptTail value slice v u) (EP X f' σ Q) X.xe s
def MtR (X:Cx) (id:String) (r:V→List V→Hp→VK→Prop):Prop :=
 ∀ (f':List (k_×Obj)) (s:h_) (σ:St) (H:Hp) (x:V) (xs:List V) (v:g_) (us:List g_) (Q:VK),Inv X f' σ H s→RelV x v→Vals xs us→r x xs H Q →
  w_ (z_ X.prog X.w) X.A (call (.builtin id) (v :: us)) (EP X f' σ Q) X.xe s
section
variable {X:Cx} {a b:F_} {ta tb:TE} {pos:Pos}
theorem IxR.or {r r':R2} (h:IxR X r) (h':IxR X r'):IxR X (fun x y H Q=>r x y H Q∨r' x y H Q):=by
 intro value slice f' s σ H x y v u Q I rx ry q hs;rcases q with q | q
 · exact h value slice f' s σ H x y v u Q I rx ry q hs
 · exact h' value slice f' s σ H x y v u Q I rx ry q hs
theorem MtR.or {id:String} {r r':V→List V→Hp→VK→Prop} (h:MtR X id r) (h':MtR X id r'):MtR X id (fun x xs H Q=>r x xs H Q∨r' x xs H Q):=by
 intro f' s σ H x xs v us Q I rx rs q;rcases q with q | q
 · exact h f' s σ H x xs v us Q I rx rs q
 · exact h' f' s σ H x xs v us Q I rx rs q
theorem G0 {r:R2} (hr:IxR X r) (ha:PE X a ta) (hb:PE X b tb) (hs:tK b):PE X (.Subscript a b pos) (tOp r ta tb):=by
 intro f' s σ H Q I h;exact Subscript_ (GR ha hb I h fun v u s2 x y H2 I2 rx ry q=>hr a b f' s2 σ H2 x y v u Q I2 rx ry q (hs _ _))
def Ja (K:e_):R2:=fun x y H Q=>∃ p xs i v,x=.ref p∧y=.int i∧SqL K H p xs∧atI xs i=a_ v∧Q v H
def Jb (K:e_):R2:=fun x y H Q=>∃ p xs i v,x=.ref p∧y=.int i∧SqT K H p xs∧atI xs i=a_ v∧Q v H
def Jc:R2:=fun x y H Q=>∃ z i c,x=.str z∧y=.int i∧z.length≤sizeLine∧atI z.cps.toList i=a_ c∧Q (.str ⟨#[c]⟩) H
theorem ix_list:IxR X (Ja X.K):=by
 intro value slice f' s σ H x y v u Q I rx ry h hs;obtain ⟨p,xs,i,z,rfl,rfl,hq,he,q⟩:=h;cases rx;obtain ⟨t,rfl⟩:=ry;obtain ⟨its,r,pl,hz⟩:=I.list hq;obtain ⟨j,h1,h2,h3,h4,h5⟩:=pb he;obtain ⟨w,ew,rw'⟩:=r.get h2;have hl:=r.length;have hn:=mV;have fin:EP X f' σ Q w s:=⟨z,H,I,rw',q⟩;by_cases h0:0≤i
 · have hj:i.toNat=j:=by
    rw [RH h0 h5] at h1;exact Lc h1
   exact item_listR pl.isList h0 (by omega) (by rw [hj]; simpa using ew) fin hs
 · have hj:(i + (its.toArray.size:Int)).toNat=j:=by
    rw [seqIndex_neg (by omega) h4] at h1;rw [xy,← hl];exact Lc h1
   exact PD (x:=w) pl.isList.typeIs slot_list_getitem.lookup
    (wpAny_getItem_list_neg (Q:=fun r s'=>r=w∧EP X f' σ Q r s') pl.isList (by omega) (by rw [xy] <;> omega) (by omega) (by rw [hj]; simpa using ew) ⟨rfl,fin⟩) hs
theorem ix_tup:IxR X (Jb X.K):=by
 intro value slice f' s σ H x y v u Q I rx ry h hs;obtain ⟨p,xs,i,z,rfl,rfl,hq,he,q⟩:=h;cases rx;obtain ⟨t,rfl⟩:=ry;obtain ⟨its,r,pl,hz⟩:=I.tuple hq;obtain ⟨j,h1,h2,h3,h4,h5⟩:=pb he;obtain ⟨w,ew,rw'⟩:=r.get h2;have hl:=r.length;have hn:=mV;have fin:EP X f' σ Q w s:=⟨z,H,I,rw',q⟩;exact PD (x:=w) pl.typeIs slot_tuple_getitem.lookup
  (getItem_tuple (j:=j) (Q:=fun r s'=>r=w∧EP X f' σ Q r s') pl (by omega) (by omega) (by rw [xy,← hl]; exact h1) (by simpa using ew) ⟨rfl,fin⟩) hs
theorem Cj:IxR X Jc:=by
 intro value slice f' s σ H x y v u Q I rx ry h hs;obtain ⟨z,i,c,rfl,rfl,hz,he,q⟩:=h;obtain ⟨t,rfl⟩:=rx;obtain ⟨t',rfl⟩:=ry;obtain ⟨j,h1,h2,h3,h4,h5⟩:=pb he;have hl:z.cps.toList.length=z.length:=by simp [OL]
 rw [hl] at h1 h4 h5;have hn:=mV;exact tail_any (Oa s z t) slot_str_getitem.lookup (getItem_str (c:=c) (by
  have e1:q_ (i < -(2 ^ 63:Int))=d_:=decide_eq_false (by omega);have e2:q_ (i ≥ 2 ^ 63)=d_:=decide_eq_false (by omega);rw [e1,e2,Bool.or_false]) (by rw [h1]; simpa using h2) ⟨.str ⟨#[c]⟩,H,I.tok _,⟨_,rfl⟩,q⟩) hs
def rIx (K:e_):R2:=fun x y H Q=>Ja K x y H Q∨Jb K x y H Q∨Jc x y H Q
theorem Ck:IxR X (rIx X.K):=ix_list.or (ix_tup.or Cj)
theorem rH (its:List g_) (n j:Nat) (u:g_):PB (·.setIfInBounds j u) { cls:=.type "list",data:=.seq its.toArray n }={ cls:=.type "list",data:=.seq (its.set j u).toArray n }:=by
 simp [PB]
theorem Inv.lst {f':List (k_×Obj)} {σ:St} {H:Hp} {s:h_} {p:k_} {xs:List V} (I:Inv X f' σ H s) (h:H p=a_ (.lst xs)) :
 ∃ (its:List g_) (n:Nat),Vals xs its∧s.heap.get? p=a_ { cls:=.type "list",data:=.seq its.toArray n }∧xs.length≤sizeLine:=by
 obtain ⟨z,its,n,r,e⟩:=I.hok p _ h;exact ⟨its,n,r,e,z⟩
theorem Inv.lstUpd {f':List (k_×Obj)} {σ:St} {H:Hp} {s:h_} {p:k_} {xs ys:List V} {its its':List g_} {n n':Nat} {f:Obj→Obj} (I:Inv X f' σ H s) (h:H p=a_ (.lst xs))
 (ho:s.heap.get? p=a_ { cls:=.type "list",data:=.seq its.toArray n }) (hf:f { cls:=.type "list",data:=.seq its.toArray n }={ cls:=.type "list",data:=.seq its'.toArray n' }) (r:Vals ys its') (hz:ys.length≤sizeLine) (t:Nat) :
 Inv X f' σ (upd H p (.lst ys)) { s with heap:=s.heap.update p f,toks:=t }:=by
 have e:(s.heap.update p f).get? p=a_ { cls:=.type "list",data:=.seq its'.toArray n' }:=by
  rw [N7 f ho (by rw [hf] <;> rfl),hf]
 refine I.write (x:=p) (e:=p) (by rw [h]; trivial) (.inl rfl) (fun b u hb q=>(NY _ _ (M8 hb)).trans q) ⟨_,e⟩ ?_;exact ⟨hz,its',n',r,e⟩
def G1:V→V→V→Hp→(Hp→Prop)→Prop:=fun o i v H Q=>∃ p xs k j,o=.ref p∧i=.int k∧H p=a_ (.lst xs)∧ixN xs.length k=a_ j∧Q (upd H p (.lst (xs.set j v)))
theorem qr:IU X G1:=by
 intro f' s σ H o i v ov iv u Q I ro ri rv h;obtain ⟨p,xs,k,j,rfl,rfl,hp,hj,q⟩:=h;cases ro;obtain ⟨t,rfl⟩:=ri;obtain ⟨its,n,r,ho,hz⟩:=I.lst hp;obtain ⟨h1,h2,h3,h4⟩:=tJ hj;have hl:=r.length;have hn:=mV;have I':Inv X f' σ (upd H p (.lst (xs.set j v))) { s with heap:=s.heap.update p (PB (·.setIfInBounds j u)) } :=
  I.lstUpd hp ho (rH its n j u) (r.set rv j) (by rw [Lu]; exact hz) s.toks
 by_cases h0:0≤k
 · have hk:k.toNat=j:=by
    rw [RH h0 h4] at h1;exact Lc h1
   exact PySem.W.ki_setAt ho h0 (by omega) (by rw [xy,← hl]; exact h4) (by rw [hk]; exact ⟨_,I',q⟩)
 · have hk:(k + (its.toArray.size:Int)).toNat=j:=by
    rw [seqIndex_neg (by omega) h3] at h1;rw [xy,← hl];exact Lc h1
   exact PySem.W.ki_setBack ho (by omega) (by rw [xy,← hl]; exact h3) (by omega) (by rw [hk]; exact ⟨_,I',q⟩)
theorem ng (lo hi:Option Int) (n:Nat):(NJ lo hi ck n).1=((HT.sIx n 0 lo:Nat):Int)∧(NJ lo hi ck n).2.1=((HT.sIx n n hi:Nat):Int)∧(NJ lo hi ck n).2.2=1:=by
 refine ⟨?_,?_,rfl⟩
 · cases lo with
   | none=>simp [NJ,HT.sIx]
   | some i =>
    simp only [NJ,HT.sIx,Rz,show (1:Int) > 0 by decide,if_true];by_cases h:i < 0
    · simp only [h,if_true] <;> omega
    · simp only [h,if_false] <;> omega
 · cases hi with
   | none=>simp [NJ,HT.sIx]
   | some i =>
    simp only [NJ,HT.sIx,Rz,show (1:Int) > 0 by decide,if_true];by_cases h:i < 0
    · simp only [h,if_true] <;> omega
    · simp only [h,if_false] <;> omega
theorem lQ (its:List g_) (lo hi:Option Int):slicePick its.toArray lo hi ck=((its.drop (HT.sIx its.length 0 lo)).take (HT.sIx its.length its.length hi - HT.sIx its.length 0 lo)).toArray:=by
 obtain ⟨h1,h2,h3⟩:=ng lo hi its.toArray.size;unfold slicePick;rw [h1,h2,h3];simp only [sliceRange_one,pick_run,xy] <;> rfl
def J0 (K:e_):V→Option Int→Option Int→Hp→VK→Prop:=fun x lo hi H Q=>∃ a xs,x=.ref a∧SqL K H a xs∧∀ p,H p=ck→Q (.ref p) (upd H p (.lst (wA xs lo hi)))
theorem tL:SlR X (J0 X.K):=by
 intro f' s σ H x v vl vu lo hi sl Q I rx hs pl pu h;obtain ⟨a,xs,rfl,hx,q⟩:=h;cases rx;obtain ⟨its,r,ht,hz⟩:=I.list hx;have hlen:=r.length;refine ⟨"list",_,slot_list_getitem.lookup,ht.isList.typeIs,?_⟩;refine wpAny_getItem_list_slice ht.isList hs pl pu .none (by simp) ?_ (by rw [xy] <;> omega);rw [lQ,← hlen];refine ⟨.ref s.heap.objs.size,_,I.laid (t':=s.toks) (o:=.lst (wA xs lo hi)) (fun b ob q=>j_ _ q) (uk _) ?_,rfl,q _ (I.hok.fresh (uk _))⟩;exact ⟨K0 (kg xs lo hi) hz,_,0,(r.drop (HT.sIx xs.length 0 lo)).take (HT.sIx xs.length xs.length hi - HT.sIx xs.length 0 lo),B_ _ rfl⟩
def gG:V→Bool
 | .non=>c_
 | .bl _=>c_
 | .int _=>c_
 | .str _=>c_
 | _=>d_
def eqV:V→V→Bool
 | .non,.non=>c_
 | .bl a,.bl b=>a == b
 | .bl a,.int b=>(if a then 1 else 0) == b
 | .int a,.bl b=>a == (if b then 1 else 0)
 | .int a,.int b=>a == b
 | .str a,.str b=>a == b
 | _,_=>d_
theorem Cm {A:G_} {s:h_} {y x:V} {u v:g_} (ry:RelV y u) (rx:RelV x v) (fy:gG y=c_) (fx:gG x=c_):SeqAt.EqAt A s u v (eqV y x):=by
 cases y with
 | non =>
  cases ry;cases x with
  | non=>cases rx; exact SeqAt.EqAt.same _
  | bl b=>cases rx; exact SeqAt.EqAt.none_bool b
  | int b=>obtain ⟨t,rfl⟩:=rx; exact SeqAt.EqAt.none_int b t
  | str b=>obtain ⟨t,rfl⟩:=rx; exact SeqAt.EqAt.none_str b t
  | _=>exact absurd (show d_=c_ from fx) p_
 | bl a =>
  cases ry;cases x with
  | non=>cases rx; exact SeqAt.EqAt.bool_none a
  | bl b=>cases rx; exact SeqAt.EqAt.bool_bool a b
  | int b=>obtain ⟨t,rfl⟩:=rx; exact SeqAt.EqAt.bool_int a b t
  | str b=>obtain ⟨t,rfl⟩:=rx; exact SeqAt.EqAt.bool_str a b t
  | _=>exact absurd (show d_=c_ from fx) p_
 | int a =>
  obtain ⟨t',rfl⟩:=ry;cases x with
  | non=>cases rx; exact SeqAt.EqAt.int_none a t'
  | bl b=>cases rx; exact SeqAt.EqAt.int_bool a t' b
  | int b=>obtain ⟨t,rfl⟩:=rx; exact SeqAt.EqAt.int_int a t' b t
  | str b=>obtain ⟨t,rfl⟩:=rx; exact QK a t' b t
  | _=>exact absurd (show d_=c_ from fx) p_
 | str a =>
  obtain ⟨t',rfl⟩:=ry;cases x with
  | non=>cases rx; exact SeqAt.EqAt.str_none a t'
  | bl b=>cases rx; exact SeqAt.EqAt.str_bool a t' b
  | int b=>obtain ⟨t,rfl⟩:=rx; exact QJ a t' b t
  | str b=>obtain ⟨t,rfl⟩:=rx; exact SeqAt.EqAt.str_str a t' b t
  | _=>exact absurd (show d_=c_ from fx) p_
 | _=>exact absurd (show d_=c_ from fy) p_
def eqU (x:V) (u:g_):Bool:=match u with
 | .none=>eqV .non x
 | .bool b=>eqV (.bl b) x
 | .int i _=>eqV (.int i) x
 | .str z _=>eqV (.str z) x
 | _=>d_
theorem qt {x y:V} {u:g_} (r:RelV y u) (f:gG y=c_):eqU x u=eqV y x:=by
 cases y with
 | non=>cases r; rfl
 | bl b=>cases r; rfl
 | int i=>obtain ⟨t,rfl⟩:=r; rfl
 | str z=>obtain ⟨t,rfl⟩:=r; rfl
 | _=>exact absurd (show d_=c_ from f) p_
theorem kh {x:V}:∀ {xs:List V} {us:List g_},Vals xs us→xs.all gG=c_→us.any (eqU x)=xs.any fun y=>eqV y x
 | _,_,.nil,_=>rfl
 | y :: xs,u :: us,.cons r t,f=>by
  rw [My,n_] at f;rw [Oj,Oj,qt r f.1,kh t f.2]
theorem gp {A:G_} {s:h_} {x:V} {v:g_} (rx:RelV x v) (fx:gG x=c_):∀ {xs:List V} {us:List g_},Vals xs us→xs.all gG=c_→∀ u∈us,SeqAt.EqAt A s u v (eqU x u)
 | _,_,.nil,_=>fun u hu=>by cases hu
 | y :: xs,u :: us,.cons r t,f=>fun u' hu=>by
  rw [My,n_] at f;rcases rl.mp hu with rfl | hu
  · rw [qt r f.1]; exact Cm r rx f.1 fx
  · exact gp rx fx t f.2 u' hu
def inV (x:V) (xs:List V):Bool:=xs.any fun y=>eqV y x
def rIn (K:e_) (neg:Bool):R2:=fun x y H Q=>∃ p xs,y=.ref p∧(SqL K H p xs∨SqT K H p xs)∧gG x=c_∧xs.all gG=c_∧Q (.bl (if neg then !inV x xs else inV x xs)) H
theorem tM:OpR X (Lj .In) (rIn X.K d_):=by
 intro f' s σ H x y v u Q I rx ry h;obtain ⟨p,xs,rfl,hq,fx,fs,q⟩:=h;cases ry;rcases hq with hq | hq
 · obtain ⟨its,r,pl,hz⟩:=I.list hq;refine SeqAt.in_listAt (eqU x) pl.isList (fun w hw=>gp rx fx r fs w (by simpa using hw)) ⟨.bl _,H,I,rfl,?_⟩;rw [show its.toArray.any (eqU x)=its.any (eqU x) by simp,kh r fs];exact q
 · obtain ⟨its,r,pl,hz⟩:=I.tuple hq;refine SeqAt.in_tupleAt (eqU x) pl (fun w hw=>gp rx fx r fs w (by simpa using hw)) ⟨.bl _,H,I,rfl,?_⟩;rw [show its.toArray.any (eqU x)=its.any (eqU x) by simp,kh r fs];exact q
theorem nh:OpR X (Lj .NotIn) (rIn X.K c_):=by
 intro f' s σ H x y v u Q I rx ry h;obtain ⟨p,xs,rfl,hq,fx,fs,q⟩:=h;cases ry;rcases hq with hq | hq
 · obtain ⟨its,r,pl,hz⟩:=I.list hq;refine SeqAt.notIn_listAt (eqU x) pl.isList (fun w hw=>gp rx fx r fs w (by simpa using hw)) ⟨.bl _,H,I,rfl,?_⟩;rw [show its.toArray.any (eqU x)=its.any (eqU x) by simp,kh r fs];exact q
 · obtain ⟨its,r,pl,hz⟩:=I.tuple hq;refine SeqAt.notIn_tupleAt (eqU x) pl (fun w hw=>gp rx fx r fs w (by simpa using hw)) ⟨.bl _,H,I,rfl,?_⟩;rw [show its.toArray.any (eqU x)=its.any (eqU x) by simp,kh r fs];exact q
theorem op_notIn_str:OpR X (Lj .NotIn) (fun x y H Q=>∃ i j,x=.str i∧y=.str j∧Q (.bl (!(!(Ld j i 0 j.length 1).isEmpty))) H):=by
 intro f' s σ H x y v u Q I rx ry h;obtain ⟨i,j,rfl,rfl,q⟩:=h;obtain ⟨t,rfl⟩:=rx;obtain ⟨t',rfl⟩:=ry;exact notIn_str ⟨.bl _,H,I,rfl,q⟩
theorem CallR.or {f:g_} {r r':List V→Hp→VK→Prop} (h:CallR X f r) (h':CallR X f r'):CallR X f (fun xs H Q=>r xs H Q∨r' xs H Q):=by
 intro f' s σ H xs us Q I rs q;rcases q with q | q
 · exact h f' s σ H xs us Q I rs q
 · exact h' f' s σ H xs us Q I rs q
theorem ni:CallR X (.type "list") (fun xs H Q=>∃ p ys,xs=[.ref p]∧(SqL X.K H p ys∨SqT X.K H p ys)∧∀ l,H l=ck→Q (.ref l) (upd H l (.lst ys))):=by
 intro f' s σ H xs us Q I r h;obtain ⟨p,ys,rfl,hq,q⟩:=h;obtain ⟨u,rfl,rx⟩:=eW r;cases rx;have fin:∀ (its:List g_),Vals ys its→ys.length≤sizeLine→∀ (h':K5) (c':Nat),(∀ b o',s.heap.get? b=a_ o'→h'.get? b=a_ o') →
  h'.get? s.heap.objs.size=a_ { cls:=.type "list",dict:=ck,data:=.seq its.toArray c',slots:=#[] }→EP X f' σ Q (.ref s.heap.objs.size) { s with heap:=h' }:=fun its r' hz h' c' kp e =>
  ⟨.ref s.heap.objs.size,_,I.laid (t':=s.toks) kp (uk _) (show ObjOk X.prog X.w _ h' _ (.lst ys) from ⟨hz,its,c',r',e⟩),rfl,q _ (I.hok.fresh (uk _))⟩
 rcases hq with hq | hq
 · obtain ⟨its,r',pl,hz⟩:=I.list hq;have hlen:=r'.length;obtain ⟨o,ho,hc,n,hd⟩:=pl.isList;exact call_list_seq p (.inl rfl) ho hc hd (fun h' c' kp e=>fin its r' hz h' c' kp e) (by simp only [xy] <;> omega)
 · obtain ⟨its,r',pl,hz⟩:=I.tuple hq;have hlen:=r'.length;obtain ⟨o,ho,hc,n,hd⟩:=pl;exact call_list_seq p (.inr rfl) ho hc hd (fun h' c' kp e=>fin its r' hz h' c' kp e) (by simp only [xy] <;> omega)
theorem lR:CallR X (.type "tuple") (fun xs H Q=>∃ p ys,xs=[.ref p]∧((SqL X.K H p ys∧∀ l,H l=ck→Q (.ref l) (upd H l (.tup ys)))∨(SqT X.K H p ys∧Q (.ref p) H))):=by
 intro f' s σ H xs us Q I r h;obtain ⟨p,ys,rfl,h⟩:=h;obtain ⟨u,rfl,rx⟩:=eW r;cases rx;rcases h with ⟨hq,q⟩ | ⟨hq,q⟩
 · obtain ⟨its,r',pl,hz⟩:=I.list hq;have hlen:=r'.length;refine call_tuple_list pl.isList (fun h' kp=>?_) (by simp only [xy] <;> omega);have I1:Inv X f' σ H { s with heap:=h' }:=I.kept (t':=s.toks) kp;have I2:Inv X f' σ (upd H h'.objs.size (.tup ys)) { s with heap:=h'.push { cls:=.type "tuple",data:=.seq its.toArray } } :=
    I1.laid (t':=s.toks) (fun b o e=>j_ _ e) (uk _) (show ObjOk X.prog X.w _ _ _ (.tup ys) from ⟨hz,its,r',Sk _ _⟩)
   exact ⟨.ref h'.objs.size,_,I2,rfl,q _ (I1.hok.fresh (uk _))⟩
 · obtain ⟨its,r',pl,hz⟩:=I.tuple hq;exact call_tuple_same pl ⟨.ref p,H,I,rfl,q⟩
def tyV (K:e_) (T:String) (x:V) (H:Hp):Prop:=match x with
 | .str _=>T="str"
 | .int _=>T="int"
 | .ref p=>(T="list"∧∃ xs,SqL K H p xs)∨(T="tuple"∧∃ o,K.lookup p=a_ o∧o.cls=.type "tuple"∧o.dict=ck) ∨
  (T="dict"∧((∃ kvs,H p=a_ (.dK kvs))∨∃ kvs,H p=a_ (.dT kvs)))∨(T="set"∧∃ S n,H p=a_ (.set S n))
 | _=>False
theorem Co {f':List (k_×Obj)} {σ:St} {H:Hp} {s:h_} {T:String} {x:V} {v:g_} (I:Inv X f' σ H s) (r:RelV x v) (ty:tyV X.K T x H) :
 s.TypeIs v T∧∀ a,v=.ref a→∃ ob,s.heap.get? a=a_ ob∧ob.dict=ck:=by
 cases x with
 | str z =>
  obtain ⟨t,rfl⟩:=r;cases (show T="str" from ty);exact ⟨Oa s z t,fun _ e=>nomatch e⟩
 | int i =>
  obtain ⟨t,rfl⟩:=r;cases (show T="int" from ty);exact ⟨typeIs_int s i t,fun _ e=>nomatch e⟩
 | ref p =>
  cases r;rcases ty with ⟨rfl,xs,hq⟩ | ⟨rfl,o,hk,hc,hd⟩ | ⟨rfl,hk⟩ | ⟨rfl,S,n,hk⟩
  · obtain ⟨its,_,pl,_⟩:=I.list hq;refine ⟨pl.isList.typeIs,fun a e=>?_⟩;cases e;obtain ⟨o,n,e,c,hd,_⟩:=pl;exact ⟨o,e,hd⟩
  · refine ⟨⟨o,I.kIn p o hk,hc⟩,fun a e=>?_⟩;cases e;exact ⟨o,I.kIn _ o hk,hd⟩
  · have z:∃ o,s.heap.get? p=a_ o∧o.ExactDict:=by
     rcases hk with ⟨kvs,hk⟩ | ⟨kvs,hk⟩
     · obtain ⟨_,_,_,_,o,_,_,e,ex,_⟩:=I.hok p _ hk;exact ⟨o,e,ex⟩
     · obtain ⟨_,_,_,_,o,_,_,e,ex,_⟩:=I.hok p _ hk;exact ⟨o,e,ex⟩
    obtain ⟨o,e,ex⟩:=z;refine ⟨⟨o,e,ex.1⟩,fun a e2=>?_⟩;cases e2;exact ⟨o,e,ex.2.1⟩
  · obtain ⟨o,_,_,_,e,ex,_⟩:=I.hok p _ hk;refine ⟨⟨o,e,ex.1⟩,fun a e2=>?_⟩;cases e2;exact ⟨o,e,ex.2.1⟩
 | _=>exact Li ty
def tBM (K:e_) (T:String) (r:V→List V→Hp→VK→Prop) (to:TE) (t:TA):TE:=fun σ H Q=>to σ H fun x H1=>tyV K T x H1∧t σ H1 fun xs H2=>r x xs H2 Q
variable {o e:F_} {es:List F_} {to:TE} {t:TA} {name:Str} {apos cpos:Pos} {T id:String} {r:V→List V→Hp→VK→Prop}
theorem wB (pa:PlainAttrs T) (slot:Slot T name id) (hty:typeOf (.builtin id)=pure (.type "method_descriptor")) (hm:MtR X id r) (ho:PE X o to) (ha:PA X (e :: es) t)
 (hbase:Nf o name X.env (eval o X.env)=eval o X.env:=by rfl)
 (hfew:((Lr cpos (i_ (e :: es) X.env)).all (fun x=>!x.1) && (Ph cpos (NL [] X.env)).all (fun x=>x.1.isSome)
   && q_ ((e :: es).length + ([]:List MR).length + (if ([]:List MR).isEmpty then 0 else 1) < 30))=c_:=by rfl)
 (hline:(apos.endLine == cpos.line)=c_:=by rfl) (hs:i_ (e :: es) X.env=(d_,eval e X.env) :: i_ es X.env:=by rfl) (hplain:(Lr cpos (i_ es X.env)).any (·.1)=d_:=by rfl) :
 PE X (.Call (.Attribute o name apos) (e :: es) [] cpos) (tBM X.K T r to t):=by
 intro f' s σ H Q I h;refine wpAny_Call_method_late hbase hfew hline rfl (thn (ho f' s σ H _ I h) fun v s1 ⟨x,H1,I1,r1,ty,q1⟩=>?_);obtain ⟨h1,h2⟩:=Co I1 r1 ty;refine ⟨T,id,pa,slot,hty,h1,h2,?_⟩;have hA:=ha cpos f' s1 σ H1 _ I1 q1;rw [hs] at hA ⊢;refine Calls.callWith_builtin (by show (d_ || (Lr cpos (i_ es X.env)).any (·.1))=d_; rw [hplain] <;> rfl) (Qd ?_);exact thn hA fun us s2 ⟨vs,H2,I2,r2,q2⟩=>hm f' s2 σ H2 x vs v us Q I2 r1 r2 q2
end
def MtM (X:Cx) (id:String) (r:V→List V→Hp→VK→Prop):Prop :=
 ∀ (f':List (k_×Obj)) (s:h_) (σ:St) (H:Hp) (x:V) (xs:List V) (v:g_) (us:List g_) (Q:VK),Inv X f' σ H s→RelV x v→Vals xs us→r x xs H Q →
  w_ (z_ X.prog X.w) X.A (call (.builtin id) (v :: us)) (EP X f' σ Q) X.xe s
theorem Vals.one:∀ {x:V} {us:List g_},Vals [x] us→∃ u,us=[u]∧RelV x u
 | _,_,.cons r .nil=>⟨_,rfl,r⟩
theorem Vals.two:∀ {x y:V} {us:List g_},Vals [x,y] us→∃ u v,us=[u,v]∧RelV x u∧RelV y v
 | _,_,_,.cons r (.cons q .nil)=>⟨_,_,rfl,r,q⟩
theorem Vals.zero:∀ {us:List g_},Vals [] us→us=[]
 | _,.nil=>rfl
theorem Vals.rep {xs:List V} {us:List g_} (h:Vals xs us):∀ k:Nat,Vals (u_ k xs).flatten (u_ k us).flatten
 | 0=>.nil
 | k + 1=>by
  rw [LV,LV,ML,ML];exact Vals.append h (Vals.rep h k)
theorem nj (its:List g_):∀ (k:Nat) (acc:List g_),
 PK (fun x1 x2=>x1 ++ x2) acc.toArray (u_ k its.toArray)=(acc ++ (u_ k its).flatten).toArray
 | 0,acc=>by simp
 | k + 1,acc=>by
  have e:acc.toArray ++ its.toArray=(acc ++ its).toArray:=by simp
  have e2:(acc ++ its) ++ (u_ k its).flatten=acc ++ (u_ (k + 1) its).flatten:=by
   rw [LV,ML,O6]
  rw [← e2,← nj its k (acc ++ its),← e,LV,Nc]
section
variable {X:Cx} {f':List (k_×Obj)} {σ:St} {H:Hp} {s:h_} {l b:k_} {xs ys zs:List V}
theorem Inv.lset {its its':List g_} {n:Nat} {f:Array g_→Array g_} {t':Nat} (I:Inv X f' σ H s) (hH:H l=a_ (.lst xs))
 (e:s.heap.get? l=a_ { cls:=.type "list",data:=.seq its.toArray n }) (hf:f its.toArray=its'.toArray) (hv:Vals ys its') (hz:ys.length≤sizeLine) :
 Inv X f' σ (upd H l (.lst ys)) { s with heap:=s.heap.update l (PB f),toks:=t' }:=by
 have q:=Rw e f;rw [hf] at q;refine I.write (x:=l) (e:=l) (by rw [hH]; exact trivial) (.inl rfl) (fun b' u hb hu=>(NY s.heap (PB f) (M8 hb)).trans hu) ⟨_,q⟩ ?_;exact ⟨hz,its',_,hv,q⟩
theorem Inv.lnew {its:List g_} {t':Nat} (I:Inv X f' σ H s) (hv:Vals ys its) (hz:ys.length≤sizeLine) :
 Inv X f' σ (upd H s.heap.objs.size (.lst ys)) { s with heap:=s.heap.push { cls:=.type "list",data:=.seq its.toArray },toks:=t' } :=
 I.laid (fun _ _ q=>j_ _ q) (uk _) ⟨hz,its,0,hv,B_ _ rfl⟩
theorem Inv.fresh (I:Inv X f' σ H s):H s.heap.objs.size=ck:=I.hok.fresh (uk _)
theorem Inv.lstM (I:Inv X f' σ H s) (hH:H l=a_ (.lst xs)):xs.length≤sizeLine∧∃ (its:List g_) (n:Nat),Vals xs its∧xs.length=its.length∧s.heap.get? l=a_ { cls:=.type "list",data:=.seq its.toArray n }:=by
 obtain ⟨z,its,n,r,e⟩:=I.hok l _ hH;exact ⟨z,its,n,r,r.length,e⟩
theorem wC {n:Nat} (h:n≤sizeLine):ND n=d_:=by
 unfold ND;exact decide_eq_false (by omega)
end
section
variable {X:Cx}
def zz:V→List V→Hp→VK→Prop:=fun x vs H Q=>∃ l xs y,x=.ref l∧vs=[y]∧H l=a_ (.lst xs)∧xs.length < sizeLine∧Q .non (upd H l (.lst (xs ++ [y])))
theorem tN:MtM X "list.append" zz:=by
 intro f' s σ H x vs v us Q I rx rv h;obtain ⟨l,xs,y,rfl,rfl,hH,hz,q⟩:=h;cases rx;obtain ⟨u,rfl,ru⟩:=rv.one;obtain ⟨z,its,n,r,hl,e⟩:=I.lstM hH;refine M4 On ⟨_,e,rfl⟩ Qw (Qc _ _) (QY l its.toArray n u (by rw [xy]; omega)) ⟨e,?_⟩;refine ⟨.non,_,I.lset (its':=its ++ [u]) hH e (by simp) (r.append (.cons ru .nil)) ?_,rfl,q⟩;rw [LG,P6];omega
def Je:R2:=fun x y H Q=>∃ l b xs zs,x=.ref l∧y=.ref b∧H l=a_ (.lst xs)∧H b=a_ (.lst zs)∧xs.length + zs.length≤sizeLine∧∀ p,H p=ck→Q (.ref p) (upd H p (.lst (xs ++ zs)))
theorem Cp:OpR X (Mi .Add) Je:=by
 intro f' s σ H x y v u Q I rx ry h;obtain ⟨l,b,xs,zs,rfl,rfl,hH,hB,hz,q⟩:=h;cases rx;cases ry;obtain ⟨z,its,n,r,hl,e⟩:=I.lstM hH;obtain ⟨z2,its2,n2,r2,hl2,e2⟩:=I.lstM hB;refine PySem.P.add_list e e2 ?_ (by rw [xy,xy]; omega);have ea:its.toArray ++ its2.toArray=(its ++ its2).toArray:=by simp
 rw [ea];exact ⟨.ref _,_,I.lnew (t':=s.toks) (r.append r2) (by rw [LG]; omega),rfl,q _ I.fresh⟩
def Jf:R2:=fun x y H Q=>∃ l k xs,x=.ref l∧y=.int k∧H l=a_ (.lst xs)∧-(2 ^ 63)≤k∧k < 2 ^ 63∧xs.length * k.toNat≤sizeLine ∧
 ∀ p,H p=ck→Q (.ref p) (upd H p (.lst (u_ k.toNat xs).flatten))
theorem zC {α:Type} (xs:List α) (k:Nat):(u_ k xs).flatten.length=k * xs.length:=by
 induction k with
 | zero=>simp
 | succ k ih=>rw [LV,ML,LG,ih,Nat.succ_mul,Nat.add_comm]
theorem op_rep:OpR X (Mi .Mult) Jf:=by
 intro f' s σ H x y v u Q I rx ry h;obtain ⟨l,k,xs,rfl,rfl,hH,h1,h2,hz,q⟩:=h;cases rx;obtain ⟨t,rfl⟩:=ry;obtain ⟨z,its,n,r,hl,e⟩:=I.lstM hH;have hlen:its.toArray.size * k.toNat≤sizeLine:=by rw [xy,← hl]; exact hz
 have hcap:¬ its.toArray.size * k.toNat > (2 ^ 63 - 1) / 8:=by
  have:(sizeLine:Nat)≤(2 ^ 63 - 1) / 8:=by decide
  omega
 have hfit:¬ (!Builtin.List.listFitsIndex k)=c_:=by
  rw [fitsIndex_both h1 h2];exact p_
 have hlong:¬ ND (its.toArray.size * k.toNat)=c_:=by
  rw [wC hlen];exact p_
 have hnew:PK (fun x1 x2=>x1 ++ x2) #[] (u_ (if its.toArray.isEmpty=c_ then 0 else k.toNat) its.toArray)=(u_ k.toNat its).flatten.toArray:=by
  have f0:∀ m:Nat,PK (fun x1 x2=>x1 ++ x2) #[] (u_ m its.toArray)=(u_ m its).flatten.toArray:=fun m=>by
   have:=nj its m [];rw [RN] at this;exact this
  rw [f0];cases its with
  | nil=>simp
  | cons a r'=>rw [if_neg (by simp)]
 refine wpAny_binaryOp_repeat_ref (T:="list") (U:="int") (by decide) ⟨_,e,rfl⟩ (fun s'=>typeIs_int s' k t) noFill_list_mul F.fills_int_mul F.slot_int_rmul repeat_list F.slot_int_index.lookup
  (M4 F.slot_int_rmul (typeIs_int s k t) F.entry_int_rmul (F.args_int_rmul_2 _ _) (int___rmul___int_list k t l its.toArray n)
    ⟨e,rfl,⟨_,e,rfl⟩,M4 F.slot_list_mul ⟨_,e,rfl⟩ F.entry_list_mul (F.args_list_mul_2 _ _) (AutoListH.list___mul___list_int_3 l its.toArray n k t hfit hcap hlong) ⟨e,?_⟩⟩)
 rw [hnew];exact ⟨.ref _,_,I.lnew (t':=s.toks) (r.rep k.toNat) (by rw [zC,Re]; exact hz),rfl,q _ I.fresh⟩
end
section
variable {prog:r_} {w:E_} {A:G_} {E:g_→h_→Prop} {s:h_}
end
section
variable {X:Cx}
end
end L2
namespace Att
open PySem PySem.W PySem.Calls PyProof.Rows
theorem ki {P:Qb} {h:K5}:∀ (ns:List Int) (vs:List g_),WellAll P h vs (ns.map WData.int)→Qr vs ns:=by
 intro ns
 induction ns with
 | nil =>
  intro vs w;rw [List.map_nil] at w;cases w;exact .nil
 | cons n ns ih =>
  intro vs w;rw [Lg] at w;cases w with
  | cons a b =>
   cases a;exact .cons _ _ (ih _ b)
theorem tQ {l:OpenLaw} {n:Nat} (hn:l.most=a_ n) {P:Qb} {h:K5} {args:List WData} {vals:List g_}
 (hpre:l.row.toRowW.claim.pre args=c_) (hwl:WellAll P h vals args) :
 ∃ a vs ns,vals=[x_ a]∧args=[WData.list (ns.map WData.int)]∧h.get? a=a_ { cls:=.type "list",data:=.seq vs.toArray }∧Qr vs ns∧ns.length≤n:=by
 have hsh:WShape.hasAll [] args [.list .int]=c_:=(pre_splitW hpre).1;have hc:l.pre.holds [] { args:=args }=c_:=(pre_splitW hpre).2;obtain ⟨d,r,rfl,h1,h2⟩:=hasAllW_cons hsh;obtain rfl:=hasAllW_nil h2;obtain ⟨xs,rfl,h3⟩:=hasW_list h1;obtain ⟨ns,rfl⟩:=items_int h3;have hlen:ns.length≤n:=by
  unfold OpenLaw.pre at hc;have h4:(WTm.not (.lt (.lit (.int (n:Int))) (.len (.arg 0)))).holds [] { args:=[.list (ns.map .int)] }=c_:=by
   have h4:=(holds_andW hc).1;rw [hn] at h4;exact h4
  have h5:=condW_of h4 (w_not (w_lt w_lit (w_len_list (w_arg rfl))));rw [La] at h5;refine RB fun q=>?_;have q':(n:Int) < ((ns.length:Nat):Int):=by omega
  first
   | (rw [decide_eq_true q'] at h5; exact absurd h5 (by decide))
   | (simp at h5; omega)
 cases hwl with
 | cons w1 w2 =>
  cases w2;cases w1 with
  | list ho hall=>exact ⟨_,_,ns,rfl,rfl,ho,ki ns _ hall,hlen⟩
theorem tR (l:OpenLaw) (args:List WData):l.row.toRowW.claim.post args (.bool c_) args=c_ :=
 postW_of (r:=l.row.toRowW) (X:=(c_ == c_))
  (show WShape.has [] (.bool c_) .bool=c_ by first | rfl | decide | simp [WShape.has,WShape.arms,WShape.armsAll])
  (show (WTm.eq .res (.lit (.bool c_))).value [] { args:=args,res:=a_ (.bool c_),after:=args }=a_ (.bool (c_ == c_)) from w_eq_bool (w_res rfl) w_lit) rfl
theorem attach_call {l:OpenLaw} {n:Nat} {q:r_} {loose:List Str} {XP:(Str→Option g_)→K5→Prop} {YP:E_→K5→Prop} {d:DefRec}
 (hn:l.most=a_ n) (hdf:d.params.defaults=[])
 (call:∀ (w:E_) (s₀ s₁:h_) (mg mb:Str→Option g_) (fa:k_) (o:Obj) (pm cd doc:g_) (a:k_) (vs:List g_) (ns:List Int),
   Ground q loose [] XP w s₀ mg mb s₁.heap→YP w s₁.heap →
   s₁.heap.get? fa=a_ o→o.data=.func (docDef d.name d.params d.body d.scope pm cd doc)→s₁.heap.CodeRec cd d.name→mg d.name=a_ (.ref fa) →
   s₁.heap.get? a=a_ { cls:=.type "list",data:=.seq vs.toArray }→Qr vs ns→ns.length≤n→s₁.gens=#[] →
   NV (z_ l.prog w) Qp (.call (.ref fa) ⟨[.ref a],[]⟩) (fun r s'=>r=.ok (.ret (.bool c_))∧OldK s₁.heap s'.heap∧s'.os=s₁.os∧OC s'.gens) s₁) :
 WalkO q loose XP YP l.row.toRowW d [] (fun f vs=>R0 f vs):=by
 intro w s₀ s₁ mg mb G Y fa o pm cd doc dV kV ho hd hcd hD hmg hg args vals as hpre hlay hrd hwl hlo;obtain rfl:dV=.none:=Dflts.none hD hdf;obtain rfl:kV=.none:=Dflts.noKw hD;obtain ⟨a,vs,ns,rfl,rfl,hobj,hints,hlen⟩:=tQ hn hpre hwl;refine enter_call (NU (call w s₀ s₁ mg mb fa o pm cd doc a vs ns G Y ho (fd_plain hd) hcd hmg hobj hints hlen hg) fun r s' hq=>?_);obtain ⟨rfl,h2,h3,h4⟩:=hq;exact ⟨.inl ⟨.bool c_,.bool c_,[],rfl,fun _=>rfl,.bool c_,tR l _,fun _=>⟨N4,fun _ hm=>(nomatch hm)⟩⟩,h2,h3,h4⟩
section
variable {prog:r_} {w:E_} {A:G_} {E:g_→h_→Prop} {s:h_} {K:Frag}
def Jg (h:K5) (L d:k_):List (k_×Obj):=(s_ h.objs.size).filterMap fun a=>if a=L∨a=d then ck else (h.get? a).map fun o=>(a,o)
end
end Att
namespace L2
open PySem PySem.Spec PyProof.Rows
theorem iS:∀ {vs:List g_} {ns:List Int},Qr vs ns→Vals (ns.map V.int) vs
 | _,_,.nil=>.nil
 | _,_,.cons n t h=>.cons ⟨t,rfl⟩ (iS h)
def G2 (H:Hp):Prop:=∀ b,H b=ck∨∃ o xs,H b=a_ (.frz o (.lst xs))
theorem wD {P:r_} {w:E_} {K:e_} {mg mb:Str→Option g_} {CX:CXT} {k:Nat} {fa a:k_} {fd:LK} {x:Str} {sp:Sp} {s₁:h_} {vs:List g_} {ns:List Int}
 (KX:K.In s₁.heap) (hns:s₁.heap.Ns C_ mg) (hb:s₁.heap.Ns QG mb) (hbb:∀ x:Str,x≠"__name__"→mb x=LJ x) (hlim:s₁.heap.NoLimit) (hg:s₁.gens=#[])
 (ha:s₁.heap.get? a=a_ { cls:=.type "list",data:=.seq vs.toArray }) (hi:Qr vs ns) (hl:ns.length≤sizeLine) (hr:Room k Qp)
 (F:∀ base:K5,K.In base→base.Ns C_ mg→FnOk P w K mg base CX k fa fd [x] sp) (hbind:∀ (s:h_) (u:g_),O3 s fd ⟨[u],[]⟩ [(x,u)])
 (hsp:∀ H:Hp,G2 H→SqL K H a (ns.map V.int)→sp [.ref a] H (fun v _=>v=.bl c_) fun _ _ _=>False)
 (hCX:∀ H e s',CX [] H s₁ (fun _ _ _=>False) e s'→False) :
 NV (z_ P w) Qp (.call (.ref fa) ⟨[.ref a],[]⟩) (fun r s'=>r=.ok (.ret (.bool c_))∧OldK s₁.heap s'.heap∧s'.os=s₁.os∧OC s'.gens) s₁:=by
 have rv:=iS hi;have lenV:=hi.length;have core:∀ H:Hp,G2 H→SqL K H a (ns.map V.int)→HOk P w H s₁.heap→(∀ b,H b≠ck→b=a)→(H a≠ck→K.lookup a=ck) →
  NV (z_ P w) Qp (.call (.ref fa) ⟨[.ref a],[]⟩) (fun r s'=>r=.ok (.ret (.bool c_))∧OldK s₁.heap s'.heap∧s'.os=s₁.os∧OC s'.gens) s₁:=by
  intro H hO hS hok hA hK;have base_of:∀ {b:k_} {o:Obj},s₁.heap.get? b=a_ o→H b=ck→(wn s₁.heap H).get? b=a_ o:=fun e n=>wo e n;have noA:∀ {b:k_} {o:Obj} {es:Array DictEntry} {ep:Nat},s₁.heap.get? b=a_ o→o.data=.dict es ep→H b=ck:=fun {b o es ep} e d=>by
   cases q:H b with
   | none=>rfl
   | some u =>
    have e':b=a:=hA b (by rw [q]; simp);subst e';rw [ha] at e; cases e;have d':Data.seq vs.toArray _=Nh es ep:=d;cases d'
  have nsK:∀ {b:k_} {m:Str→Option g_},s₁.heap.Ns b m→(wn s₁.heap H).Ns b m:=fun {b m} ⟨o,es,ep,e,d,r⟩=>⟨o,es,ep,base_of e (noA e d),d,r⟩;have hKb:K.In (wn s₁.heap H):=fun b o e=>base_of (KX b o e) (by
   cases q:H b with
   | none=>rfl
   | some u =>
    have e':b=a:=hA b (by rw [q]; simp);subst e';rw [hK (by rw [q]; simp)] at e; cases e)
  have hM:Mod K mg (wn s₁.heap H):=⟨hKb,nsK hns,⟨mb,nsK hb,hbb⟩,let ⟨mc,h1,h2⟩:=hlim; ⟨mc,nsK h1,h2⟩⟩;have e0:Env0 P w K mg (wn s₁.heap H) Qp [] s₁ H:=⟨rfl,hM,fun b o e=>zm e,N3 (sL _ _),trivial,fun b hb=>absurd (show b∈([]:List k_) from hb) (by simp),hok,.of_eq hg⟩;refine NU ((F _ hKb (nsK hns)).run Qp [] s₁ H ⟨[.ref a],[]⟩ [.ref a] [.ref a] _ _ hr e0 (hbind s₁ (.ref a)) (.cons rfl .nil) (hsp H hO hS)) fun r s' h=>?_;cases r with
  | error e=>exact (hCX H e s' h).elim
  | ok fl =>
   cases fl with
   | next=>exact Li h
   | brk=>exact Li h
   | cont=>exact Li h
   | ret u =>
    obtain ⟨v,H',os,bare,un,hok',r',q⟩:=h;have q':v=.bl c_:=q;subst q';obtain rfl:u=Lo c_:=r';refine ⟨rfl,OldK.of_keep fun b o e=>?_,os,bare⟩;cases q:H b with
    | none=>exact un.keep b o e q (by intro z; exact absurd (show b∈([]:List k_) from z) (by simp)) (by simp)
    | some u =>
     rcases hO b with z | ⟨ob,xs,z⟩
     · rw [q] at z; cases z
     · have z2:=un.frzs b ob _ z;obtain ⟨e1,_⟩:=hok b _ z;obtain ⟨e2,_⟩:=hok' b _ z2;rw [e] at e1; cases e1;exact e2
 cases hk:K.lookup a with
 | some o =>
  have e:=KX a o hk;rw [ha] at e;cases e;refine core (fun _=>ck) (fun _=>.inl rfl) (.inr ⟨_,vs.toArray,_,hk,rfl,rfl,rfl,by rw [xy,lenV]; exact hl,by simpa using rv⟩) (fun b u z=>by have z':(ck:Option HO)=a_ u:=z; cases z') (fun b z=>absurd rfl z) fun z=>absurd rfl z
 | none =>
  refine core (fun b=>if b=a then a_ (.frz { cls:=.type "list",data:=.seq vs.toArray } (.lst (ns.map V.int))) else ck) (fun b=>?_) (.inl (.inr ⟨{ cls:=.type "list",data:=.seq vs.toArray },if_pos rfl⟩)) (fun b u z=>?_) (fun b z=>?_) fun _=>hk
  · by_cases hb:b=a
    · exact .inr ⟨_,_,if_pos hb⟩
    · exact .inl (if_neg hb)
  · by_cases hb:b=a
    · have z':=(if_pos hb).symm.trans z;cases z';subst hb;exact ⟨ha,by rw [La]; exact hl,vs,_,rv,ha⟩
    · have z':=(if_neg hb).symm.trans z;cases z'
  · by_cases hb:b=a
    · exact hb
    · exact absurd (if_neg hb) z
theorem walk_of {l:PQ} {n k:Nat} {q:r_} {loose:List Str} {XP:(Str→Option g_)→K5→Prop} {YP:E_→K5→Prop} {d:DefRec} {K:Qb→e_} {CX:E_→CXT} {sp:E_→Sp} {x:Str}
 (hn:l.most=a_ n) (hn2:n≤sizeLine) (hdf:d.params.defaults=[]) (hr:Room k Qp)
 (hY:∀ (w:E_) (h:K5),YP w h→(K w.params).In h)
 (F:∀ (w:E_) (mg:Str→Option g_) (fa:k_) (h:K5),(K w.params).In h→h.Ns C_ mg→mg d.name=a_ (.ref fa) →
   ∃ fd:LK,(∀ (s:h_) (u:g_),O3 s fd ⟨[u],[]⟩ [(x,u)]) ∧
    ∀ base:K5,(K w.params).In base→base.Ns C_ mg→FnOk l.prog w (K w.params) mg base (CX w) k fa fd [x] (sp w))
 (hsp:∀ (w:E_) (H:Hp) (a:k_) (ns:List Int),ns.length≤n→G2 H→SqL (K w.params) H a (ns.map V.int)→sp w [.ref a] H (fun v _=>v=.bl c_) fun _ _ _=>False)
 (hCX:∀ (w:E_) (H:Hp) (s:h_) (e:g_) (s':h_),CX w [] H s (fun _ _ _=>False) e s'→False) :
 Sd q loose XP YP l.row.toRowW d [] (fun f vs=>R0 f vs):=by
 refine Att.attach_call hn hdf fun w s₀ s₁ mg mb fa o pm cd doc a vs ns G Y ho hd hcd hmg hobj hints hlen hg=>?_;have KX:=hY w _ Y;obtain ⟨fd,hb,hF⟩:=F w mg fa _ KX G.T.g hmg;exact wD KX G.T.g G.T.b G.T.builtins G.T.nolimit hg hobj hints (K0 hlen hn2) hr hF hb (fun H hO hS=>hsp w H a ns hlen hO hS) fun H e s'=>hCX w H s₁ e s'
def jq (s:LY):Arguments:=match s with
 | .FunctionDef _ a _ _ _ _ _ _ _ _=>a
 | _=>{ posonlyargs:=[],args:=[],vararg:=ck,kwonlyargs:=[],kw_defaults:=[],kwarg:=ck,defaults:=[] }
def dG (s:LY):List LY:=match s with
 | .FunctionDef _ _ b _ _ _ _ _ _ _=>b
 | _=>[]
def aF (s:LY):Me:=match s with
 | .FunctionDef _ _ _ _ _ _ sc _ _ _=>sc
 | _=>{ kind:=.function,names:=[],isGenerator:=d_,isCoroutine:=d_ }
abbrev CX0:CXT:=fun _ _ _ _ _ _=>False
abbrev E0:XK:=fun _ _ _=>False
theorem G3 {X:Cx}:ql CX0 X E0:=fun _ _ _ _ _ _ _ h=>h.elim
structure Fun (K:e_) (x qual:Str) (st:LY) (f:k_) (fd:LK):Prop where
 ex:∃ (oc:g_) (od:Option k_) (kV doc pm:g_) (an:Option k_) (cdv ct:g_) (osl:Array (Option g_)),
  fd=M6 x qual (jq st) (dG st) (aF st) .none kV doc pm an cdv ct∧K.lookup f=a_ ⟨oc,od,.func fd,osl⟩∧OJ K cdv qual=c_
 kp:LZ K (.ref f)=c_
section
variable {P:r_} {w:E_} {K:e_} {mg:Str→Option g_} {base:K5}
theorem Fun.ok {x qual:Str} {st:LY} {f:k_} {fd:LK} {N ps:List Str} {k:Nat} {sp:Sp} (F:Fun K x qual st f fd) (S:gJ N ps (aF st)) (len:∀ vs H Q E,sp vs H Q E→vs.length=ps.length)
 (hbody:∀ (cdv:g_) (A:G_) (outer:List Env) (s:h_) (H:Hp) (vs:List V) (Q:VK) (E:XK),Room k (A.deeper (NH qual (aF st) s.heap.objs.size f cdv))→sp vs H Q E →
   ∃ t,PSs (qm CX0 P w K mg base N qual (aF st) f cdv A outer s H E).nox (dG st) t∧t { nx:=fun _ H'=>Q .non H',rt:=Q } (start N vs) H):FnOk P w K mg base CX0 (k + 1) f fd ps sp:=by
 obtain ⟨oc,od,kV,doc,pm,an,cdv,ct,osl,rfl,lk,hcd⟩:=F.ex;refine Cg lk hcd S len fun A outer s H vs Q E hr hsp=>?_;obtain ⟨t,h,q⟩:=hbody cdv A outer s H vs Q E hr hsp;exact ⟨t,h.nox,q⟩
theorem Fun.binds {x qual:Str} {st:LY} {f:k_} {fd:LK} {ps:List Str} (F:Fun K x qual st f fd)
 (h:∀ (kV doc pm:g_) (an:Option k_) (cdv ct:g_) (us:List g_),us.length=ps.length→bindArgs (M6 x qual (jq st) (dG st) (aF st) .none kV doc pm an cdv ct) ⟨us,[]⟩=pure (ps.zip us)):Binds K fd ps []:=by
 obtain ⟨oc,od,kV,doc,pm,an,cdv,ct,osl,rfl,lk,hcd⟩:=F.ex;exact .all (h kV doc pm an cdv ct)
theorem Cq {x qual:Str} {st:LY} {f:k_} {oc:g_} {od an:Option k_} {osl:Array (Option g_)} {kV doc pm cdv ct:g_} (l:K.lookup f=a_ ⟨oc,od,.func (M6 x qual (jq st) (dG st) (aF st) .none kV doc pm an cdv ct),osl⟩)
 (c:OJ K cdv qual=c_) (k:LZ K (.ref f)=c_):Fun K x qual st f (M6 x qual (jq st) (dG st) (aF st) .none kV doc pm an cdv ct):=⟨⟨oc,od,kV,doc,pm,an,cdv,ct,osl,rfl,l,c⟩,k⟩
end
section
variable {X:Cx}
end
theorem yx {A B:Prop} (h:B):if d_=c_ then A else B:=by
 rw [if_neg p_];exact h
theorem yy {A B:Prop} (h:A):if c_=c_ then A else B:=by
 rw [if_pos rfl];exact h
def Same (H H':Hp):Prop:=∀ b o,H b=a_ o→H' b=a_ o
theorem Same.refl (H:Hp):Same H H:=fun _ _ h=>h
theorem Same.trans {H H1 H2:Hp} (a:Same H H1) (b:Same H1 H2):Same H H2:=fun c o h=>b c o (a c o h)
theorem Same.free {H H':Hp} (e:Same H H') {l:k_} (h:H' l=ck):H l=ck:=by
 cases q:H l with
 | none=>rfl
 | some o =>
  rw [e l o q] at h;cases h
theorem Same.seq {K:e_} {H H':Hp} {a:k_} {xs:List V} (e:Same H H') (h:SqL K H a xs):SqL K H' a xs:=by
 rcases h with (h | ⟨o,h⟩) | h
 · exact .inl (.inl (e _ _ h))
 · exact .inl (.inr ⟨o,e _ _ h⟩)
 · exact .inr h
end L2
namespace FD
open PySem PySem.Spec PyProof.Rows L2
inductive Dv where
 | non | bl (b:Bool) | int (i:Int) | str (x:Str) | tup (xs:List Dv) | lst (xs:List Dv) | scr (ns:List Int) | exn (c:Nat)
def xnm:Nat→Str
 | 0=>"NoName" | 1=>"NoTable" | 2=>"NoPath" | 3=>"NoAsk" | 4=>"NoNote" | 5=>"NoJar" | 6=>"NoNumber" | 7=>"NoText" | 8=>"NoStep" | _=>"JarError"
mutual
def Rep (K:e_) (H:Hp):Dv→V→Prop
 | .non,v=>v=.non
 | .bl b,v=>v=.bl b
 | .int i,v=>v=.int i
 | .str x,v=>v=.str x
 | .tup ds,v=>∃ a xs,v=.ref a∧H a=a_ (.tup xs)∧Reps K H ds xs
 | .lst ds,v=>∃ a xs,v=.ref a∧H a=a_ (.lst xs)∧Reps K H ds xs
 | .scr ns,v=>∃ a,v=.ref a∧SqL K H a (ns.map V.int)
 | .exn c,v=>∃ a o u C,v=.ref a∧H a=a_ (.frz o u)∧o.cls=.ref C∧Mw K C_ (xnm c)=a_ (a_ (.ref C))
def Reps (K:e_) (H:Hp):List Dv→List V→Prop
 | [],vs=>vs=[]
 | d :: ds,vs=>∃ v us,vs=v :: us∧Rep K H d v∧Reps K H ds us
end
section
variable {K:e_} {H H':Hp}
mutual
theorem Rep.mono (e:Same H H'):∀ (d:Dv) (v:V),Rep K H d v→Rep K H' d v
 | .non,_,h=>h
 | .bl _,_,h=>h
 | .int _,_,h=>h
 | .str _,_,h=>h
 | .tup ds,v,h=>by
  obtain ⟨a,xs,r,h,q⟩:∃ a xs,v=.ref a∧H a=a_ (.tup xs)∧Reps K H ds xs:=h;exact ⟨a,xs,r,e _ _ h,Reps.mono e ds xs q⟩
 | .lst ds,v,h=>by
  obtain ⟨a,xs,r,h,q⟩:∃ a xs,v=.ref a∧H a=a_ (.lst xs)∧Reps K H ds xs:=h;exact ⟨a,xs,r,e _ _ h,Reps.mono e ds xs q⟩
 | .scr ns,v,h=>by
  obtain ⟨a,r,h⟩:∃ a,v=.ref a∧SqL K H a (ns.map V.int):=h;exact ⟨a,r,e.seq h⟩
 | .exn c,v,h=>by
  obtain ⟨a,o,u,C,r,h,q⟩:∃ a o u C,v=.ref a∧H a=a_ (.frz o u)∧o.cls=.ref C∧Mw K C_ (xnm c)=a_ (a_ (.ref C)):=h;exact ⟨a,o,u,C,r,e _ _ h,q⟩
theorem Reps.mono (e:Same H H'):∀ (ds:List Dv) (vs:List V),Reps K H ds vs→Reps K H' ds vs
 | [],_,h=>h
 | d :: ds,vs,h=>by
  obtain ⟨v,us,r,h,q⟩:∃ v us,vs=v :: us∧Rep K H d v∧Reps K H ds us:=h;exact ⟨v,us,r,Rep.mono e d v h,Reps.mono e ds us q⟩
end
theorem Reps.nil:Reps K H [] []:=rfl
theorem Reps.cons {d ds v vs} (h:Rep K H d v) (t:Reps K H ds vs):Reps K H (d :: ds) (v :: vs):=⟨v,vs,rfl,h,t⟩
theorem Reps.length:∀ {ds:List Dv} {vs:List V},Reps K H ds vs→vs.length=ds.length
 | [],vs,h=>by cases (show vs=[] from h); rfl
 | d :: ds,vs,h=>by
  obtain ⟨v,us,r,_,q⟩:∃ v us,vs=v :: us∧Rep K H d v∧Reps K H ds us:=h;subst r;show us.length + 1=ds.length + 1;rw [Reps.length q]
theorem Reps.get:∀ {ds:List Dv} {vs:List V} {i:Nat} {v:V},Reps K H ds vs→vs[i]?=a_ v→∃ d,ds[i]?=a_ d∧Rep K H d v
 | [],vs,i,v,h,e=>by cases (show vs=[] from h); simp at e
 | d :: ds,vs,i,v,h,e=>by
  obtain ⟨v',us,r,h',q⟩:∃ v us,vs=v :: us∧Rep K H d v∧Reps K H ds us:=h;subst r;cases i with
  | zero=>simp at e; subst e; exact ⟨d,rfl,h'⟩
  | succ i =>
   obtain ⟨d',e',r'⟩:=Reps.get (i:=i) q (by simpa using e);exact ⟨d',by simpa using e',r'⟩
theorem Reps.get':∀ {ds:List Dv} {vs:List V} {i:Nat} {d:Dv},Reps K H ds vs→ds[i]?=a_ d→∃ v,vs[i]?=a_ v∧Rep K H d v
 | [],vs,i,v,h,e=>by simp at e
 | d :: ds,vs,i,d0,h,e=>by
  obtain ⟨v',us,r,h',q⟩:∃ v us,vs=v :: us∧Rep K H d v∧Reps K H ds us:=h;subst r;cases i with
  | zero=>simp at e; subst e; exact ⟨v',rfl,h'⟩
  | succ i =>
   obtain ⟨d',e',r'⟩:=Reps.get' (i:=i) q (by simpa using e);exact ⟨d',by simpa using e',r'⟩
theorem Reps.append:∀ {ds es:List Dv} {vs us:List V},Reps K H ds vs→Reps K H es us→Reps K H (ds ++ es) (vs ++ us)
 | [],es,vs,us,h,q=>by cases (show vs=[] from h); exact q
 | d :: ds,es,vs,us,h,q=>by
  obtain ⟨v',vs',r,h',t⟩:∃ v us,vs=v :: us∧Rep K H d v∧Reps K H ds us:=h;subst r;exact ⟨v',vs' ++ us,rfl,h',Reps.append t q⟩
theorem Reps.take:∀ {ds:List Dv} {vs:List V} (n:Nat),Reps K H ds vs→Reps K H (ds.take n) (vs.take n)
 | ds,vs,0,_=>by simp [Reps]
 | [],vs,n + 1,h=>by cases (show vs=[] from h); exact rfl
 | d :: ds,vs,n + 1,h=>by
  obtain ⟨v',vs',r,h',t⟩:∃ v us,vs=v :: us∧Rep K H d v∧Reps K H ds us:=h;subst r;exact ⟨v',vs'.take n,rfl,h',Reps.take n t⟩
theorem Reps.drop:∀ {ds:List Dv} {vs:List V} (n:Nat),Reps K H ds vs→Reps K H (ds.drop n) (vs.drop n)
 | ds,vs,0,h=>h
 | [],vs,n + 1,h=>by cases (show vs=[] from h); exact rfl
 | d :: ds,vs,n + 1,h=>by
  obtain ⟨v',vs',r,h',t⟩:∃ v us,vs=v :: us∧Rep K H d v∧Reps K H ds us:=h;subst r;exact Reps.drop n t
theorem Rep.lstE {ds:List Dv} {v:V} (h:Rep K H (.lst ds) v):∃ a xs,v=.ref a∧H a=a_ (.lst xs)∧Reps K H ds xs:=h
theorem Rep.tupE {ds:List Dv} {v:V} (h:Rep K H (.tup ds) v):∃ a xs,v=.ref a∧H a=a_ (.tup xs)∧Reps K H ds xs:=h
theorem Rep.exnE {c:Nat} {v:V} (h:Rep K H (.exn c) v):∃ a o u C,v=.ref a∧H a=a_ (.frz o u)∧o.cls=.ref C∧Mw K C_ (xnm c)=a_ (a_ (.ref C)):=h
theorem Rep.scrE {ns:List Int} {v:V} (h:Rep K H (.scr ns) v):∃ a,v=.ref a∧SqL K H a (ns.map V.int):=h
end
theorem aE {H:Hp} {p:k_} (h:H p=ck) (o:HO):Same H (upd H p o):=fun b u q=>by rw [aB (ax q h)]; exact q
abbrev Ev:=List (Option Dv)
structure Envs (K:e_) (H:Hp) (σ:L2.St) (ρ:Ev):Prop where
 len:σ.length=ρ.length
 at':∀ (i:Nat) (d:Dv),ρ[i]?=a_ (a_ d)→∃ v,σ[i]?=a_ (a_ v)∧Rep K H d v
theorem Envs.mono {K:e_} {H H':Hp} {σ:L2.St} {ρ:Ev} (E:Envs K H σ ρ) (e:Same H H'):Envs K H' σ ρ :=
 ⟨E.len,fun i d h=>let ⟨v,h1,h2⟩:=E.at' i d h; ⟨v,h1,Rep.mono e d v h2⟩⟩
theorem Envs.set {K:e_} {H:Hp} {σ:L2.St} {ρ:Ev} {i:Nat} {d:Dv} {v:V} (E:Envs K H σ ρ) (r:Rep K H d v):Envs K H (σ.set i (a_ v)) (ρ.set i (a_ d)):=by
 refine ⟨by rw [Lu,Lu]; exact E.len,fun j d' h=>?_⟩;by_cases hj:i=j
 · subst hj;by_cases hl:i < ρ.length
   · rw [K1 hl] at h;cases h;exact ⟨v,by rw [K1 (by rw [E.len]; exact hl)],r⟩
   · rw [Mj (by rw [Lu]; omega)] at h;cases h
 · rw [J_ hj] at h;rw [J_ hj];exact E.at' j d' h
def fgt (js:List Nat) (ρ:Ev):Ev:=js.foldl (fun r j=>r.set j ck) ρ
theorem Envs.fgt1 {K:e_} {H:Hp} {σ:L2.St} {ρ:Ev} (j:Nat) (E:Envs K H σ ρ):Envs K H σ (ρ.set j ck):=by
 refine ⟨by rw [Lu]; exact E.len,fun i d h=>?_⟩;by_cases hj:j=i
 · subst hj;by_cases hl:j < ρ.length
   · rw [K1 hl] at h;cases h
   · rw [Mj (by rw [Lu]; omega)] at h;cases h
 · rw [J_ hj] at h;exact E.at' i d h
theorem Envs.fgt {K:e_} {H:Hp} {σ:L2.St}:∀ (js:List Nat) {ρ:Ev},Envs K H σ ρ→Envs K H σ (fgt js ρ)
 | [],_,E=>E
 | j :: js,_,E=>Envs.fgt js (E.fgt1 j)
inductive Rs (α:Type) where
 | ok (a:α)
 | exc (c:Nat)
inductive Fl where
 | nx (ρ:Ev)
 | rt (d:Dv)
 | exc (c:Nat)
def Fly (N:k_→Prop) (H:Hp) (e:k_) (cls:g_) (h:K5):Prop:=H e=ck∧N e∧∃ oe vs a0,h.get? e=a_ oe∧oe.cls=cls∧oe.data=.fields vs∧vs[0]?=a_ a0 ∧
 (vs[1]?=a_ .none∨∃ T oT ts,vs[1]?=a_ (.ref T)∧T≠e∧H T=ck∧N T∧h.get? T=a_ oT∧oT.data=.fields ts∧ts[3]?=a_ .none)
def G4 (X:Cx) (a:k_):Prop:=X.s₀.heap.get? a=ck∧∀ p∈X.pn,p.1≠a
def G5 (X:Cx) (H:Hp) (c:Nat) (e:g_) (s:h_):Prop:=∃ a C,e=.ref a∧Mw X.K C_ (xnm c)=a_ (a_ (.ref C))∧Fly (G4 X) H a (.ref C) s.heap
def XW (X:Cx) (c:Nat) (H:Hp):Prop:=∀ f' σ H' s e,Same H H'→Inv X f' σ H' s→G5 X H' c e s→X.xe e s
theorem XW.mono {X:Cx} {c:Nat} {H H':Hp} (h:XW X c H) (e:Same H H'):XW X c H':=fun f' σ H1 s x e1 I q=>h f' σ H1 s x (e.trans e1) I q
def Out (X:Cx) (H:Hp) (o:Option (Rs Dv)) (Q:VK):Prop:=match o with
 | none=>False
 | some (.exc c)=>XW X c H
 | some (.ok d)=>∀ v H',Same H H'→Rep X.K H' d v→Q v H'
def OutB (X:Cx) (H:Hp) (o:Option (Rs Bool)) (Q:Bool→Hp→Prop):Prop:=match o with
 | none=>False
 | some (.exc c)=>XW X c H
 | some (.ok d)=>∀ H',Same H H'→Q d H'
def OutA (X:Cx) (H:Hp) (o:Option (Rs (List Dv))) (Q:List V→Hp→Prop):Prop:=match o with
 | none=>False
 | some (.exc c)=>XW X c H
 | some (.ok ds)=>∀ vs H',Same H H'→Reps X.K H' ds vs→Q vs H'
def OutS (X:Cx) (H:Hp) (o:Option Fl) (D:sy):Prop:=match o with
 | none=>False
 | some (.exc c)=>XW X c H
 | some (.rt d)=>∀ v H',Same H H'→Rep X.K H' d v→D.rt v H'
 | some (.nx ρ)=>∀ σ H',Same H H'→Envs X.K H' σ ρ→D.nx σ H'
def bnd {α β:Type} (o:Option (Rs α)) (k:α→Option (Rs β)):Option (Rs β):=match o with
 | none=>ck
 | some (.exc c)=>a_ (.exc c)
 | some (.ok a)=>k a
def bO {α:Type} (o:Option (Rs α)) (k:α→Option Fl):Option Fl:=match o with
 | none=>ck
 | some (.exc c)=>a_ (.exc c)
 | some (.ok a)=>k a
def sq (o:Option Fl) (k:Ev→Option Fl):Option Fl:=match o with
 | some (.nx ρ)=>k ρ
 | o=>o
section
variable {X:Cx} {H H':Hp} {Q:VK} {QB:Bool→Hp→Prop} {QA:List V→Hp→Prop} {D:sy}
theorem Out.mono (e:Same H H'):∀ {o:Option (Rs Dv)},Out X H o Q→Out X H' o Q
 | none,h=>h
 | some (.exc _),h=>XW.mono h e
 | some (.ok _),h=>fun v H1 e1 r=>h v H1 (e.trans e1) r
theorem OutB.mono (e:Same H H'):∀ {o:Option (Rs Bool)},OutB X H o QB→OutB X H' o QB
 | none,h=>h
 | some (.exc _),h=>XW.mono h e
 | some (.ok _),h=>fun H1 e1=>h H1 (e.trans e1)
theorem OutA.mono (e:Same H H'):∀ {o:Option (Rs (List Dv))},OutA X H o QA→OutA X H' o QA
 | none,h=>h
 | some (.exc _),h=>XW.mono h e
 | some (.ok _),h=>fun v H1 e1 r=>h v H1 (e.trans e1) r
theorem OutS.mono (e:Same H H'):∀ {o:Option Fl},OutS X H o D→OutS X H' o D
 | none,h=>h
 | some (.exc _),h=>XW.mono h e
 | some (.rt _),h=>fun v H1 e1 r=>h v H1 (e.trans e1) r
 | some (.nx _),h=>fun v H1 e1 r=>h v H1 (e.trans e1) r
theorem Out.bind {o:Option (Rs Dv)} {k:Dv→Option (Rs Dv)} {P:VK} (h:Out X H (bnd o k) Q) (hp:∀ d v H',Same H H'→Rep X.K H' d v→Out X H' (k d) Q→P v H'):Out X H o P:=by
 match o,h with
 | some (.exc _),h=>exact h
 | some (.ok d),h=>exact fun v H1 e r=>hp d v H1 e r (Out.mono e h)
theorem Out.bindB {o:Option (Rs Dv)} {k:Dv→Option (Rs Bool)} {P:VK} (h:OutB X H (bnd o k) QB) (hp:∀ d v H',Same H H'→Rep X.K H' d v→OutB X H' (k d) QB→P v H'):Out X H o P:=by
 match o,h with
 | some (.exc _),h=>exact h
 | some (.ok d),h=>exact fun v H1 e r=>hp d v H1 e r (OutB.mono e h)
theorem Out.bindA {o:Option (Rs Dv)} {k:Dv→Option (Rs (List Dv))} {P:VK} (h:OutA X H (bnd o k) QA) (hp:∀ d v H',Same H H'→Rep X.K H' d v→OutA X H' (k d) QA→P v H'):Out X H o P:=by
 match o,h with
 | some (.exc _),h=>exact h
 | some (.ok d),h=>exact fun v H1 e r=>hp d v H1 e r (OutA.mono e h)
theorem Out.bindS {o:Option (Rs Dv)} {k:Dv→Option Fl} {P:VK} (h:OutS X H (bO o k) D) (hp:∀ d v H',Same H H'→Rep X.K H' d v→OutS X H' (k d) D→P v H'):Out X H o P:=by
 match o,h with
 | some (.exc _),h=>exact h
 | some (.ok d),h=>exact fun v H1 e r=>hp d v H1 e r (OutS.mono e h)
theorem OutB.bind {o:Option (Rs Bool)} {k:Bool→Option (Rs Dv)} {P:Bool→Hp→Prop} (h:Out X H (bnd o k) Q) (hp:∀ b H',Same H H'→Out X H' (k b) Q→P b H'):OutB X H o P:=by
 match o,h with
 | some (.exc _),h=>exact h
 | some (.ok d),h=>exact fun H1 e=>hp d H1 e (Out.mono e h)
theorem OutB.bindB {o:Option (Rs Bool)} {k:Bool→Option (Rs Bool)} {P:Bool→Hp→Prop} (h:OutB X H (bnd o k) QB) (hp:∀ b H',Same H H'→OutB X H' (k b) QB→P b H'):OutB X H o P:=by
 match o,h with
 | some (.exc _),h=>exact h
 | some (.ok d),h=>exact fun H1 e=>hp d H1 e (OutB.mono e h)
theorem OutB.bindS {o:Option (Rs Bool)} {k:Bool→Option Fl} {P:Bool→Hp→Prop} (h:OutS X H (bO o k) D) (hp:∀ b H',Same H H'→OutS X H' (k b) D→P b H'):OutB X H o P:=by
 match o,h with
 | some (.exc _),h=>exact h
 | some (.ok d),h=>exact fun H1 e=>hp d H1 e (OutS.mono e h)
theorem OutA.bind {o:Option (Rs (List Dv))} {k:List Dv→Option (Rs Dv)} {P:List V→Hp→Prop} (h:Out X H (bnd o k) Q) (hp:∀ ds vs H',Same H H'→Reps X.K H' ds vs→Out X H' (k ds) Q→P vs H'):OutA X H o P:=by
 match o,h with
 | some (.exc _),h=>exact h
 | some (.ok d),h=>exact fun v H1 e r=>hp d v H1 e r (Out.mono e h)
theorem OutA.bindA {o:Option (Rs (List Dv))} {k:List Dv→Option (Rs (List Dv))} {P:List V→Hp→Prop} (h:OutA X H (bnd o k) QA) (hp:∀ ds vs H',Same H H'→Reps X.K H' ds vs→OutA X H' (k ds) QA→P vs H'):OutA X H o P:=by
 match o,h with
 | some (.exc _),h=>exact h
 | some (.ok d),h=>exact fun v H1 e r=>hp d v H1 e r (OutA.mono e h)
end
abbrev FnE:=Ev→Option (Rs Dv)
abbrev FnB:=Ev→Option (Rs Bool)
abbrev FnA:=Ev→Option (Rs (List Dv))
abbrev FnS:=Ev→Option Fl
def tF (X:Cx) (f:FnE):TE:=fun σ H Q=>∃ ρ,Envs X.K H σ ρ∧Out X H (f ρ) Q
def tT (X:Cx) (f:FnB):TT:=fun σ H Q=>∃ ρ,Envs X.K H σ ρ∧OutB X H (f ρ) Q
def tA (X:Cx) (f:FnA):TA:=fun σ H Q=>∃ ρ,Envs X.K H σ ρ∧OutA X H (f ρ) Q
def tS (X:Cx) (f:FnS):TS:=fun D σ H=>∃ ρ,Envs X.K H σ ρ∧OutS X H (f ρ) D
structure FE (X:Cx) (e:F_) (f:FnE):Prop where
 h:PE X e (tF X f)
structure FT (X:Cx) (e:F_) (f:FnB):Prop where
 h:PT X e (tT X f)
structure FW (X:Cx) (e:F_) (f:FnB):Prop where
 h:PW X e (tT X f)
structure FA (X:Cx) (es:List F_) (f:FnA):Prop where
 h:PA X es (tA X f)
structure FS (X:Cx) (st:LY) (f:FnS):Prop where
 h:PS X st (tS X f)
structure FSs (X:Cx) (st:List LY) (f:FnS):Prop where
 h:PSs X st (tS X f)
section
variable {X:Cx} {a b c e:F_} {es:List F_} {fa fb fc:FnE} {pos:Pos}
theorem cY {t:TE} {f:FnE} (h:PE X e t) (w:∀ σ H Q ρ,Envs X.K H σ ρ→Out X H (f ρ) Q→t σ H Q):FE X e f :=
 ⟨fun f' s σ H Q I ⟨ρ,E,o⟩=>h f' s σ H Q I (w σ H Q ρ E o)⟩
theorem zD {t:TT} {f:FnB} (h:PT X e t) (w:∀ σ H Q ρ,Envs X.K H σ ρ→OutB X H (f ρ) Q→t σ H Q):FT X e f :=
 ⟨fun f' s σ H Q I ⟨ρ,E,o⟩=>h f' s σ H Q I (w σ H Q ρ E o)⟩
theorem Cr {t:TT} {f:FnB} (h:PW X e t) (w:∀ σ H Q ρ,Envs X.K H σ ρ→OutB X H (f ρ) Q→t σ H Q):FW X e f :=
 ⟨fun wh f' s σ H Q I ⟨ρ,E,o⟩=>h wh f' s σ H Q I (w σ H Q ρ E o)⟩
theorem pc {st:LY} {t:TS} {f:FnS} (h:PS X st t) (w:∀ D σ H ρ,Envs X.K H σ ρ→OutS X H (f ρ) D→t D σ H):FS X st f :=
 ⟨fun f' s σ H D I ⟨ρ,E,o⟩=>h f' s σ H D I (w D σ H ρ E o)⟩
theorem yz {st:List LY} {t:TS} {f:FnS} (h:PSs X st t) (w:∀ D σ H ρ,Envs X.K H σ ρ→OutS X H (f ρ) D→t D σ H):FSs X st f :=
 ⟨fun f' s σ H D I ⟨ρ,E,o⟩=>h f' s σ H D I (w D σ H ρ E o)⟩
theorem FW.ft {f:FnB} (h:FW X e f):FT X e f:=⟨h.h _⟩
def ac (i:Nat):FnE:=fun ρ=>match ρ[i]? with
 | some (a_ d)=>a_ (.ok d)
 | _=>ck
def fC (d:Dv):FnE:=fun _=>a_ (.ok d)
theorem Ct (i:Nat) (h:PE X e (zo i)):FE X e (ac i):=cY h fun σ H Q ρ E o=>by
 unfold ac at o;split at o
 · rename_i d hd;obtain ⟨v,h1,h2⟩:=E.at' i d hd;exact ⟨v,h1,o v H (.refl H) h2⟩
 · exact o.elim
theorem glb {x:Str} (h:X.env.kindOf x=a_ .globalImplicit):Gl X x:=h
theorem G6 (i:Nat) {x:Str} (hN:X.N[i]?=a_ x:=by kernel_rfl) (hv:X.env.scope.names.lookup x=a_ .local:=by kernel_rfl) (hd:(x == ("__debug__":Str))=d_:=by kernel_rfl) (hcd:(x == ("__classdict__":Str))=d_:=by kernel_rfl):FE X (.Name x pos) (ac i):=Ct i (sN hN (.inl hv) hd hcd)
theorem G7 (i:Nat) {x:Str} (hN:X.N[i]?=a_ x:=by kernel_rfl) (hv:X.env.scope.names.lookup x=a_ .cell:=by kernel_rfl) (hd:(x == ("__debug__":Str))=d_:=by kernel_rfl) (hcd:(x == ("__classdict__":Str))=d_:=by kernel_rfl):FE X (.Name x pos) (ac i):=Ct i (sN hN (.inr (.inl hv)) hd hcd)
theorem BK {d:Dv} {v:V} (h:PE X e (tC v)) (r:∀ K H,Rep K H d v):FE X e (fC d):=cY h fun _ H _ _ _ o=>o v H (.refl H) (r X.K H)
theorem Cu {i j}:FE X (.Constant (.int i) j pos) (fC (.int i)):=BK B0 fun _ _=>rfl
theorem G8 {b j}:FE X (.Constant (.bool b) j pos) (fC (.bl b)):=BK GG fun _ _=>rfl
theorem Cv {j}:FE X (.Constant .none j pos) (fC .non):=BK B1 fun _ _=>rfl
theorem Cw {x j}:FE X (.Constant (.str x) j pos) (fC (.str x)):=BK B2 fun _ _=>rfl
theorem zE {x:Str} {i:Int} {t:Tok} (hg:Gl X x) (hm:X.mg x=a_ (.int i t)) (hd:(x == ("__debug__":Str))=d_:=by kernel_rfl):FE X (.Name x pos) (fC (.int i)):=BK (o4 (v:=.int i) hg hm ⟨t,rfl⟩ hd) fun _ _=>rfl
theorem zF {x:Str} {i:Str} {t:Tok} (hg:Gl X x) (hm:X.mg x=a_ (.str i t)) (hd:(x == ("__debug__":Str))=d_:=by kernel_rfl):FE X (.Name x pos) (fC (.str i)):=BK (o4 (v:=.str i) hg hm ⟨t,rfl⟩ hd) fun _ _=>rfl
def f2 (g:Dv→Dv→Option (Rs Dv)) (fa fb:FnE):FnE:=fun ρ=>bnd (fa ρ) fun x=>bnd (fb ρ) fun y=>g x y
def GOp (X:Cx) (r:R2) (g:Dv→Dv→Option (Rs Dv)):Prop:=∀ dx dy x y H Q,Rep X.K H dx x→Rep X.K H dy y→Out X H (g dx dy) Q→r x y H Q
theorem two {r:R2} {g:Dv→Dv→Option (Rs Dv)} (hg:GOp X r g) {σ:L2.St} {H:Hp} {Q:VK} {ρ:Ev} (E:Envs X.K H σ ρ) (o:Out X H (f2 g fa fb ρ) Q):tOp r (tF X fa) (tF X fb) σ H Q :=
 ⟨ρ,E,Out.bind o fun dx x H1 e1 rx o1=>⟨ρ,E.mono e1,Out.bind o1 fun dy y H2 e2 ry o2=>hg dx dy x y H2 Q (Rep.mono e2 dx x rx) ry o2⟩⟩
theorem pd {op:Operator} {r:R2} {g:Dv→Dv→Option (Rs Dv)} (ho:OpR X (Mi op) r) (hg:GOp X r g) (ha:FE X a fa) (hb:FE X b fb):FE X (.BinOp a op b pos) (f2 g fa fb) :=
 cY (GS ho ha.h hb.h) fun _ _ _ _ E o=>two hg E o
theorem jO {op:CmpOp} {r:R2} {g:Dv→Dv→Option (Rs Dv)} (ho:OpR X (Lj op) r) (hg:GOp X r g) (ha:FE X a fa) (hb:FE X b fb) (hm:K3 op b=d_):FE X (.Compare a [op] [b] pos) (f2 g fa fb) :=
 cY (zt ho ha.h hb.h hm) fun _ _ _ _ E o=>two hg E o
def toB:Dv→Option (Rs Bool)
 | .bl b=>a_ (.ok b)
 | _=>ck
def fB (f:FnE):FnB:=fun ρ=>bnd (f ρ) toB
theorem qu {H:Hp} {d:Dv} {v:V} {QB:Bool→Hp→Prop} (r:Rep X.K H d v) (o:OutB X H (toB d) QB):∃ k,v=.bl k∧QB k H:=by
 cases d with
 | bl b=>exact ⟨b,r,o H (.refl H)⟩
 | _=>exact o.elim
theorem gL {op:CmpOp} {r:R2} {g:Dv→Dv→Option (Rs Dv)} (ho:OpR X (Lj op) r) (hg:GOp X r g) (ha:FE X a fa) (hb:FE X b fb) (hm:K3 op b=d_):FT X (.Compare a [op] [b] pos) (fB (f2 g fa fb)) :=
 zD (zu ho ha.h hb.h hm) fun σ H Q ρ E o=>by
  show tOp r (tF X fa) (tF X fb) σ H _;refine two hg E ?_;exact Out.bindB o fun d v H' e r o'=>qu r o'
theorem Cy (ha:FE X a fa) (he:∀ whole,isTrue a X.env whole=(do let v ← whole; RU a.pos; Nn [v] (truthy v)):=by intro _; kernel_rfl):FT X a (fB fa) :=
 zD (B3 ha.h he) fun σ H Q ρ E o=>⟨ρ,E,Out.bindB o fun d v H' e r o'=>qu r o'⟩
def bS (f g:FnB):FnB:=fun ρ=>bnd (f ρ) fun k=>if k then g ρ else a_ (.ok d_)
def bOr (f g:FnB):FnB:=fun ρ=>bnd (f ρ) fun k=>if k then a_ (.ok c_) else g ρ
def br (f:FnB):FnB:=fun ρ=>bnd (f ρ) fun k=>a_ (.ok (!k))
variable {ga gb:FnB} {rest:List F_}
theorem zI (ha:FT X a ga):FW X (.BoolOp .And [a] pos) ga:=⟨zp ha.h⟩
theorem Cz (ha:FT X a ga):FW X (.BoolOp .Or [a] pos) ga:=⟨B4 ha.h⟩
theorem yA (ha:FT X a ga) (hb:FW X (.BoolOp .And (b :: rest) pos) gb):FW X (.BoolOp .And (a :: b :: rest) pos) (bS ga gb) :=
 Cr (B5 ha.h hb.h) fun σ H Q ρ E o=>⟨ρ,E,OutB.bindB o fun k H1 e o'=>by
  cases k with
  | true=>exact yy ⟨ρ,E.mono e,o'⟩
  | false=>exact yx (o' H1 (.refl H1))⟩
theorem CB (ha:FT X a ga) (hb:FW X (.BoolOp .Or (b :: rest) pos) gb):FW X (.BoolOp .Or (a :: b :: rest) pos) (bOr ga gb) :=
 Cr (GH ha.h hb.h) fun σ H Q ρ E o=>⟨ρ,E,OutB.bindB o fun k H1 e o'=>by
  cases k with
  | true=>exact yy (o' H1 (.refl H1))
  | false=>exact yx ⟨ρ,E.mono e,o'⟩⟩
theorem CF (ha:FT X a ga):FT X (.UnaryOp .Not a pos) (br ga) :=
 zD (B6 ha.h) fun σ H Q ρ E o=>⟨ρ,E,OutB.bindB o fun k H1 e o'=>o' H1 (.refl H1)⟩
def cC (f g:FnE):FnE:=fun ρ=>bnd (f ρ) fun x=>bnd (toB x) fun k=>if k then g ρ else a_ (.ok (.bl d_))
def vOr (f g:FnE):FnE:=fun ρ=>bnd (f ρ) fun x=>bnd (toB x) fun k=>if k then a_ (.ok (.bl c_)) else g ρ
def fH (f:FnE):FnE:=fun ρ=>bnd (f ρ) fun x=>bnd (toB x) fun k=>a_ (.ok (.bl (!k)))
theorem pj {H:Hp} {d:Dv} {v:V} {k:Bool→Option (Rs Dv)} {Q:VK} (r:Rep X.K H d v) (o:Out X H (bnd (toB d) k) Q):∃ b,v=.bl b∧Out X H (k b) Q:=by
 cases d with
 | bl b=>exact ⟨b,r,o⟩
 | _=>exact o.elim
theorem CG {op} (ha:FE X a fa):FE X (.BoolOp op [a] pos) fa:=⟨B7 ha.h⟩
theorem CH (ha:FE X a fa) (hb:FE X (.BoolOp .And (b :: rest) pos) fb):FE X (.BoolOp .And (a :: b :: rest) pos) (cC fa fb) :=
 cY (B8 ha.h hb.h) fun σ H Q ρ E o=>⟨ρ,E,Out.bind o fun d v H1 e r o'=>by
  obtain ⟨k,rfl,o2⟩:=pj r o';refine ⟨k,rfl,?_⟩;cases k with
  | true=>exact yy ⟨ρ,E.mono e,o2⟩
  | false=>exact yx (o2 (.bl d_) H1 (.refl H1) rfl)⟩
theorem G9 (ha:FE X a fa) (hb:FE X (.BoolOp .Or (b :: rest) pos) fb):FE X (.BoolOp .Or (a :: b :: rest) pos) (vOr fa fb) :=
 cY (GK ha.h hb.h) fun σ H Q ρ E o=>⟨ρ,E,Out.bind o fun d v H1 e r o'=>by
  obtain ⟨k,rfl,o2⟩:=pj r o';refine ⟨k,rfl,?_⟩;cases k with
  | true=>exact yy (o2 (.bl c_) H1 (.refl H1) rfl)
  | false=>exact yx ⟨ρ,E.mono e,o2⟩⟩
theorem CI (ha:FE X a fa):FE X (.UnaryOp .Not a pos) (fH fa) :=
 cY (B9 ha.h) fun σ H Q ρ E o=>⟨ρ,E,Out.bind o fun d v H1 e r o'=>by
  obtain ⟨k,rfl,o2⟩:=pj r o';exact ⟨k,rfl,o2 (.bl (!k)) H1 (.refl H1) rfl⟩⟩
def fIf (c:FnB) (f g:FnE):FnE:=fun ρ=>bnd (c ρ) fun k=>if k then f ρ else g ρ
theorem Ha (hc:FT X c ga) (ha:FE X a fa) (hb:FE X b fb):FE X (.IfExp c a b pos) (fIf ga fa fb) :=
 cY (wp hc.h ha.h hb.h) fun σ H Q ρ E o=>⟨ρ,E,OutB.bind o fun k H1 e o'=>by
  cases k with
  | true=>exact yy ⟨ρ,E.mono e,o'⟩
  | false=>exact yx ⟨ρ,E.mono e,o'⟩⟩
def ah:FnA:=fun _=>a_ (.ok [])
def aa (f:FnE) (g:FnA):FnA:=fun ρ=>bnd (f ρ) fun x=>bnd (g ρ) fun xs=>a_ (.ok (x :: xs))
theorem CK {t:TA} {f:FnA} (h:PA X es t) (w:∀ σ H Q ρ,Envs X.K H σ ρ→OutA X H (f ρ) Q→t σ H Q):FA X es f :=
 ⟨fun pos f' s σ H Q I ⟨ρ,E,o⟩=>h pos f' s σ H Q I (w σ H Q ρ E o)⟩
theorem tU:FA X [] ah:=CK qk fun _ H _ _ _ o=>o [] H (.refl H) rfl
theorem pk {g:FnA} (ha:FE X e fa) (hr:FA X es g) (hs:i_ (e :: es) X.env=(d_,eval e X.env) :: i_ es X.env:=by kernel_rfl):FA X (e :: es) (aa fa g) :=
 CK (iA ha.h hr.h hs) fun σ H Q ρ E o=>⟨ρ,E,Out.bindA o fun d v H1 e r o1=>⟨ρ,E.mono e,OutA.bindA o1 fun ds vs H2 e2 rs o2=>o2 (v :: vs) H2 (.refl H2) ⟨v,vs,rfl,Rep.mono e2 d v r,rs⟩⟩⟩
def bz (g:FnA):FnE:=fun ρ=>bnd (g ρ) fun ds=>if ds.length≤100000 then a_ (.ok (.lst ds)) else ck
def bp (g:FnA):FnE:=fun ρ=>bnd (g ρ) fun ds=>if ds.length≤100000 then a_ (.ok (.tup ds)) else ck
theorem cA {n:Nat} (h:n≤100000):n≤sizeLine:=K0 h (by rw [NK]; decide)
theorem CL {g:FnA} (h:FA X es g):FE X (.List es pos) (bz g) :=
 cY (yw h.h) fun σ H Q ρ E o=>⟨ρ,E,OutA.bind o fun ds vs H1 e rs o1=>by
  split at o1
  · rename_i hl;refine ⟨by rw [rs.length]; exact cA hl,fun p hp=>o1 (.ref p) _ (aE hp _) ⟨p,vs,rfl,aA,Reps.mono (aE hp _) _ _ rs⟩⟩
  · exact o1.elim⟩
theorem CM {g:FnA} {k} (h:FA X es g):FE X (.Tuple es k pos) (bp g) :=
 cY (Ce h.h) fun σ H Q ρ E o=>⟨ρ,E,OutA.bind o fun ds vs H1 e rs o1=>by
  split at o1
  · rename_i hl;refine ⟨by rw [rs.length]; exact cA hl,fun p hp=>o1 (.ref p) _ (aE hp _) ⟨p,vs,rfl,aA,Reps.mono (aE hp _) _ _ rs⟩⟩
  · exact o1.elim⟩
variable {st:LY} {sts:List LY} {f g:FnS}
theorem zJ:FSs X [] (fun ρ=>a_ (.nx ρ)):=yz sP fun D σ H ρ E o=>o σ H (.refl H) E
def ar (f g:FnS):FnS:=fun ρ=>sq (f ρ) g
theorem wE (h1:FS X st f) (h2:FSs X sts g):FSs X (st :: sts) (ar f g) :=
 yz (j6 h1.h h2.h) fun D σ H ρ E o=>⟨ρ,E,by
  unfold ar at o
  match hf:f ρ with
  | none=>rw [hf] at o; exact o.elim
  | some (.exc c)=>rw [hf] at o; exact o
  | some (.rt d)=>rw [hf] at o; exact o
  | some (.nx ρ')=>rw [hf] at o; exact fun σ' H' e E'=>⟨ρ',E',OutS.mono e o⟩⟩
theorem pq (h1:FS X st f):FSs X [st] f:=⟨sQ h1.h⟩
def ay (f:FnE):FnS:=fun ρ=>bO (f ρ) fun d=>a_ (.rt d)
theorem tV (he:FE X e fa):FS X (.Return (a_ e) pos) (ay fa) :=
 pc (yp he.h) fun D σ H ρ E o=>⟨ρ,E,Out.bindS o fun d v H1 e r o1=>o1 v H1 (.refl H1) r⟩
def bg:FnS:=fun _=>a_ (.rt .non)
def bi (f:FnE):FnS:=fun ρ=>bO (f ρ) fun _=>a_ (.nx ρ)
theorem zK (he:FE X e fa) (hs:Mg e ck pos.line X.env=pure d_:=by kernel_rfl):FS X (.Expr e pos) (bi fa) :=
 pc (sS he.h hs) fun D σ H ρ E o=>⟨ρ,E,Out.bindS o fun d v H1 e r o1=>o1 σ H1 (.refl H1) (E.mono e)⟩
def aL (i:Nat) (f:FnE):FnS:=fun ρ=>bO (f ρ) fun d=>a_ (.nx (ρ.set i (a_ d)))
theorem CN (i:Nat) {x:Str} {pos':Pos} (hN:X.N.Nodup) (hi:X.N[i]?=a_ x) (hx:Loc X.env.scope x) (he:FE X e fa) (hs:Mg e (a_ (.Name x pos')) pos.line X.env=pure d_:=by kernel_rfl) (hf:X.fn x=c_∨X.env.scope.names.lookup x=a_ .local:=by first | exact .inl rfl | exact .inr rfl | assumption) :
 FS X (.Assign [.Name x pos'] e pos) (aL i fa) :=
 pc (qh hN hi hx he.h hs hf) fun D σ H ρ E o=>⟨ρ,E,Out.bindS o fun d v H1 e r o1=>o1 _ H1 (.refl H1) ((E.mono e).set r)⟩
def aM (c:FnB) (f g:FnS):FnS:=fun ρ=>bO (c ρ) fun k=>if k then f ρ else g ρ
theorem Hb {as bs:List LY} (hc:FT X c ga) (ha:FSs X as f) (hb:FSs X bs g):FS X (.If c as bs pos) (aM ga f g) :=
 pc (zq hc.h ha.h hb.h) fun D σ H ρ E o=>⟨ρ,E,OutB.bindS o fun k H1 e o1=>by
  cases k with
  | true=>exact yy ⟨ρ,E.mono e,o1⟩
  | false=>exact yx ⟨ρ,E.mono e,o1⟩⟩
def bx:FnS:=fun _=>ck
end
def Its (z:Str):It:=⟨fun i _=>i < z.cps.size,fun i H x H'=>H'=H∧∃ c,z.cps[i]?=a_ c∧x=.str ⟨#[c]⟩,fun i _=>i=z.cps.size⟩
theorem nk {prog:r_} {w:E_} {A:G_} (hh:A.handled=ck) (I:k_) (x:Str) (t:Tok) {ty:String} (hty:ty="str_ascii_iterator"∨ty="str_iterator") :
 Walks prog w A I [I] [I] x.cps.size (SignAt x) (fun i h=>h.IsStrIter I ty x t i):=by
 rcases hty with rfl | rfl
 · exact Walks.strAscii hh I x t
 · exact Walks.strWide hh I x t
theorem wF {P:r_} {w:E_} {K:e_} {tg:F_} (z:Str) (t:Tok) (it:k_) {ty:String} (hty:ty="str_ascii_iterator"∨ty="str_iterator"):wt P w K tg (Its z) [it] it (fun i h=>h.IsStrIter it ty z t i) where
 mem:=by simp
 obj:=fun i h st b hb=>by
  have e:b=it:=by simpa using hb
  subst e;obtain ⟨o,e,c,d⟩:=st;exact ⟨o,e,fun v z=>by rw [d] at z; cases z⟩
 keep:=fun i h h' st k=>let ⟨o,ho,r⟩:=st; ⟨o,k it (by simp) o ho,r⟩
 item:=by
  intro X hP hw hK hc i f' s σ H E I hf st hg;subst hP hw hK;obtain ⟨f0,f1,f2,f3,f4,f5⟩:=hf it (by simp);have W:=nk (prog:=X.prog) (w:=X.w) (I.ok.hd hc) it z t hty;refine W.item i s _ _ hg st fun v h' tk hv st' kk=>?_;obtain ⟨c,u,hc',rfl⟩:=hv;have I1:Inv X f' σ H { s with heap:=h',toks:=tk }:=I.turned (fun b o hb e=>kk b o (by simpa using hb) e) f0 f1 f3 f4 f5;obtain ⟨o,e,c',d⟩:=id st';refine ⟨_,rfl,wu (s:={ s with heap:=h',toks:=tk }) e c' d (by rcases hty with rfl | rfl <;> decide) ⟨.str ⟨#[c]⟩,H,I1,⟨u,rfl⟩,⟨rfl,c,hc',rfl⟩,st',fun b hb=>(hf b hb).1⟩⟩
 done:=by
  intro X hP hw hK hc i f' s σ H E I hf st hg;subst hP hw hK;obtain ⟨f0,f1,f2,f3,f4,f5⟩:=hf it (by simp);have W:=nk (prog:=X.prog) (w:=X.w) (I.ok.hd hc) it z t hty;have hg':i=z.cps.size:=hg;subst hg';exact W.done s _ _ st fun h' tk kk=>⟨rfl,I.turned (fun b o hb e=>kk b o (by simpa using hb) e) f0 f1 f3 f4 f5⟩
 self:=fun A i s Q E st h=>by
  rcases hty with rfl | rfl
  · exact wpAny_pyIter_striter_ascii st h
  · exact wpAny_pyIter_striter_wide st h
structure Wk (K:e_) (J:It) (ds:List Dv) (H0:Hp):Prop where
 go:∀ i H,Same H0 H→i < ds.length→J.go i H
 stop:∀ H,Same H0 H→J.stop ds.length H
 yld:∀ i H x H',Same H0 H→i < ds.length→J.yld i H x H'→H'=H∧∃ d,ds[i]?=a_ d∧Rep K H d x
def OutI (X:Cx) (H:Hp) (o:Option (Rs (List Dv))) (R:It→Hp→Prop):Prop:=match o with
 | none=>False
 | some (.exc c)=>XW X c H
 | some (.ok ds)=>∀ J H',Same H H'→Wk X.K J ds H'→R J H'
structure FI (X:Cx) (tg iter:F_) (f:FnA):Prop where
 h:PI X tg iter fun σ H R=>∃ ρ,Envs X.K H σ ρ∧OutI X H (f ρ) R
theorem OutI.mono {X:Cx} {H H':Hp} {R:It→Hp→Prop} (e:Same H H'):∀ {o:Option (Rs (List Dv))},OutI X H o R→OutI X H' o R
 | none,h=>h
 | some (.exc _),h=>XW.mono h e
 | some (.ok _),h=>fun v H1 e1 r=>h v H1 (e.trans e1) r
def signs (z:Str):List Dv:=z.cps.toList.map fun c=>.str ⟨#[c]⟩
def items:Dv→Option (Rs (List Dv))
 | .lst ds=>a_ (.ok ds)
 | .tup ds=>a_ (.ok ds)
 | .str z=>a_ (.ok (signs z))
 | _=>ck
def ef (f:FnE):FnA:=fun ρ=>bnd (f ρ) items
theorem zL {K:e_} {H:Hp} {a:k_} {xs:List V} {ds:List Dv} (h:H a=a_ (.lst xs)) (r:Reps K H ds xs):Wk K (Itl K a) ds H where
 go:=fun i H' e hi=>by
  have hx:i < xs.length:=by rw [r.length]; exact hi
  exact ⟨xs,xs[i],SqL.of (e _ _ h),by simp [hx]⟩
 stop:=fun H' e=>⟨xs,SqL.of (e _ _ h),by rw [r.length]; exact uk _⟩
 yld:=fun i H' x H2 e hi y=>by
  obtain ⟨e2,y⟩:=y;obtain ⟨d,h1,h2⟩:=Reps.get (Reps.mono e _ _ r) (y xs (SqL.of (e _ _ h)));exact ⟨e2,d,h1,h2⟩
theorem CO {K:e_} {H:Hp} {a:k_} {xs:List V} {ds:List Dv} (h:H a=a_ (.tup xs)) (r:Reps K H ds xs):Wk K (Itt K a) ds H where
 go:=fun i H' e hi=>by
  have hx:i < xs.length:=by rw [r.length]; exact hi
  exact ⟨xs,xs[i],SqT.of (e _ _ h),by simp [hx]⟩
 stop:=fun H' e=>⟨xs,SqT.of (e _ _ h),by rw [r.length]; exact uk _⟩
 yld:=fun i H' x H2 e hi y=>by
  obtain ⟨e2,y⟩:=y;obtain ⟨d,h1,h2⟩:=Reps.get (Reps.mono e _ _ r) (y xs (SqT.of (e _ _ h)));exact ⟨e2,d,h1,h2⟩
theorem CP {K:e_} {H:Hp} {z:Str}:Wk K (Its z) (signs z) H where
 go:=fun i H' e hi=>by show i < z.cps.size; simpa [signs] using hi
 stop:=fun H' e=>by show (signs z).length=z.cps.size; simp [signs]
 yld:=fun i H' x H2 e hi y=>by
  obtain ⟨e2,c,hc,rfl⟩:=y;refine ⟨e2,.str ⟨#[c]⟩,?_,rfl⟩;have hc':z.cps.toList[i]?=a_ c:=by simpa using hc
  rw [signs,Lx,hc'] <;> rfl
def rng (lo:Int):Nat→List Dv
 | 0=>[]
 | n + 1=>.int lo :: rng (lo + 1) n
theorem ig:∀ (n:Nat) (lo:Int),(rng lo n).length=n
 | 0,_=>rfl
 | n + 1,lo=>by show (rng (lo + 1) n).length + 1=n + 1; rw [ig]
theorem tW:∀ (n:Nat) (lo:Int) (i:Nat),i < n→(rng lo n)[i]?=a_ (.int (lo + i))
 | 0,_,_,h=>by omega
 | n + 1,lo,0,_=>by simp [rng]
 | n + 1,lo,i + 1,h=>by
  have q:=tW n (lo + 1) i (by omega);show (Dv.int lo :: rng (lo + 1) n)[i + 1]?=_;rw [NP,q];congr 2;omega
theorem qv {K:e_} {H:Hp} {lo:Int} {n:Nat}:Wk K (Itr lo n) (rng lo n) H where
 go:=fun i H' e hi=>by rw [ig] at hi; exact hi
 stop:=fun H' e=>by show n≤(rng lo n).length; rw [ig]; exact uk _
 yld:=fun i H' x H2 e hi y=>by
  obtain ⟨e2,rfl⟩:=y;rw [ig] at hi;exact ⟨e2,_,tW n lo i hi,rfl⟩
section
variable {X:Cx} {tg l a b:F_} {fl:FnE} {pos p:Pos}
theorem CQ (hl:FE X l fl):FI X tg l (ef fl):=by
 constructor;intro f' s σ H R I h;obtain ⟨ρ,E,o⟩:=h;have key:Out X H (fl ρ) fun x H1=>∃ d,Rep X.K H1 d x∧OutI X H1 (items d) R:=by
  unfold ef at o
  match hf:fl ρ,o with
  | some (.exc c),o=>exact o
  | some (.ok d),o=>exact fun v H1 e r=>⟨d,r,OutI.mono e o⟩
  | none,o=>exact o
 refine thn (hl.h f' s σ H _ I ⟨ρ,E,key⟩) fun v s1 ⟨x,H1,I1,r1,d,rd,q⟩=>?_;have fin:∀ (o:Obj) (tn:Nat→K5→Prop) (J:It) (ds:List Dv),wt X.prog X.w X.K tg J [s1.heap.objs.size] s1.heap.objs.size tn→tn 0 (s1.heap.push o)→Wk X.K J ds H1→(∀ J H',Same H1 H'→Wk X.K J ds H'→R J H') →
  PIE X f' σ tg R (.ref s1.heap.objs.size) { s1 with heap:=s1.heap.push o }:=fun o tn J ds T t0 w q=>by
  refine ⟨s1.heap.objs.size,[s1.heap.objs.size],tn,J,H1,rfl,I1.kept (t':=s1.toks) fun b o e=>j_ _ e,T,t0,fun b hb=>?_,q J H1 (.refl H1) w⟩;have e:b=s1.heap.objs.size:=by simpa using hb
  subst e;exact I1.fpOk (uk _) (I1.hok.fresh (uk _))
 cases d with
 | lst ds =>
  obtain ⟨a,xs,rfl,h1,h2⟩:=rd.lstE;cases r1;obtain ⟨its,rv,p,hz⟩:=I1.list (SqL.of h1);exact NT p.isList (fin _ _ (Itl X.K a) ds (sX a _) ⟨_,B_ _ rfl,rfl,rfl⟩ (zL h1 h2) q)
 | tup ds =>
  obtain ⟨a,xs,rfl,h1,h2⟩:=rd.tupE;cases r1;obtain ⟨its,rv,p,hz⟩:=I1.tuple (SqT.of h1);exact OH (show s1.heap.IsTuple a its.toArray from p) (fin _ _ (Itt X.K a) ds (rD a _) ⟨_,B_ _ rfl,rfl,rfl⟩ (CO h1 h2) q)
 | str z =>
  cases (show x=.str z from rd);obtain ⟨t,rfl⟩:=r1;have hty:RG z="str_ascii_iterator"∨RG z="str_iterator":=by
   unfold RG;split
   · exact .inl rfl
   · exact .inr rfl
  exact wpAny_pyIter_strU (fin _ _ (Its z) (signs z) (wF z t _ hty) ⟨_,B_ _ rfl,rfl,rfl⟩ CP q)
 | _=>exact q.elim
def jY:List Dv→Option (Rs (List Dv))
 | [.int j]=>if -(2 ^ 62)≤j∧j < 2 ^ 62 then a_ (.ok (rng 0 j.toNat)) else ck
 | _=>ck
def we:List Dv→Option (Rs (List Dv))
 | [.int i,.int j]=>if -(2 ^ 62)≤i∧i < 2 ^ 62∧-(2 ^ 62)≤j∧j < 2 ^ 62 then a_ (.ok (rng i (j - i).toNat)) else ck
 | _=>ck
theorem ln {H:Hp} {R:It→Hp→Prop} {o:Option (Rs (List Dv))} {k:List Dv→Option (Rs (List Dv))} {P:List V→Hp→Prop} (h:OutI X H (bnd o k) R) (hp:∀ ds vs H',Same H H'→Reps X.K H' ds vs→OutI X H' (k ds) R→P vs H'):OutA X H o P:=by
 match o,h with
 | some (.exc _),h=>exact h
 | some (.ok d),h=>exact fun v H1 e r=>hp d v H1 e r (OutI.mono e h)
theorem tX {ga:FnA} (hg:Gl X "range") (hm:X.mg "range"=ck) (ha:FA X [a] ga) (hs:i_ [a] X.env=[(d_,eval a X.env)]:=by kernel_rfl):FI X tg (.Call (.Name "range" p) [a] [] pos) (fun ρ=>bnd (ga ρ) jY):=by
 constructor;intro f' s σ H R I h;obtain ⟨ρ,E,o⟩:=h;refine sY hg hm ha.h hs f' s σ H R I ⟨ρ,E,ln o fun ds vs H' e rs o1=>?_⟩;unfold jY at o1;split at o1
 · rename_i j;split at o1
   · rename_i hj;obtain ⟨v,us,rfl,r,t⟩:∃ v us,vs=v :: us∧Rep X.K H' (.int j) v∧Reps X.K H' [] us:=rs;cases (show us=[] from t);cases (show v=.int j from r);exact ⟨j,rfl,hj.1,hj.2,o1 _ H' (.refl H') qv⟩
   · exact o1.elim
 · exact o1.elim
theorem tY {ga:FnA} (hg:Gl X "range") (hm:X.mg "range"=ck) (ha:FA X [a,b] ga) (hs:i_ [a,b] X.env=[(d_,eval a X.env),(d_,eval b X.env)]:=by kernel_rfl) (hs2:i_ [b] X.env=[(d_,eval b X.env)]:=by kernel_rfl) :
 FI X tg (.Call (.Name "range" p) [a,b] [] pos) (fun ρ=>bnd (ga ρ) we):=by
 constructor;intro f' s σ H R I h;obtain ⟨ρ,E,o⟩:=h;refine sZ hg hm ha.h hs hs2 f' s σ H R I ⟨ρ,E,ln o fun ds vs H' e rs o1=>?_⟩;unfold we at o1;split at o1
 · rename_i i j;split at o1
   · rename_i hj;obtain ⟨v,us,rfl,r,t⟩:∃ v us,vs=v :: us∧Rep X.K H' (.int i) v∧Reps X.K H' [.int j] us:=rs;obtain ⟨v2,us2,rfl,r2,t2⟩:∃ v us',us=v :: us'∧Rep X.K H' (.int j) v∧Reps X.K H' [] us':=t;cases (show us2=[] from t2);cases (show v=.int i from r);cases (show v2=.int j from r2);exact ⟨i,j,rfl,hj,o1 _ H' (.refl H') qv⟩
   · exact o1.elim
 · exact o1.elim
end
def k9 (i:Nat) (js:List Nat) (body:FnS):List Dv→Ev→Option Fl
 | [],ρ=>a_ (.nx (fgt js ρ))
 | d :: ds,ρ=>match body ((fgt js ρ).set i (a_ d)) with
  | some (.nx ρ')=>k9 i js body ds ρ'
  | o=>o
def wf (i:Nat) (js:List Nat) (src:FnA) (body:FnS):FnS:=fun ρ=>bO (src ρ) fun ds=>k9 i js body ds ρ
theorem iT {α:Type} {ds:List α} {i:Nat} {d:α} (h:ds[i]?=a_ d):ds.drop i=d :: ds.drop (i + 1):=by
 obtain ⟨hi,e⟩:=K2.mp h;rw [List.drop_eq_getElem_cons hi,e]
theorem CS {X:Cx} {tg iter:F_} {body:List LY} {pos:Pos} {src:FnA} {fb:FnS} (i:Nat) (js:List Nat) (hp:OF (z_ X.prog X.w) X.A X.env X.xe) (hc:X.calm=c_) (hi:FI X tg iter src) (hg:PG X tg (wq i)) (hb:FSs X body fb)
 (hs:∀ x,K_ iter X.env x=pure x:=by intro _; kernel_rfl):FS X (.For tg iter body [] pos) (wf i js src fb):=by
 refine pc (td hp hc hi.h hg hb.h hs) fun D σ H ρ E o=>⟨ρ,E,?_⟩;unfold wf at o
 match hf:src ρ,o with
 | none,o=>exact o
 | some (.exc c),o=>exact o
 | some (.ok ds),o =>
  intro J H1 e1 wk;have o1:OutS X H1 (k9 i js fb ds ρ) D:=OutS.mono e1 o;refine ⟨fun n m σ' H'=>m=ds.length - n∧n≤ds.length∧Same H1 H'∧∃ ρ',Envs X.K H' σ' ρ'∧OutS X H' (k9 i js fb (ds.drop n) ρ') D,⟨ds.length,by simp,Mh _,.refl H1,ρ,E.mono e1,by simpa using o1⟩,?_⟩;rintro n m σ' H' ⟨rfl,hn,e2,ρ',E',o'⟩;by_cases hlt:n < ds.length
  · refine .inr ⟨wk.go n H' e2 hlt,fun σ2 H2=>Same H1 H2∧∃ ρ2,Envs X.K H2 σ2 ρ2∧OutS X H2 (k9 i js fb (ds.drop (n + 1)) ρ2) D,fun σ2 H2 ⟨e3,ρ2,E2,o2⟩=>⟨ds.length - (n + 1),by omega,rfl,hlt,e3,ρ2,E2,o2⟩,fun x H2 y=>?_⟩;obtain ⟨rfl,d,hd,rd⟩:=wk.yld n H' x H2 e2 hlt y;rw [iT hd] at o';show tS X fb _ _ _;refine ⟨(fgt js ρ').set i (a_ d),(Envs.fgt js E').set rd,?_⟩;unfold k9 at o'
    match hb':fb ((fgt js ρ').set i (a_ d)) with
    | none=>rw [hb'] at o'; exact o'
    | some (.exc c)=>rw [hb'] at o'; exact o'
    | some (.rt r)=>rw [hb'] at o'; exact o'
    | some (.nx ρ2)=>rw [hb'] at o'; exact fun σ2 H3 e3 E3=>⟨e2.trans e3,ρ2,E3,OutS.mono e3 o'⟩
  · have hn':n=ds.length:=by omega
    subst hn';rw [Og] at o';exact .inl ⟨wk.stop H' e2,o' σ' H' (.refl H') (Envs.fgt js E')⟩
def spF (K:e_) (F:List Dv→Option (Rs Dv)) (n:Nat):Sp:=fun vs H Q _=>∃ ds,Reps K H ds vs∧ds.length=n∧match F ds with
 | some (.ok d)=>∀ v H',Same H H'→Rep K H' d v→Q v H'
 | _=>False
def ai (F:List Dv→Option (Rs Dv)) (n:Nat) (g:FnA):FnE:=fun ρ=>bnd (g ρ) fun ds=>if ds.length=n then (match F ds with | some (.ok d)=>a_ (.ok d) | _=>ck) else ck
section
variable {X:Cx} {k n:Nat} {f:k_} {fd:LK} {ps:List Str} {x:Str} {p pos:Pos} {e:F_} {es:List F_} {F:List Dv→Option (Rs Dv)} {g:FnA}
theorem zM (G:FnOk X.prog X.w X.K X.mg X.base CX0 k f fd ps (spF X.K F n)) (hr:Room k X.A) (hg:Gl X x) (hm:X.mg x=a_ (.ref f)) (hk:LZ X.K (.ref f)=c_) (hb:Binds X.K fd ps [])
 (ha:FA X (e :: es) g) (hdb:(x == ("__debug__":Str))=d_:=by kernel_rfl) (he:i_ (e :: es) X.env=(d_,eval e X.env) :: i_ es X.env:=by kernel_rfl) (hpl:(Lr pos (i_ es X.env)).any (·.1)=d_:=by kernel_rfl) :
 FE X (.Call (.Name x p) (e :: es) [] pos) (ai F n g) :=
 cY (tH G hr hg hm hk hb .nil G3 ha.h hdb he hpl) fun σ H Q ρ E o=>⟨ρ,E,OutA.bind o fun ds vs H' e rs o1=>by
  show spF X.K F n (vs ++ []) H' Q E0;rw [Nd];split at o1
  · rename_i hl;refine ⟨ds,rs,hl,?_⟩
    match hF:F ds with
    | some (.ok d)=>rw [hF] at o1; exact o1
    | some (.exc c)=>rw [hF] at o1; exact o1
    | none=>rw [hF] at o1; exact o1
  · exact o1.elim⟩
def Has (P:r_) (w:E_) (K:e_) (mg:Str→Option g_) (base:K5) (x:Str) (k:Nat) (ps:List Str) (F:List Dv→Option (Rs Dv)):Prop :=
 ∃ f fd,FnOk P w K mg base CX0 k f fd ps (spF K F ps.length)∧mg x=a_ (.ref f)∧LZ K (.ref f)=c_∧Binds K fd ps []
theorem wG {k':Nat} (k:Nat) (ps:List Str) (F:List Dv→Option (Rs Dv)) (h:Has X.prog X.w X.K X.mg X.base x k ps F) (hr:Room k' X.A) (hk:k≤k') (hg:Gl X x) (ha:FA X (e :: es) g) (hn:n=ps.length:=by kernel_rfl) (hdb:(x == ("__debug__":Str))=d_:=by kernel_rfl)
 (he:i_ (e :: es) X.env=(d_,eval e X.env) :: i_ es X.env:=by kernel_rfl) (hpl:(Lr pos (i_ es X.env)).any (·.1)=d_:=by kernel_rfl) :
 FE X (.Call (.Name x p) (e :: es) [] pos) (ai F n g):=by
 subst hn;obtain ⟨f,fd,G,hm,hkp,hb⟩:=h;exact zM (G.mono hk) hr hg hm hkp hb ha hdb he hpl
def bt (m:Nat) (fb:FnS):List Dv→Option (Rs Dv):=fun ds=>match fb (ds.map a_ ++ u_ (m - ds.length) ck) with
 | some (.nx _)=>a_ (.ok .non)
 | some (.rt d)=>a_ (.ok d)
 | _=>ck
theorem jr {K:e_} {H:Hp} {N:List Str} {ds:List Dv} {vs:List V} (r:Reps K H ds vs):Envs K H (L2.start N vs) (ds.map a_ ++ u_ (N.length - ds.length) ck):=by
 have hl:=r.length;refine ⟨by unfold L2.start; rw [LG,LG,La,La,MD,MD,hl],fun i d h=>?_⟩;by_cases hi:i < ds.length
 · rw [LS (by simpa using hi),Lx] at h;cases hd:ds[i]? with
   | none=>rw [hd] at h; cases h
   | some d' =>
    rw [hd] at h;have h':a_ (a_ d')=a_ (a_ d):=h;injection h' with h';injection h' with h';subst h';obtain ⟨v,h1,h2⟩:=r.get' hd;refine ⟨v,?_,h2⟩;unfold L2.start;rw [LS (by rw [La,hl]; exact hi),Lx,h1] <;> rfl
 · rw [LO (by simpa using hi),M0] at h;split at h <;> cases h
theorem Hc {P:r_} {w:E_} {K:e_} {mg:Str→Option g_} {base:K5} {qual:Str} {st:LY} {N:List Str} {fb:FnS} (Fn:Fun K x qual st f fd) (S:gJ N ps (aF st))
 (hb:∀ (cdv:g_) (A:G_) (outer:List Env) (s:h_) (H:Hp) (E:XK),Room k (A.deeper (NH qual (aF st) s.heap.objs.size f cdv))→FSs (qm CX0 P w K mg base N qual (aF st) f cdv A outer s H E).nox (dG st) fb) :
 FnOk P w K mg base CX0 (k + 1) f fd ps (spF K (bt N.length fb) ps.length):=by
 refine Fn.ok S (fun vs H Q E h=>?_) (fun cdv A outer s H vs Q E hr h=>?_)
 · obtain ⟨ds,r,hl,_⟩:=h;rw [r.length,hl]
 · obtain ⟨ds,r,hl,q⟩:=h;refine ⟨_,(hb cdv A outer s H E hr).h,ds.map a_ ++ u_ (N.length - ds.length) ck,jr r,?_⟩;unfold bt at q
   match hf:fb (ds.map a_ ++ u_ (N.length - ds.length) ck) with
   | none=>rw [hf] at q; exact q.elim
   | some (.exc c)=>rw [hf] at q; exact q.elim
   | some (.rt d)=>rw [hf] at q; exact fun v H' e r'=>q v H' e r'
   | some (.nx ρ)=>rw [hf] at q; exact fun σ' H' e _=>q .non H' e rfl
end
theorem yB {k:Nat} {f:k_} {fd:LK} {x:Str} {P:r_} {w:E_} {K:e_} {mg:Str→Option g_} {base:K5} {qual:Str} {st:LY} {F:List Dv→Option (Rs Dv)} {n:Nat} (N ps:List Str) (fb:FnS) (hF:F=bt N.length fb) (hn:n=ps.length)
 (Fn:Fun K x qual st f fd) (S:gJ N ps (aF st))
 (hb:∀ (cdv:g_) (A:G_) (outer:List Env) (s:h_) (H:Hp) (E:XK),Room k (A.deeper (NH qual (aF st) s.heap.objs.size f cdv))→FSs (qm CX0 P w K mg base N qual (aF st) f cdv A outer s H E).nox (dG st) fb) :
 FnOk P w K mg base CX0 (k + 1) f fd ps (spF K F n):=by
 subst hF hn;exact Hc Fn S hb
def jt (names:List (Str×MX)) (env:Env) (acc:List (Str×k_)):List (Str×k_):=match names with
 | []=>acc
 | (n,k) :: r=>jt r env (if k == .free then (n,(env.cells.lookup n).getD 0) :: acc else acc)
theorem lr {env:Env} {n:Str} {c:k_}:∀ (names:List (Str×MX)) (acc:List (Str×k_)),(jt names env acc).lookup n=a_ c→acc.lookup n=a_ c∨((n,Mb)∈names∧c=(env.cells.lookup n).getD 0)
 | [],acc,h=>.inl h
 | (m,k) :: r,acc,h=>by
  rcases lr r _ h with q | ⟨q1,q2⟩
  · by_cases hk:k=.free
    · subst hk;simp only [beq_self_eq_true,if_true] at q;rw [Ls] at q;cases hm:n == m with
      | true =>
       rw [hm] at q;have e:n=m:=by simpa using hm
       subst e;exact .inr ⟨o_,(Lc q).symm⟩
      | false=>rw [hm] at q; exact .inl q
    · have hb:(k == Mb)=d_:=by simpa using hk
      rw [hb] at q;exact .inl (by simpa using q)
  · exact .inr ⟨pi _ q1,q2⟩
theorem nq {env:Env} {n:Str}:∀ (names:List (Str×MX)) (acc:List (Str×k_)),(acc.lookup n).isSome=c_→((jt names env acc).lookup n).isSome=c_
 | [],acc,h=>h
 | (m,k) :: r,acc,h=>by
  refine nq r _ ?_;split
  · rw [Ls];cases n == m with
    | true=>rfl
    | false=>exact h
  · exact h
theorem lS {env:Env} {n:Str}:∀ (names:List (Str×MX)) (acc:List (Str×k_)),(n,Mb)∈names→((jt names env acc).lookup n).isSome=c_
 | [],acc,h=>by cases h
 | (m,k) :: r,acc,h=>by
  rcases rl.mp h with e | q
  · injection e with e1 e2;subst e1;subst e2;refine nq r _ ?_;simp only [beq_self_eq_true,if_true,Ls];rfl
  · exact lS r _ q
theorem fU {β:Type} {n:Str} {k:β}:∀ {l:List (Str×β)},l.lookup n=a_ k→(n,k)∈l
 | [],h=>by simp at h
 | (m,j) :: r,h=>by
  rw [Ls] at h;cases hm:n == m with
  | true =>
   rw [hm] at h;have e:n=m:=by simpa using hm
   subst e;have e2:j=k:=Lc h;subst e2;exact o_
  | false=>rw [hm] at h; exact pi _ (fU h)
structure Jh (osc scope:Me) (x:Str) (cs:List (Str×Nat)) (N:List Str):Prop where
 kind:scope.kind=.function
 okind:osc.kind=.function
 cell:∀ y∈scope.names,y.2≠.cell
 names:∀ y∈scope.names,y.2=.local→scope.names.lookup y.1=a_ .local
 tgt:scope.names.lookup x=a_ .local
 nd:(x :: cs.map (·.1)).Nodup
 free:∀ y∈scope.names,y.2=.free→osc.names.lookup y.1=a_ .cell∨osc.names.lookup y.1=a_ .free
 caps:∀ c∈cs,N[c.2]?=a_ c.1∧scope.names.lookup c.1=a_ .free
theorem jP {scope:Me} {env:Env} {n:Str} {k:MX} (h:(relabel scope env).names.lookup n=a_ k):(n,k)∈scope.names∨(k=.cell∧(n,Mb)∈scope.names):=by
 have q:=fU h;unfold relabel at q;obtain ⟨⟨m,j⟩,hm,e⟩:=Lp.mp q;dsimp only at e;split at e
 · rename_i hc;injection e with e1 e2;subst e1;have hj:j=.free:=by
    rw [n_,n_] at hc;simpa using hc.1.1
   subst hj;exact .inr ⟨e2.symm,hm⟩
 · injection e with e1 e2;subst e1;subst e2;exact .inl hm
theorem jQ {env:Env}:∀ {names:List (Str×MX)} {n:Str},names.lookup n=a_ .free →
 (names.map fun (n,k)=>if (k == Mb && env.scope.kind == .function && env.kindOf n == a_ .cell) then (n,Mp) else (n,k)).lookup n=a_ .cell ∨
 (names.map fun (n,k)=>if (k == Mb && env.scope.kind == .function && env.kindOf n == a_ .cell) then (n,Mp) else (n,k)).lookup n=a_ .free
 | [],_,h=>by simp at h
 | (m,k) :: r,n,h=>by
  have ih:=@jQ env r n;rw [Ls] at h;rw [Lg];cases hm:n == m with
  | true =>
   rw [hm] at h;have e2:k=.free:=Lc h;subst e2;by_cases hc:(Mb == Mb && env.scope.kind == .function && env.kindOf m == a_ .cell)=c_
   · dsimp only;rw [if_pos hc,Ls,hm];exact .inl rfl
   · dsimp only;rw [if_neg hc,Ls,hm];exact .inr rfl
  | false =>
   rw [hm] at h;dsimp only;by_cases hc:(k == Mb && env.scope.kind == .function && env.kindOf m == a_ .cell)=c_
   · rw [if_pos hc,Ls,hm]; exact ih h
   · rw [if_neg hc,Ls,hm]; exact ih h
def yC (cs:List (Str×Nat)) (ρ:Ev):Ev:=ck :: cs.map fun c=>(ρ[c.2]?).join
section
variable {X:Cx} {f':List (k_×Obj)} {σ:L2.St} {H:Hp} {s:h_}
end
def tZ (tst:Option FnB) (elt:FnE) (cap:Ev):List Dv→Option (List Dv)
 | []=>a_ []
 | d :: ds =>
  let ρ:=cap.set 0 (a_ d)
  match (match tst with | none=>(a_ (.ok c_):Option (Rs Bool)) | some t=>t ρ) with
  | some (.ok c_)=>(match elt ρ with
   | some (.ok y)=>(match tZ tst elt cap ds with | some ys=>a_ (y :: ys) | none=>ck)
   | _=>ck)
  | some (.ok d_)=>tZ tst elt cap ds
  | _=>ck
def cq (cs:List (Str×Nat)) (src:FnA) (tst:Option FnB) (elt:FnE):FnE:=fun ρ=>bnd (src ρ) fun ds=>match tZ tst elt (yC cs ρ) ds with
 | some ys=>if ys.length≤100000∧ds.length≤100000 then a_ (.ok (.lst ys)) else ck
 | none=>ck
def LAt (h:K5) (D:k_) (its:List g_):Prop:=∃ n,h.get? D=a_ { cls:=.type "list",data:=.seq its.toArray n }
theorem rJ {P:r_} {w:E_} {A:G_} {E:g_→h_→Prop} {s:h_} {D:k_} {its:List g_} {u:g_} {Q:g_→h_→Prop} (h:LAt s.heap D its) (hz:its.length≤100000)
 (hQ:∀ h',LAt h' D (its ++ [u])→(∀ b o,b≠D→s.heap.get? b=a_ o→h'.get? b=a_ o)→Q .none { s with heap:=h' }):w_ (z_ P w) A (call (.builtin "list.append") [.ref D,u]) Q E s:=by
 obtain ⟨n,e⟩:=h;refine M4 On ⟨_,e,rfl⟩ Qw (Qc _ _) (QY D its.toArray n u (by rw [xy]; exact cA hz)) ⟨e,?_⟩;have q:=Rw e (·.push u);have e2:its.toArray.push u=(its ++ [u]).toArray:=by simp
 rw [e2] at q;exact hQ _ ⟨_,q⟩ fun b o hb ho=>(NY s.heap _ (M8 hb)).trans ho
def rK (X:Cx) (ifs:List F_) (tst:Option FnB):Prop:=match tst with
 | none=>ifs=[]
 | some t=>∃ c,ifs=[c]∧FT X c t
theorem HOk.add {P:r_} {w:E_} {H:Hp} {h h':K5} {D C:k_} {o:HO} (x:HOk P w H h) (hD:H D=ck) (hC:H C=ck) (k:∀ b u,b≠C→h.get? b=a_ u→h'.get? b=a_ u) (new:ObjOk P w (upd H D o) h' D o):HOk P w (upd H D o) h':=fun b u e=>by
 by_cases hb:b=D
 · subst hb; rw [aA] at e; cases e; exact new
 · rw [aB hb] at e;refine (x b u e).stay (fun c v hc q=>k c v ?_ q) (fun c q=>by rw [aB (ax q hD)]; exact q) fun c xs q=>by rw [aB (ax q hD)]; exact q
   rcases hc with rfl | hc
   · exact ax e hC
   · exact ax hc hC
theorem zN {b D:Nat} (h:b < D):b≠D:=by omega
theorem CU {b D:Nat} (h:b < D):b≠D + 1:=by omega
theorem Ji {D:Nat}:D≠D + 1:=by omega
section
variable {X:Cx}
def cZ:Dv→Dv→Option (Rs Dv)
 | .int i,.int j=>a_ (.ok (.int (i + j)))
 | .str x,.str y=>if x.length + y.length≤100000 then a_ (.ok (.str (x ++ y))) else ck
 | .lst a,.lst b=>if a.length + b.length≤100000 then a_ (.ok (.lst (a ++ b))) else ck
 | _,_=>ck
def zO:R2:=fun x y H Q=>rI0 (fun i j=>.int (i + j)) x y H Q∨((∃ i j,x=.str i∧y=.str j∧i.length + j.length≤sizeLine∧Q (.str (i ++ j)) H)∨Je x y H Q)
theorem o_add:OpR X (Mi .Add) zO:=op_add.or (op_add_str.or Cp)
theorem CV:GOp X zO cZ:=by
 intro dx dy x y H Q rx ry o;cases dx <;> cases dy <;> try exact (show False from o).elim
 · rename_i i j;exact .inl ⟨i,j,rx,ry,o _ H (.refl H) rfl⟩
 · rename_i i j;simp only [cZ] at o;split at o
   · rename_i hl;exact .inr (.inl ⟨i,j,rx,ry,cA hl,o _ H (.refl H) rfl⟩)
   · exact o.elim
 · rename_i a b;simp only [cZ] at o;split at o
   · rename_i hl;obtain ⟨p,xs,rfl,h1,q1⟩:=rx.lstE;obtain ⟨p2,xs2,rfl,h2,q2⟩:=ry.lstE;refine .inr (.inr ⟨p,p2,xs,xs2,rfl,rfl,h1,h2,by rw [q1.length,q2.length]; exact cA hl,fun l hl=>o _ _ (aE hl _) ⟨l,_,rfl,aA,Reps.mono (aE hl _) _ _ (q1.append q2)⟩⟩)
   · exact o.elim
def yD:Dv→Dv→Option (Rs Dv)
 | .int i,.int j=>a_ (.ok (.int (i - j)))
 | _,_=>ck
theorem Hd:GOp X (rI0 fun i j=>.int (i - j)) yD:=by
 intro dx dy x y H Q rx ry o;cases dx <;> cases dy <;> try exact (show False from o).elim
 rename_i i j;exact ⟨i,j,rx,ry,o _ H (.refl H) rfl⟩
def jR:Dv→Dv→Option (Rs Dv)
 | .int i,.int j=>if (-18446744073709551616 < i∧i < 18446744073709551616)∨(-18446744073709551616 < j∧j < 18446744073709551616) then a_ (.ok (.int (i * j))) else ck
 | _,_=>ck
theorem CW:GOp X (rI CMul fun i j=>.int (i * j)) jR:=by
 intro dx dy x y H Q rx ry o;cases dx <;> cases dy <;> try exact (show False from o).elim
 rename_i i j;simp only [jR] at o;split at o
 · rename_i h;exact ⟨i,j,rx,ry,h,o _ H (.refl H) rfl⟩
 · exact o.elim
def iQ:Dv→Dv→Option (Rs Dv)
 | .int i,.int j=>if 0 < j then a_ (.ok (.int (i % j))) else ck
 | _,_=>ck
theorem He:GOp X (rI (fun _ j=>0 < j) fun i j=>.int (i % j)) iQ:=by
 intro dx dy x y H Q rx ry o;cases dx <;> cases dy <;> try exact (show False from o).elim
 rename_i i j;simp only [iQ] at o;split at o
 · rename_i h;exact ⟨i,j,rx,ry,h,o _ H (.refl H) rfl⟩
 · exact o.elim
def iU:Dv→Dv→Option (Rs Dv)
 | .int i,.int j=>if 0 < j∧j < 1073741824 then a_ (.ok (.int (i / j))) else ck
 | _,_=>ck
theorem CY:GOp X (rI IX fun i j=>.int (i / j)) iU:=by
 intro dx dy x y H Q rx ry o;cases dx <;> cases dy <;> try exact (show False from o).elim
 rename_i i j;simp only [iU] at o;split at o
 · rename_i h;exact ⟨i,j,rx,ry,h,o _ H (.refl H) rfl⟩
 · exact o.elim
def wg:Dv→Option (Rs Dv)
 | .int i=>a_ (.ok (.int (-i)))
 | _=>ck
def f1 (g:Dv→Option (Rs Dv)) (fa:FnE):FnE:=fun ρ=>bnd (fa ρ) g
theorem CZ {a:F_} {fa:FnE} {pos:Pos} (ha:FE X a fa):FE X (.UnaryOp .USub a pos) (f1 wg fa) :=
 cY (GT Cc ha.h) fun σ H Q ρ E o=>⟨ρ,E,Out.bind o fun d v H1 e r o1=>by
  cases d <;> try exact (show False from o1).elim
  rename_i i;exact ⟨i,r,o1 _ H1 (.refl H1) rfl⟩⟩
def seq (x y:Str):Bool:=x.cps.toList == y.cps.toList
theorem yE (x y:Str):(x == y)=seq x y:=by
 rw [Ln];unfold seq;obtain ⟨⟨a⟩⟩:=x;obtain ⟨⟨b⟩⟩:=y;simp
def eqS:Dv→Dv→Option Bool
 | .non,.non=>a_ c_
 | .non,.int _=>a_ d_
 | .int _,.non=>a_ d_
 | .non,.bl _=>a_ d_
 | .bl _,.non=>a_ d_
 | .non,.str _=>a_ d_
 | .str _,.non=>a_ d_
 | .int i,.int j=>a_ (i == j)
 | .bl i,.bl j=>a_ (i == j)
 | .str i,.str j=>a_ (seq i j)
 | .int _,.str _=>a_ d_
 | .str _,.int _=>a_ d_
 | .bl _,.str _=>a_ d_
 | .str _,.bl _=>a_ d_
 | _,_=>ck
theorem yF {K:e_} {H:Hp} {dx dy:Dv} {x y:V} {b:Bool} (rx:Rep K H dx x) (ry:Rep K H dy y) (h:eqS dx dy=a_ b):GV x y=c_∧q_ (x=y)=b:=by
 cases dx <;> cases dy <;> (try cases h) <;> (try (cases rx; cases ry; exact ⟨rfl,by first | rfl | exact o5 | exact tf | (rw [o6,yE]) | simp⟩))
def Hh (p:Int→Int→Bool):Dv→Dv→Option (Rs Dv)
 | .int i,.int j=>a_ (.ok (.bl (p i j)))
 | _,_=>ck
theorem C7 (p:Int→Int→Bool):GOp X (rI0 fun i j=>.bl (p i j)) (Hh p):=by
 intro dx dy x y H Q rx ry o;cases dx <;> cases dy <;> try exact (show False from o).elim
 rename_i i j;exact ⟨i,j,rx,ry,o _ H (.refl H) rfl⟩
abbrev gtD:=Hh fun i j=>q_ (j < i)
def isN:Dv→Dv→Option (Rs Dv)
 | x,.non=>a_ (.ok (.bl (match x with | .non=>c_ | _=>d_)))
 | _,_=>ck
def cP:Dv→Dv→Option (Rs Dv)
 | x,.non=>a_ (.ok (.bl (match x with | .non=>d_ | _=>c_)))
 | _,_=>ck
theorem ua {K:e_} {H:Hp} {d:Dv} {v:V} (r:Rep K H d v):q_ (v=.non)=(match d with | .non=>c_ | _=>d_):=by
 cases d with
 | non=>cases (show v=.non from r); rfl
 | bl b=>cases (show v=.bl b from r); rfl
 | int b=>cases (show v=.int b from r); rfl
 | str b=>cases (show v=.str b from r); rfl
 | tup ds=>obtain ⟨a,xs,rfl,_⟩:=r.tupE; rfl
 | lst ds=>obtain ⟨a,xs,rfl,_⟩:=r.lstE; rfl
 | scr ds=>obtain ⟨a,rfl,_⟩:=r.scrE; rfl
 | exn c =>
  obtain ⟨a,_,_,_,rfl,_⟩:=r.exnE;rfl
theorem C8:GOp X (fun x y H Q=>y=.non∧Q (.bl (q_ (x=.non))) H) isN:=by
 intro dx dy x y H Q rx ry o;cases dy <;> try exact (show False from o).elim
 have q:=ua rx;refine ⟨ry,?_⟩;have q2:=o _ H (.refl H) rfl;cases dx <;> (rw [q]; exact q2)
theorem yG:GOp X (fun x y H Q=>y=.non∧Q (.bl (!q_ (x=.non))) H) cP:=by
 intro dx dy x y H Q rx ry o;cases dy <;> try exact (show False from o).elim
 have q:=ua rx;refine ⟨ry,?_⟩;have q2:=o _ H (.refl H) rfl;cases dx <;> (rw [q]; exact q2)
def inS (x y:Str):Bool:=!(Ld y x 0 y.length 1).isEmpty
def gM:Dv→Bool
 | .non=>c_
 | .bl _=>c_
 | .int _=>c_
 | .str _=>c_
 | _=>d_
def eqF:Dv→Dv→Bool
 | .non,.non=>c_
 | .bl a,.bl b=>a == b
 | .bl a,.int b=>(if a then 1 else 0) == b
 | .int a,.bl b=>a == (if b then 1 else 0)
 | .int a,.int b=>a == b
 | .str a,.str b=>seq a b
 | _,_=>d_
def inL (x:Dv) (ys:List Dv):Option Bool:=if gM x && ys.all gM then a_ (ys.any fun y=>eqF y x) else ck
def C9:Dv→Dv→Option Bool
 | .str x,.str y=>a_ (inS x y)
 | x,.lst ys=>inL x ys
 | x,.tup ys=>inL x ys
 | _,_=>ck
def inD (x y:Dv):Option (Rs Dv):=match C9 x y with
 | some b=>a_ (.ok (.bl b))
 | none=>ck
def nu (x y:Dv):Option (Rs Dv):=match C9 x y with
 | some b=>a_ (.ok (.bl (!b)))
 | none=>ck
theorem lT {K:e_} {H:Hp} {d:Dv} {v:V} (r:Rep K H d v) (h:gM d=c_):gG v=c_:=by
 cases d <;> first | (cases h; done) | (cases r; rfl)
theorem j7 {K:e_} {H:Hp}:∀ {ds:List Dv} {vs:List V},Reps K H ds vs→ds.all gM=c_→vs.all gG=c_
 | [],vs,r,_=>by cases (show vs=[] from r); rfl
 | d :: ds,vs,r,h=>by
  obtain ⟨v,us,rfl,r1,r2⟩:∃ v us,vs=v :: us∧Rep K H d v∧Reps K H ds us:=r;rw [My,n_] at h;rw [My,n_];exact ⟨lT r1 h.1,j7 r2 h.2⟩
theorem ub {K:e_} {H:Hp} {d e:Dv} {v u:V} (r:Rep K H d v) (q:Rep K H e u) (h:gM d=c_) (h':gM e=c_):eqV v u=eqF d e:=by
 cases d <;> first | (cases h; done) | (cases r; cases e <;> first | (cases h'; done) | (cases q; first | rfl | exact yE _ _))
theorem yH {K:e_} {H:Hp} {e:Dv} {u:V} (q:Rep K H e u) (h':gM e=c_):∀ {ds:List Dv} {vs:List V},Reps K H ds vs→ds.all gM=c_→(vs.any fun y=>eqV y u)=ds.any fun y=>eqF y e
 | [],vs,r,_=>by cases (show vs=[] from r); rfl
 | d :: ds,vs,r,h=>by
  obtain ⟨v,us,rfl,r1,r2⟩:∃ v us,vs=v :: us∧Rep K H d v∧Reps K H ds us:=r;rw [My,n_] at h;rw [Oj,Oj,ub r1 q h.1 h',yH q h' r2 h.2]
theorem qw {K:e_} {H:Hp} {dx:Dv} {ys:List Dv} {x:V} {vs:List V} {b:Bool} (rx:Rep K H dx x) (ry:Reps K H ys vs) (h:inL dx ys=a_ b):gG x=c_∧vs.all gG=c_∧inV x vs=b:=by
 unfold inL at h;split at h
 · rename_i hc;rw [n_] at hc;cases h;exact ⟨lT rx hc.1,j7 ry hc.2,yH rx hc.1 ry hc.2⟩
 · cases h
def Hi (K:e_):R2:=fun x y H Q=>(∃ i j,x=.str i∧y=.str j∧Q (.bl (!(Ld j i 0 j.length 1).isEmpty)) H)∨rIn K d_ x y H Q
def pv (K:e_):R2:=fun x y H Q=>(∃ i j,x=.str i∧y=.str j∧Q (.bl (!(!(Ld j i 0 j.length 1).isEmpty))) H)∨rIn K c_ x y H Q
theorem o_in:OpR X (Lj .In) (Hi X.K):=op_in_str.or tM
theorem o_notIn:OpR X (Lj .NotIn) (pv X.K):=op_notIn_str.or nh
theorem Hj:GOp X (Hi X.K) inD:=by
 intro dx dy x y H Q rx ry o;unfold inD at o;split at o
 · rename_i b hb;have q:=o _ H (.refl H) rfl;cases dy <;> try (cases dx <;> cases hb; done)
   · rename_i z;cases dx <;> try (cases hb; done)
     rename_i z';cases hb;exact .inl ⟨z',z,rx,ry,q⟩
   · rename_i ys;have hb':inL dx ys=a_ b:=by cases dx <;> exact hb
     obtain ⟨a,vs,rfl,h1,h2⟩:=ry.tupE;obtain ⟨f1,f2,f3⟩:=qw rx h2 hb';exact .inr ⟨a,vs,rfl,.inr (SqT.of h1),f1,f2,by rw [if_neg p_,f3]; exact q⟩
   · rename_i ys;have hb':inL dx ys=a_ b:=by cases dx <;> exact hb
     obtain ⟨a,vs,rfl,h1,h2⟩:=ry.lstE;obtain ⟨f1,f2,f3⟩:=qw rx h2 hb';exact .inr ⟨a,vs,rfl,.inl (SqL.of h1),f1,f2,by rw [if_neg p_,f3]; exact q⟩
 · exact o.elim
theorem uc:GOp X (pv X.K) nu:=by
 intro dx dy x y H Q rx ry o;unfold nu at o;split at o
 · rename_i b hb;have q:=o _ H (.refl H) rfl;cases dy <;> try (cases dx <;> cases hb; done)
   · rename_i z;cases dx <;> try (cases hb; done)
     rename_i z';cases hb;exact .inl ⟨z',z,rx,ry,q⟩
   · rename_i ys;have hb':inL dx ys=a_ b:=by cases dx <;> exact hb
     obtain ⟨a,vs,rfl,h1,h2⟩:=ry.tupE;obtain ⟨f1,f2,f3⟩:=qw rx h2 hb';exact .inr ⟨a,vs,rfl,.inr (SqT.of h1),f1,f2,by rw [if_pos rfl,f3]; exact q⟩
   · rename_i ys;have hb':inL dx ys=a_ b:=by cases dx <;> exact hb
     obtain ⟨a,vs,rfl,h1,h2⟩:=ry.lstE;obtain ⟨f1,f2,f3⟩:=qw rx h2 hb';exact .inr ⟨a,vs,rfl,.inl (SqL.of h1),f1,f2,by rw [if_pos rfl,f3]; exact q⟩
 · exact o.elim
def atD {α:Type} (xs:List α) (i:Int):Option α:=if 0≤i then xs[i.toNat]? else if -(xs.length:Int)≤i then xs[(i + xs.length).toNat]? else ck
theorem lU {α:Type} {xs:List α} {i:Int} {v:α} (h:atD xs i=a_ v):atI xs i=a_ v:=by
 unfold atD at h;unfold atI ixN;split at h
 · rename_i h0;have hl:i.toNat < xs.length:=by
    obtain ⟨q,_⟩:=K2.mp h;exact q
   rw [if_pos h0,if_pos (by omega)];exact h
 · rename_i h0;split at h
   · rename_i h1;rw [if_neg h0,if_pos h1];exact h
   · cases h
def ixD:Dv→Dv→Option (Rs Dv)
 | .lst xs,.int i=>(match atD xs i with | some d=>a_ (.ok d) | none=>ck)
 | .tup xs,.int i=>(match atD xs i with | some d=>a_ (.ok d) | none=>ck)
 | .str z,.int i=>if z.length≤100000 then (match atD z.cps.toList i with | some c=>a_ (.ok (.str ⟨#[c]⟩)) | none=>ck) else ck
 | .scr ns,.int i=>(match atD ns i with | some d=>a_ (.ok (.int d)) | none=>ck)
 | _,_=>ck
theorem pA {α β:Type} {xs:List α} {ys:List β} (h:ys.length=xs.length) {i:Int} {x:α} (e:atD xs i=a_ x):∃ j:Nat,xs[j]?=a_ x∧∀ y,ys[j]?=a_ y→atD ys i=a_ y:=by
 unfold atD at e;split at e
 · rename_i h0;exact ⟨_,e,fun y q=>by unfold atD; rw [if_pos h0]; exact q⟩
 · rename_i h0;split at e
   · rename_i h1;exact ⟨_,e,fun y q=>by unfold atD; rw [if_neg h0,h,if_pos h1]; exact q⟩
   · cases e
theorem J1:GOp X (rIx X.K) ixD:=by
 intro dx dy x y H Q rx ry o;cases dx <;> cases dy <;> try exact (show False from o).elim
 · rename_i z i;simp only [ixD] at o;split at o
   · rename_i hl;split at o
     · rename_i c hc;exact .inr (.inr ⟨z,i,c,rx,ry,cA hl,lU hc,o _ H (.refl H) rfl⟩)
     · exact o.elim
   · exact o.elim
 · rename_i ds i;simp only [ixD] at o;split at o
   · rename_i d hd;obtain ⟨a,xs,rfl,h1,h2⟩:=rx.tupE;obtain ⟨j,e1,e2⟩:=pA h2.length hd;obtain ⟨v,e3,r3⟩:=h2.get' e1;exact .inr (.inl ⟨a,xs,i,v,rfl,ry,SqT.of h1,lU (e2 v e3),o v H (.refl H) r3⟩)
   · exact o.elim
 · rename_i ds i;simp only [ixD] at o;split at o
   · rename_i d hd;obtain ⟨a,xs,rfl,h1,h2⟩:=rx.lstE;obtain ⟨j,e1,e2⟩:=pA h2.length hd;obtain ⟨v,e3,r3⟩:=h2.get' e1;exact .inl ⟨a,xs,i,v,rfl,ry,SqL.of h1,lU (e2 v e3),o v H (.refl H) r3⟩
   · exact o.elim
 · rename_i ns i;simp only [ixD] at o;split at o
   · rename_i d hd;obtain ⟨a,rfl,h1⟩:=rx.scrE;obtain ⟨j,e1,e2⟩:=pA (ys:=ns.map V.int) (by simp) hd;exact .inl ⟨a,_,i,.int d,rfl,ry,h1,lU (e2 _ (by rw [Lx,e1] <;> rfl)),o _ H (.refl H) rfl⟩
   · exact o.elim
theorem Hk {a b:F_} {fa fb:FnE} {pos:Pos} (ha:FE X a fa) (hb:FE X b fb) (hs:tK b:=by intro _ _; kernel_rfl):FE X (.Subscript a b pos) (f2 ixD fa fb) :=
 cY (G0 Ck ha.h hb.h hs) fun _ _ _ _ E o=>two J1 E o
abbrev FnO:=Ev→Option (Rs (Option Int))
def OutO (X:Cx) (H:Hp) (o:Option (Rs (Option Int))) (Q:Option Int→Hp→Prop):Prop:=match o with
 | none=>False
 | some (.exc c)=>XW X c H
 | some (.ok d)=>∀ H',Same H H'→Q d H'
theorem OutO.mono {H H':Hp} {Q:Option Int→Hp→Prop} (e:Same H H'):∀ {o:Option (Rs (Option Int))},OutO X H o Q→OutO X H' o Q
 | none,h=>h
 | some (.exc _),h=>XW.mono h e
 | some (.ok _),h=>fun H1 e1=>h H1 (e.trans e1)
structure FO (X:Cx) (e:Option F_) (f:FnO):Prop where
 h:PO X e fun σ H Q=>∃ ρ,Envs X.K H σ ρ∧OutO X H (f ρ) Q
def cm:FnO:=fun _=>a_ (.ok ck)
def toI:Dv→Option (Rs (Option Int))
 | .int i=>a_ (.ok (a_ i))
 | _=>ck
def bP (f:FnE):FnO:=fun ρ=>bnd (f ρ) toI
theorem zP:FO X ck cm:=⟨fun f' s σ H Q I ⟨_,_,o⟩=>zx f' s σ H Q I (o H (.refl H))⟩
theorem zQ {e:F_} {fa:FnE} (h:FE X e fa):FO X (a_ e) (bP fa):=⟨fun f' s σ H Q I ⟨ρ,E,o⟩=>zy h.h f' s σ H Q I ⟨ρ,E,by
 unfold bP at o
 match hf:fa ρ,o with
 | none,o=>exact o
 | some (.exc c),o=>exact o
 | some (.ok d),o =>
  intro v H' e r;cases d <;> try exact (show False from o).elim
  rename_i i;exact ⟨i,r,o H' e⟩⟩⟩
def yI {α:Type} (xs:List α) (lo hi:Option Int):List α:=(xs.drop (HT.sIx xs.length 0 lo)).take (HT.sIx xs.length xs.length hi - HT.sIx xs.length 0 lo)
def J3:V→Option Int→Option Int→Hp→VK→Prop:=fun x lo hi H Q=>∃ z,x=.str z∧z.length≤sizeLine∧Q (.str (Rq z lo hi)) H
theorem sl_str:SlR X J3:=by
 intro f' s σ H x v vl vu lo hi sl Q I rx hs pl pu q;obtain ⟨z,rfl,hz,q⟩:=q;obtain ⟨t,rfl⟩:=rx;refine ⟨"str",_,F.slot_str_getitem.lookup,Oa _ _ _,?_⟩;have fin:∀ (t':Tok) (k:Nat),EP X f' σ Q (.str (Rq z lo hi) t') { s with toks:=k }:=fun t' k=>⟨.str (Rq z lo hi),H,I.tok _,⟨_,rfl⟩,q⟩;cases pl with
 | none =>
  cases pu with
  | none=>exact MT (l:=ck) (u:=ck) (st:=ck) hs rfl (Op ⟨K0 (Py z _ _) hz,fun t' k=>fin t' k⟩)
  | int j u=>exact MT (l:=ck) (u:=a_ (j,u)) (st:=ck) hs rfl (Op ⟨K0 (Py z _ _) hz,fun t' k=>fin t' k⟩)
 | int i u' =>
  cases pu with
  | none=>exact MT (l:=a_ (i,u')) (u:=ck) (st:=ck) hs rfl (Op ⟨K0 (Py z _ _) hz,fun t' k=>fin t' k⟩)
  | int j u=>exact MT (l:=a_ (i,u')) (u:=a_ (j,u)) (st:=ck) hs rfl (Op ⟨K0 (Py z _ _) hz,fun t' k=>fin t' k⟩)
def Gh (x:Dv) (lo hi:Option Int):Option (Rs Dv):=match x with
 | .str z=>if z.length≤100000 then a_ (.ok (.str (Rq z lo hi))) else ck
 | .lst xs=>a_ (.ok (.lst (yI xs lo hi)))
 | _=>ck
def sE (fa:FnE) (fl fh:FnO):FnE:=fun ρ=>bnd (fa ρ) fun x=>bnd (fl ρ) fun lo=>bnd (fh ρ) fun hi=>Gh x lo hi
theorem iV {H:Hp} {Q:VK} {o:Option (Rs (Option Int))} {k:Option Int→Option (Rs Dv)} {P:Option Int→Hp→Prop} (h:Out X H (bnd o k) Q) (hp:∀ b H',Same H H'→Out X H' (k b) Q→P b H'):OutO X H o P:=by
 match o,h with
 | some (.exc _),h=>exact h
 | some (.ok d),h=>exact fun H1 e=>hp d H1 e (Out.mono e h)
theorem Da {a:F_} {lo hi:Option F_} {fa:FnE} {fl fh:FnO} {p2 pos:Pos} (ha:FE X a fa) (hl:FO X lo fl) (hh:FO X hi fh):FE X (.Subscript a (.Slice lo hi ck p2) pos) (sE fa fl fh) :=
 cY (qp (sl_str.or tL) ha.h hl.h hh.h) fun σ H Q ρ E o=>⟨ρ,E,Out.bind o fun d v H1 e1 r1 o1=>⟨ρ,E.mono e1,iV o1 fun l H2 e2 o2=>⟨ρ,(E.mono e1).mono e2,iV o2 fun u H3 e3 o3=>by
  have r3:=Rep.mono e3 d v (Rep.mono e2 d v r1);cases d <;> try exact (show False from o3).elim
  · rename_i z;unfold Gh at o3;dsimp only at o3;split at o3
    · rename_i hz;exact .inl ⟨z,r3,cA hz,o3 _ H3 (.refl H3) rfl⟩
    · exact o3.elim
  · rename_i ds;obtain ⟨a',xs,rfl,h1,h2⟩:=r3.lstE;refine .inr ⟨a',xs,rfl,SqL.of h1,fun p hp=>o3 _ _ (aE hp _) ⟨p,_,rfl,aA,Reps.mono (aE hp _) _ _ ?_⟩⟩;unfold wA yI;rw [h2.length];exact (h2.drop _).take _⟩⟩⟩
def iB:List Dv→Option (Rs Dv)
 | [.str z]=>if z.length≤100000 then a_ (.ok (.int z.length)) else ck
 | [.lst xs]=>a_ (.ok (.int xs.length))
 | [.tup xs]=>a_ (.ok (.int xs.length))
 | [.scr ns]=>a_ (.ok (.int ns.length))
 | _=>ck
def fB1 (g:List Dv→Option (Rs Dv)) (ga:FnA):FnE:=fun ρ=>bnd (ga ρ) g
variable {x:Str} {p pos:Pos} {e:F_} {es:List F_} {ga:FnA}
theorem dZ {K:e_} {H:Hp} {d:Dv} {vs:List V} (r:Reps K H [d] vs):∃ v,vs=[v]∧Rep K H d v:=by
 obtain ⟨v,us,rfl,r1,r2⟩:∃ v us,vs=v :: us∧Rep K H d v∧Reps K H [] us:=r;cases (show us=[] from r2);exact ⟨v,rfl,r1⟩
theorem wH {K:e_} {H:Hp} {d d2:Dv} {vs:List V} (r:Reps K H [d,d2] vs):∃ v v2,vs=[v,v2]∧Rep K H d v∧Rep K H d2 v2:=by
 obtain ⟨v,us,rfl,r1,r2⟩:∃ v us,vs=v :: us∧Rep K H d v∧Reps K H [d2] us:=r;obtain ⟨v2,rfl,r3⟩:=dZ r2;exact ⟨v,v2,rfl,r1,r3⟩
theorem Db (hg:Gl X "len") (hm:X.mg "len"=ck) (ha:FA X (e :: es) ga) (he:i_ (e :: es) X.env=(d_,eval e X.env) :: i_ es X.env:=by kernel_rfl) (hpl:(Lr pos (i_ es X.env)).any (·.1)=d_:=by kernel_rfl):FE X (.Call (.Name "len" p) (e :: es) [] pos) (fB1 iB ga) :=
 cY (eM wx hg hm R1 ha.h (by decide) (by decide) he hpl) fun σ H Q ρ E o=>⟨ρ,E,OutA.bind o fun ds vs H1 e1 rs o1=>by
  unfold iB at o1;split at o1
  · rename_i z;split at o1
    · rename_i hz;obtain ⟨v,rfl,r⟩:=dZ rs;cases (show v=.str z from r);exact ⟨_,_,rfl,⟨cA hz,rfl⟩,o1 _ H1 (.refl H1) rfl⟩
    · exact o1.elim
  · rename_i xs;obtain ⟨v,rfl,r⟩:=dZ rs;obtain ⟨a,ws,rfl,h1,h2⟩:=r.lstE;exact ⟨_,_,rfl,.inl ⟨ws,SqL.of h1,rfl⟩,o1 _ H1 (.refl H1) (by rw [h2.length]; rfl)⟩
  · rename_i xs;obtain ⟨v,rfl,r⟩:=dZ rs;obtain ⟨a,ws,rfl,h1,h2⟩:=r.tupE;exact ⟨_,_,rfl,.inr ⟨ws,SqT.of h1,rfl⟩,o1 _ H1 (.refl H1) (by rw [h2.length]; rfl)⟩
  · rename_i ns;obtain ⟨v,rfl,r⟩:=dZ rs;obtain ⟨a,rfl,h1⟩:=r.scrE;exact ⟨_,_,rfl,.inl ⟨_,h1,rfl⟩,o1 _ H1 (.refl H1) (by rw [La]; rfl)⟩
  · exact o1.elim⟩
def fG:List Dv→Option (List Bool)
 | []=>a_ []
 | .bl b :: r=>(match fG r with | some bs=>a_ (b :: bs) | none=>ck)
 | _=>ck
def ju:List Dv→Option (Rs Dv)
 | [.lst xs]=>(match fG xs with | some bs=>a_ (.ok (.bl (bs.all id))) | none=>ck)
 | _=>ck
theorem lV {K:e_} {H:Hp}:∀ {ds:List Dv} {vs:List V} {us:List g_} {bs:List Bool},Reps K H ds vs→Vals vs us→fG ds=a_ bs→us=bs.map Lo
 | [],vs,us,bs,r,q,h=>by
  cases (show vs=[] from r);cases q;cases h;rfl
 | d :: ds,vs,us,bs,r,q,h=>by
  obtain ⟨v,ws,rfl,r1,r2⟩:∃ v us,vs=v :: us∧Rep K H d v∧Reps K H ds us:=r;cases q with
  | cons q1 q2 =>
   cases d <;> try (cases h; done)
   rename_i b;simp only [fG] at h;cases hb:fG ds with
   | none=>rw [hb] at h; cases h
   | some bs' =>
    rw [hb] at h;cases h;cases (show v=.bl b from r1);cases q1;rw [lV r2 q2 hb];rfl
theorem wI:CallR X (.builtin "all") (fun xs H Q=>∃ a vs bs ds,xs=[.ref a]∧H a=a_ (.lst vs)∧Reps X.K H ds vs∧fG ds=a_ bs∧X.calm=c_∧Q (.bl (bs.all id)) H):=by
 intro f' s σ H xs us Q I r h;obtain ⟨a,vs,bs,ds,rfl,h1,h2,h3,hc,q⟩:=h;obtain ⟨u,rfl,ru⟩:=eW r;cases ru;obtain ⟨z,its,n,rv,hl,e⟩:=I.lstM h1;have eb:=lV h2 rv h3;subst eb;have hL:s.heap.IsList a (bs.map Lo).toArray:=⟨_,e,rfl,_,rfl⟩;have hlt:a < s.heap.objs.size:=t_ e;refine call_all_walk (NT hL ?_);refine ⟨s.heap.objs.size,[s.heap.objs.size,a],[s.heap.objs.size],(bs.map Lo).toArray.size,_,_,fun i=>(bs[i]?).getD c_,rfl,R6 (A:=X.A.in1) (I.ok.hd hc) _ a (K7 hlt) (bs.map Lo).toArray,
  ⟨⟨_,B_ _ rfl,rfl,rfl⟩,hL.push _⟩,fun i v s' Q' E' hP hQ=>?_,fun h' tk hk=>?_⟩
 · have hP':(bs.map Lo)[i]?=a_ v:=by simpa using hP
   rw [Lx] at hP';cases hb:bs[i]? with
   | none=>rw [hb] at hP'; cases hP'
   | some b =>
    rw [hb] at hP';cases hP';have hQ2:Q' ((bs[i]?).getD c_) s':=hQ;rw [hb] at hQ2;exact Ms hQ2
 · have e2:((s_ (bs.map Lo).toArray.size).all fun i=>(bs[i]?).getD c_)=bs.all id:=by
    rw [xy,La];rw [Ln];simp only [Lk,K6,id];constructor
    · intro hh b hb;obtain ⟨i,hi,rfl⟩:=Qj.mp hb;simpa [hi] using hh i hi
    · intro hh i hi;simp only [Lb hi,Ry];exact hh _ (Nt hi)
   rw [e2];refine ⟨.bl _,H,I.kept fun b x eb=>hk b x (fun hm=>?_) (j_ _ eb),rfl,q⟩;rw [Le.mp hm] at eb;exact Mc _ (t_ eb)
theorem Dc (hc:X.calm=c_) (hg:Gl X "all") (hm:X.mg "all"=ck) (ha:FA X (e :: es) ga) (he:i_ (e :: es) X.env=(d_,eval e X.env) :: i_ es X.env:=by kernel_rfl) (hpl:(Lr pos (i_ es X.env)).any (·.1)=d_:=by kernel_rfl):FE X (.Call (.Name "all" p) (e :: es) [] pos) (fB1 ju ga) :=
 cY (eM wI hg hm PyProof.Rows.boot_all ha.h (by decide) (by decide) he hpl) fun σ H Q ρ E o=>⟨ρ,E,OutA.bind o fun ds vs H1 e1 rs o1=>by
  unfold ju at o1;split at o1
  · rename_i xs;split at o1
    · rename_i bs hb;obtain ⟨v,rfl,r⟩:=dZ rs;obtain ⟨a,ws,rfl,h1,h2⟩:=r.lstE;exact ⟨a,ws,bs,xs,rfl,h1,h2,hb,hc,o1 _ H1 (.refl H1) rfl⟩
    · exact o1.elim
  · exact o1.elim⟩
def tyD:Dv→String
 | .non=>"NoneType"
 | .bl _=>"bool"
 | .int _=>"int"
 | .str _=>"str"
 | .tup _=>"tuple"
 | .lst _=>"list"
 | .scr _=>"list"
 | .exn _=>"object"
end
section
variable {X:Cx} {p pos apos cpos pT:Pos} {e a o:F_} {es:List F_} {ga:FnA} {fa fo:FnE}
theorem zR {K:e_} {H:Hp} {d:Dv} {v:V} (r:Rep K H d v) (hs:∀ ns,d≠.scr ns) (hx:∀ c,d≠.exn c):qj K H v (.type (tyD d)):=by
 cases d with
 | non=>cases (show v=.non from r); exact .non
 | bl b=>cases (show v=.bl b from r); exact .bl b
 | int b=>cases (show v=.int b from r); exact .int b
 | str b=>cases (show v=.str b from r); exact .str b
 | tup ds=>obtain ⟨a,xs,rfl,h,_⟩:=r.tupE; exact .tup h
 | lst ds=>obtain ⟨a,xs,rfl,h,_⟩:=r.lstE; exact .lst h
 | scr ns=>exact absurd rfl (hs ns)
 | exn c=>exact absurd rfl (hx c)
theorem wJ (T:String):CallR X (.builtin "isinstance") (fun xs H Q=>∃ x t b,xs=[x,.ty T]∧qj X.K H x t∧MV X.K t (.type T)=a_ b∧Q (.bl b) H):=by
 intro f' s σ H xs us Q I r h;obtain ⟨x,t,b,rfl,ty,hk,q⟩:=h;obtain ⟨u,w',rfl,ru,rw'⟩:=ww r;cases (show w'=v_ T from rw');exact tG I ru ty hk fun tk=>⟨.bl b,H,I.tok tk,rfl,q⟩
def cQ (tb:Dv→Bool):Dv→Option (Rs Dv)
 | .scr _=>ck
 | .exn _=>ck
 | d=>a_ (.ok (.bl (tb d)))
theorem qz {T:String} {tb:Dv→Bool} (hk:∀ K d,MV K (.type (tyD d)) (.type T)=a_ (tb d)) (hT:LJ (b_ T)=a_ (.type T)) (hn:b_ T≠"__name__") (hdT:(b_ T == ("__debug__":Str))=d_)
 (hg:Gl X "isinstance") (hm:X.mg "isinstance"=ck) (hgT:Gl X (b_ T)) (hmT:X.mg (b_ T)=ck) (ha:FE X a fa)
 (hs1:i_ [a,.Name (b_ T) pT] X.env=(d_,eval a X.env) :: i_ [.Name (b_ T) pT] X.env:=by kernel_rfl) (hs2:i_ [.Name (b_ T) pT] X.env=(d_,eval (.Name (b_ T) pT) X.env) :: i_ [] X.env:=by kernel_rfl)
 (hpl:(Lr pos (i_ [.Name (b_ T) pT] X.env)).any (·.1)=d_:=by kernel_rfl) :
 FE X (.Call (.Name "isinstance" p) [a,.Name (b_ T) pT] [] pos) (f1 (cQ tb) fa) :=
 cY (eM (wJ T) hg hm Na (iA ha.h (iA (sO (v:=.ty T) hgT hmT hT rfl hn hdT) qk hs2) hs1) (by decide) (by decide) hs1 hpl) fun σ H Q ρ E o=>⟨ρ,E,Out.bind o fun d v H1 e1 r o1=>by
  show ∃ x t b,[v,V.ty T]=[x,.ty T]∧_;cases d with
  | scr ns=>exact o1.elim
  | exn c=>exact o1.elim
  | _=>exact ⟨v,_,_,rfl,zR r (fun ns z=>by cases z) (fun c z=>by cases z),hk X.K _,o1 _ H1 (.refl H1) rfl⟩⟩
def bT:Dv→Bool
 | .str _=>c_
 | _=>d_
theorem zS (K:e_) (d:Dv):MV K (.type (tyD d)) (.type "str")=a_ (bT d):=by cases d <;> kernel_rfl
def bV:Dv→Bool
 | .tup _=>c_
 | _=>d_
theorem zT (K:e_) (d:Dv):MV K (.type (tyD d)) (.type "tuple")=a_ (bV d):=by cases d <;> kernel_rfl
def aO:Dv→Bool
 | .bl _=>c_
 | _=>d_
theorem wK (K:e_) (d:Dv):MV K (.type (tyD d)) (.type "bool")=a_ (aO d):=by cases d <;> kernel_rfl
def fM (g:Str→List Dv→Option (Rs Dv)) (fo:FnE) (ga:FnA):FnE:=fun ρ=>bnd (fo ρ) fun x=>match x with
 | .str i=>bnd (ga ρ) fun xs=>g i xs
 | _=>ck
def jS (h:Str→Str→Bool):Str→List Dv→Option (Rs Dv)
 | x,[.str y]=>a_ (.ok (.bl (h x y)))
 | _,_=>ck
def yJ (h:Str→Str→Int):Str→List Dv→Option (Rs Dv)
 | x,[.str y]=>a_ (.ok (.int (h x y)))
 | _,_=>ck
def zU (h:Str→Str→Bool):V→List V→Hp→VK→Prop:=fun x xs H Q=>∃ i j,x=.str i∧xs=[.str j]∧Q (.bl (h i j)) H
def zV (h:Str→Str→Int):V→List V→Hp→VK→Prop:=fun x xs H Q=>∃ i j,x=.str i∧xs=[.str j]∧Q (.int (h i j)) H
theorem Hl:MtR X "str.startswith" (zU A_):=by
 intro f' s σ H x xs v us Q I rx rs h;obtain ⟨i,j,rfl,rfl,q⟩:=h;obtain ⟨t,rfl⟩:=rx;obtain ⟨u,rfl,ru⟩:=eW rs;obtain ⟨t',rfl⟩:=ru;exact SC.startswith ⟨.bl _,H,I,rfl,q⟩
theorem Hm:MtR X "str.endswith" (zU Np):=by
 intro f' s σ H x xs v us Q I rx rs h;obtain ⟨i,j,rfl,rfl,q⟩:=h;obtain ⟨t,rfl⟩:=rx;obtain ⟨u,rfl,ru⟩:=eW rs;obtain ⟨t',rfl⟩:=ru;exact SC.endswith ⟨.bl _,H,I,rfl,q⟩
theorem wL:MtR X "str.rfind" (zV Qq):=by
 intro f' s σ H x xs v us Q I rx rs h;obtain ⟨i,j,rfl,rfl,q⟩:=h;obtain ⟨t,rfl⟩:=rx;obtain ⟨u,rfl,ru⟩:=eW rs;obtain ⟨t',rfl⟩:=ru;exact SC.rfind ⟨.int _,H,I.tok _,⟨_,rfl⟩,q⟩
theorem zW:MtR X "str.find" (zV Txt.find):=by
 intro f' s σ H x xs v us Q I rx rs h;obtain ⟨i,j,rfl,rfl,q⟩:=h;obtain ⟨t,rfl⟩:=rx;obtain ⟨u,rfl,ru⟩:=eW rs;obtain ⟨t',rfl⟩:=ru;exact SC.find ⟨.int _,H,I.tok _,⟨_,rfl⟩,q⟩
theorem zX {name:Str} {id:String} {r:V→List V→Hp→VK→Prop} {g:Str→List Dv→Option (Rs Dv)} (slot:Slot "str" name id) (hty:typeOf (.builtin id)=pure (.type "method_descriptor")) (hm:MtR X id r)
 (hg:∀ i ds vs H Q,Reps X.K H ds vs→Out X H (g i ds) Q→r (.str i) vs H Q) (ho:FE X o fo) (ha:FA X (e :: es) ga)
 (hbase:Nf o name X.env (eval o X.env)=eval o X.env:=by kernel_rfl)
 (hfew:((Lr cpos (i_ (e :: es) X.env)).all (fun x=>!x.1) && (Ph cpos (NL [] X.env)).all (fun x=>x.1.isSome)
   && q_ ((e :: es).length + ([]:List MR).length + (if ([]:List MR).isEmpty then 0 else 1) < 30))=c_:=by kernel_rfl)
 (hline:(apos.endLine == cpos.line)=c_:=by kernel_rfl) (hs:i_ (e :: es) X.env=(d_,eval e X.env) :: i_ es X.env:=by kernel_rfl) (hplain:(Lr cpos (i_ es X.env)).any (·.1)=d_:=by kernel_rfl) :
 FE X (.Call (.Attribute o name apos) (e :: es) [] cpos) (fM g fo ga) :=
 cY (wB PySem.F.plainAttrs_str slot hty hm ho.h ha.h hbase hfew hline hs hplain) fun σ H Q ρ E o=>⟨ρ,E,Out.bind o fun d v H1 e1 rd o1=>by
  cases d <;> try exact (show False from o1).elim
  rename_i i;cases (show v=.str i from rd);exact ⟨rfl,ρ,E.mono e1,OutA.bind o1 fun ds vs H2 e2 rs o2=>hg i ds vs H2 Q rs o2⟩⟩
theorem yK {h:Str→Str→Bool} (i:Str) (ds:List Dv) (vs:List V) (H:Hp) (Q:VK) (rs:Reps X.K H ds vs) (o:Out X H (jS h i ds) Q):zU h (.str i) vs H Q:=by
 unfold jS at o;split at o
 · rename_i j;obtain ⟨w,rfl,rw'⟩:=dZ rs;cases (show w=.str j from rw');exact ⟨i,j,rfl,rfl,o _ H (.refl H) rfl⟩
 · exact o.elim
theorem yL {h:Str→Str→Int} (i:Str) (ds:List Dv) (vs:List V) (H:Hp) (Q:VK) (rs:Reps X.K H ds vs) (o:Out X H (yJ h i ds) Q):zV h (.str i) vs H Q:=by
 unfold yJ at o;split at o
 · rename_i j;obtain ⟨w,rfl,rw'⟩:=dZ rs;cases (show w=.str j from rw');exact ⟨i,j,rfl,rfl,o _ H (.refl H) rfl⟩
 · exact o.elim
def Jj (K:e_):R2:=fun x y H Q=>∃ (a b:k_) (ns:List Int),x=.ref a∧y=.ref b∧SqL K H a (ns.map V.int)∧H b=a_ (.lst [])∧Q (.bl ns.isEmpty) H
theorem Hn (hu:X.A.units < cLine):OpR X (Lj .Eq) (Jj X.K):=by
 intro f' s σ H x y v u Q I rx ry h;obtain ⟨a,b,ns,rfl,rfl,h1,h2,q⟩:=h;cases rx;cases ry;obtain ⟨its,r,pl,hz⟩:=I.list h1;obtain ⟨z2,its2,n2,r2,hl2,e2⟩:=I.lstM h2;cases r2;have hb:s.heap.IsList b #[]:=⟨_,e2,rfl,_,rfl⟩;have hl:=r.length;cases ns with
 | nil =>
  have e0:its=[]:=by cases its with | nil=>rfl | cons _ _=>simp at hl
  subst e0;exact SeqAt.eq_listAt (e:=fun _=>c_) pl.isList hb rfl hu (fun i hi=>absurd hi (by simp)) (by first | exact ⟨.bl _,H,I,rfl,q⟩ | (refine ⟨.bl _,H,I,?_,q⟩; simp [RelV]))
 | cons n ns =>
  refine SeqAt.eq_list_lengthsAt pl.isList hb ?_ hu ⟨.bl _,H,I,rfl,q⟩;have:0 < its.length:=by rw [← hl]; simp
  simp;exact fun z=>by rw [z] at this; simp at this
def Gi:Dv→Dv→Option (Rs Dv)
 | .scr ns,.lst []=>a_ (.ok (.bl ns.isEmpty))
 | _,_=>ck
theorem Ho:GOp X (Jj X.K) Gi:=by
 intro dx dy x y H Q rx ry o;unfold Gi at o;split at o
 · rename_i ns;obtain ⟨a,rfl,h1⟩:=rx.scrE;obtain ⟨b,xs,rfl,h2,h3⟩:=ry.lstE;cases (show xs=[] from h3);exact ⟨a,b,ns,rfl,rfl,h1,h2,o _ H (.refl H) rfl⟩
 · exact o.elim
end
end FD
namespace FD
open PySem
theorem Dd:LJ (b_ "str")=a_ (.type "str"):=PyProof.Rows.boot_str
theorem wM:LJ (b_ "tuple")=a_ (.type "tuple"):=by decide +kernel
theorem zY:LJ (b_ "bool")=a_ (.type "bool"):=by decide +kernel
end FD
namespace FD
open PySem PySem.Spec PyProof.Rows L2
mutual
def de:Dv→PyData
 | .non=>.none
 | .bl b=>.bool b
 | .int i=>.int i
 | .str x=>.str x
 | .tup xs=>.tuple (toPys xs)
 | .lst xs=>.list (toPys xs)
 | .scr ns=>.list (ns.map PyData.int)
 | .exn _=>.dict []
def toPys:List Dv→List PyData
 | []=>[]
 | d :: ds=>de d :: toPys ds
end
section
variable {X:Cx} {f':List (k_×Obj)} {σ:L2.St} {H:Hp} {s:h_}
theorem ls:∀ {ns:List Int} {us:List g_},Vals (ns.map V.int) us→∃ as,ReadsAll s.heap us (ns.map PyData.int) as
 | [],us,r=>by cases r; exact ⟨_,.nil⟩
 | n :: ns,us,r=>by
  cases r with
  | cons r1 r2 =>
   obtain ⟨t,rfl⟩:=r1;obtain ⟨as,q⟩:=ls r2;exact ⟨_,.cons (.int n t) q⟩
mutual
theorem Rep.reads (I:Inv X f' σ H s):∀ (d:Dv) (v:V) (u:g_),Rep X.K H d v→RelV v u→(de d).canLay0=c_→∃ as,Reads s.heap u (de d) as
 | .non,v,u,r,q,hz0=>by cases (show v=.non from r); cases (show u=K9 from q); exact ⟨_,.none⟩
 | .bl b,v,u,r,q,hz0=>by cases (show v=.bl b from r); cases (show u=Lo b from q); exact ⟨_,.bool b⟩
 | .int i,v,u,r,q,hz0=>by cases (show v=.int i from r); obtain ⟨t,rfl⟩:=(show ∃ t,u=Rp i t from q); exact ⟨_,.int i t⟩
 | .str x,v,u,r,q,hz0=>by cases (show v=.str x from r); obtain ⟨t,rfl⟩:=(show ∃ t,u=No x t from q); exact ⟨_,.str x t⟩
 | .tup ds,v,u,r,q,hz0=>by
  obtain ⟨a,xs,rfl,h,rs⟩:=r.tupE;cases (show u=x_ a from q);obtain ⟨its,rv,⟨o,e,c,n,d⟩,hz⟩:=I.tuple (SqT.of h);obtain ⟨as,ra⟩:=Reps.reads I ds xs its rs rv (by simpa [de,Lh] using hz0);exact ⟨as,.tuple e c d (by simpa using ra)⟩
 | .lst ds,v,u,r,q,hz0=>by
  obtain ⟨a,xs,rfl,h,rs⟩:=r.lstE;cases (show u=x_ a from q);obtain ⟨z,its,n,rv,hl,e⟩:=I.lstM h;obtain ⟨as,ra⟩:=Reps.reads I ds xs its rs rv (by simpa [de,Lh] using hz0);exact ⟨a :: as,.list e rfl rfl (by simpa using ra)⟩
 | .scr ns,v,u,r,q,hz0=>by
  obtain ⟨a,rfl,h⟩:=r.scrE;cases (show u=x_ a from q);obtain ⟨its,rv,⟨o,n,e,c,hd,d⟩,hz⟩:=I.list h;obtain ⟨as,ra⟩:=ls (s:=s) rv;exact ⟨a :: as,.list e c d (by simpa using ra)⟩
 | .exn c,v,u,r,q,hz0=>by simp [de,Lh] at hz0
theorem Reps.reads (I:Inv X f' σ H s):∀ (ds:List Dv) (vs:List V) (us:List g_),Reps X.K H ds vs→Vals vs us→LX (toPys ds)=c_→∃ as,ReadsAll s.heap us (toPys ds) as
 | [],vs,us,r,q,_=>by cases (show vs=[] from r); cases q; exact ⟨_,.nil⟩
 | d :: ds,vs,us,r,q,hz0=>by
  obtain ⟨v,ws,rfl,r1,r2⟩:∃ v us,vs=v :: us∧Rep X.K H d v∧Reps X.K H ds us:=r;cases q with
  | cons q1 q2 =>
   have hz1:(de d).canLay0=c_∧LX (toPys ds)=c_:=by simpa [toPys,LX] using hz0
   obtain ⟨as,a⟩:=Rep.reads I d v _ r1 q1 hz1.1;obtain ⟨bs,b⟩:=Reps.reads I ds ws _ r2 q2 hz1.2;exact ⟨_,.cons a b⟩
end
end
section
variable {X:Cx}
def okP (d:Dv):Bool:=SeqAt.shaped (de d)
def rPy (X:Cx) (neg:Bool):R2:=fun x y H Q=>∃ dx dy,Rep X.K H dx x∧Rep X.K H dy y∧okP dx=c_∧okP dy=c_∧Q (.bl (if neg then !Ll (de dx) (de dy) else Ll (de dx) (de dy))) H
theorem De (hu:X.A.units + 64 < cLine):OpR X (Lj .Eq) (rPy X d_):=by
 intro f' s σ H x y v u Q I rx ry h;obtain ⟨dx,dy,qx,qy,hx,hy,q⟩:=h;obtain ⟨as,ra⟩:=Rep.reads I dx x v qx rx (Ly.mp hx).1;obtain ⟨bs,rb⟩:=Rep.reads I dy y u qy ry (Ly.mp hy).1;exact SeqAt.compareEq_shaped ra rb hx hy hu ⟨.bl _,H,I,rfl,q⟩
theorem Df (hu:X.A.units + 64 < cLine):OpR X (Lj .NotEq) (rPy X c_):=by
 intro f' s σ H x y v u Q I rx ry h;obtain ⟨dx,dy,qx,qy,hx,hy,q⟩:=h;obtain ⟨as,ra⟩:=Rep.reads I dx x v qx rx (Ly.mp hx).1;obtain ⟨bs,rb⟩:=Rep.reads I dy y u qy ry (Ly.mp hy).1;exact SeqAt.compareNe_shaped ra rb hx hy hu ⟨.bl _,H,I,rfl,q⟩
def eqX (x y:Dv):Option (Rs Dv):=match eqS x y with
 | some b=>a_ (.ok (.bl b))
 | none=>if okP x && okP y then a_ (.ok (.bl (Ll (de x) (de y)))) else ck
def neX (x y:Dv):Option (Rs Dv):=match eqS x y with
 | some b=>a_ (.ok (.bl (!b)))
 | none=>if okP x && okP y then a_ (.ok (.bl (!Ll (de x) (de y)))) else ck
def Jk (X:Cx):R2:=fun x y H Q=>rEq x y H Q∨rPy X d_ x y H Q
def Jl (X:Cx):R2:=fun x y H Q=>rNe x y H Q∨rPy X c_ x y H Q
theorem Dg (hu:X.A.units + 64 < cLine):OpR X (Lj .Eq) (Jk X):=op_eq.or (De hu)
theorem Hq (hu:X.A.units + 64 < cLine):OpR X (Lj .NotEq) (Jl X):=op_ne.or (Df hu)
theorem Dh:GOp X (Jk X) eqX:=by
 intro dx dy x y H Q rx ry o;unfold eqX at o;split at o
 · rename_i b hb;obtain ⟨h1,h2⟩:=yF rx ry hb;exact .inl ⟨h1,by rw [h2]; exact o _ H (.refl H) rfl⟩
 · split at o
   · rename_i hc;rw [n_] at hc;exact .inr ⟨dx,dy,rx,ry,hc.1,hc.2,o _ H (.refl H) rfl⟩
   · exact o.elim
theorem Hr:GOp X (Jl X) neX:=by
 intro dx dy x y H Q rx ry o;unfold neX at o;split at o
 · rename_i b hb;obtain ⟨h1,h2⟩:=yF rx ry hb;exact .inl ⟨h1,by rw [h2]; exact o _ H (.refl H) rfl⟩
 · split at o
   · rename_i hc;rw [n_] at hc;exact .inr ⟨dx,dy,rx,ry,hc.1,hc.2,o _ H (.refl H) rfl⟩
   · exact o.elim
def ltX:Dv→Dv→Option (Rs Dv)
 | .int i,.int j=>a_ (.ok (.bl (q_ (i < j))))
 | .str x,.str y=>a_ (.ok (.bl (q_ (x.cps.toList < y.cps.toList))))
 | _,_=>ck
def Jm:R2:=fun x y H Q=>rI0 (fun i j=>.bl (q_ (i < j))) x y H Q∨∃ i j,x=.str i∧y=.str j∧Q (.bl (q_ (i.cps.toList < j.cps.toList))) H
theorem Di:OpR X (Lj .Lt) Jm:=op_lt.or tq
theorem Dj:GOp X Jm ltX:=by
 intro dx dy x y H Q rx ry o;cases dx <;> cases dy <;> try exact (show False from o).elim
 · rename_i i j;exact .inl ⟨i,j,rx,ry,o _ H (.refl H) rfl⟩
 · rename_i i j;exact .inr ⟨i,j,rx,ry,o _ H (.refl H) rfl⟩
theorem nv:∀ (ps:List Str) (k:Nat),Vals (ps.map V.str) (strsFrom k ps)
 | [],_=>.nil
 | p :: ps,k=>.cons ⟨k,rfl⟩ (nv ps (k + 1))
theorem ny {K:e_} {H:Hp}:∀ ps:List Str,Reps K H (ps.map Dv.str) (ps.map V.str)
 | []=>rfl
 | p :: ps=>⟨.str p,ps.map V.str,rfl,rfl,ny ps⟩
def fV:Str→List Dv→Option (Rs Dv)
 | x,[.str y]=>if y.length≠0∧x.length≤100000∧(MH x y).length≤100000 then a_ (.ok (.lst ((MH x y).map Dv.str))) else ck
 | _,_=>ck
def yM:V→List V→Hp→VK→Prop:=fun x xs H Q=>∃ i j,x=.str i∧xs=[.str j]∧j.length≠0∧i.length≤sizeLine∧(MH i j).length≤sizeLine∧∀ p,H p=ck→Q (.ref p) (upd H p (.lst ((MH i j).map V.str)))
theorem wN:MtR X "str.split" yM:=by
 intro f' s σ H x xs v us Q I rx rs h;obtain ⟨i,j,rfl,rfl,hj,hi,hn,q⟩:=h;obtain ⟨t,rfl⟩:=rx;obtain ⟨u,rfl,ru⟩:=eW rs;obtain ⟨t',rfl⟩:=ru;have hy:(j.length == 0)=d_:=by simpa using hj
 have one:∀ {s':h_},s'={ s with heap:=s.heap.push { cls:=.type "list",data:=.seq [No i t].toArray } }→MH i j=[i]→EP X f' σ Q (.ref s.heap.objs.size) s':=fun e e2=>by
  subst e;rw [e2] at q;exact ⟨.ref _,_,I.lnew (its:=[No i t]) (ys:=[V.str i]) (t':=s.toks) (.cons ⟨t,rfl⟩ .nil) (by show 1≤sizeLine; decide),rfl,q _ I.fresh⟩
 cases h1:(q_ (i.length < j.length) || q_ (Mv i < Mv j))
 · cases hf:(Ld i j 0 i.length (i.length + 1)).isEmpty
   · have e2:MH i j=Builtin.Str.partsBetween i (Ld i j 0 i.length (i.length + 1)) j.length:=by
      unfold MH;rw [if_neg (by rw [h1]; exact p_),if_neg (by rw [hf]; exact p_)]
     rw [e2] at q hn;refine M4 NS (Oa _ _ _) O2 (OP _ _) (meets_str_split_sep i j t t' h1 hy hf hi hn) ?_;exact ⟨.ref _,_,I.lnew (t':=_) (nv _ _) (by rw [La]; exact hn),rfl,q _ I.fresh⟩
   · refine M4 NS (Oa _ _ _) O2 (OP _ _) (meets_str_split_not_found i j t t' h1 hy hf) ?_;exact one rfl (by unfold MH; rw [if_neg (by rw [h1]; exact p_),if_pos hf])
 · refine M4 NS (Oa _ _ _) O2 (OP _ _) (meets_str_split_cannot_occur i j t t' h1) ?_;exact one rfl (by unfold MH; rw [if_pos h1])
theorem zZ (i:Str) (ds:List Dv) (vs:List V) (H:Hp) (Q:VK) (rs:Reps X.K H ds vs) (o:Out X H (fV i ds) Q):yM (.str i) vs H Q:=by
 unfold fV at o;split at o
 · rename_i j;split at o
   · rename_i hc;obtain ⟨w,rfl,rw'⟩:=dZ rs;cases (show w=.str j from rw');exact ⟨i,j,rfl,rfl,hc.1,cA hc.2.1,cA hc.2.2,fun p hp=>o _ _ (aE hp _) ⟨p,_,rfl,aA,ny _⟩⟩
   · exact o.elim
 · exact o.elim
def rL:List Dv→Option (List Str)
 | []=>a_ []
 | .str x :: r=>(match rL r with | some xs=>a_ (x :: xs) | none=>ck)
 | _=>ck
def ud:Str→List Dv→Option (Rs Dv)
 | x,[.lst ds]=>(match rL ds with
  | some ts=>if JoinOk x ts=c_ then a_ (.ok (.str (Nk x ts))) else ck
  | none=>ck)
 | _,_=>ck
def Dk (K:e_):V→List V→Hp→VK→Prop:=fun x xs H Q=>∃ i a vs ds ts,x=.str i∧xs=[.ref a]∧H a=a_ (.lst vs)∧Reps K H ds vs∧rL ds=a_ ts∧JoinOk i ts=c_∧Q (.str (Nk i ts)) H
theorem lv {K:e_} {H:Hp}:∀ {ds:List Dv} {vs:List V} {us:List g_} {ts:List Str},Reps K H ds vs→Vals vs us→rL ds=a_ ts→∃ l:List (Str×Tok),us=strValues l∧l.map (·.1)=ts
 | [],vs,us,ts,r,q,h=>by
  cases (show vs=[] from r);cases q;cases h;exact ⟨[],rfl,rfl⟩
 | d :: ds,vs,us,ts,r,q,h=>by
  obtain ⟨v,ws,rfl,r1,r2⟩:∃ v us,vs=v :: us∧Rep K H d v∧Reps K H ds us:=r;cases q with
  | cons q1 q2 =>
   cases d <;> try (cases h; done)
   rename_i b;simp only [rL] at h;cases hb:rL ds with
   | none=>rw [hb] at h; cases h
   | some bs' =>
    rw [hb] at h;cases h;cases (show v=.str b from r1);obtain ⟨t,rfl⟩:=q1;obtain ⟨l,e1,e2⟩:=lv r2 q2 hb;exact ⟨(b,t) :: l,by rw [e1]; rfl,by rw [Lg,e2]⟩
theorem z0:MtR X "str.join" (Dk X.K):=by
 intro f' s σ H x xs v us Q I rx rs h;obtain ⟨i,a,vs,ds,ts,rfl,rfl,h1,h2,h3,h4,q⟩:=h;obtain ⟨t,rfl⟩:=rx;obtain ⟨u,rfl,ru⟩:=eW rs;cases ru;obtain ⟨z,its,n,rv,hl,e⟩:=I.lstM h1;obtain ⟨l,e1,e2⟩:=lv h2 rv h3;subst e1;exact SC.join ⟨_,e,rfl,_,rfl⟩ e2 h4 fun t' k=>⟨.str _,H,I.tok _,⟨_,rfl⟩,q⟩
theorem Dl (i:Str) (ds:List Dv) (vs:List V) (H:Hp) (Q:VK) (rs:Reps X.K H ds vs) (o:Out X H (ud i ds) Q):Dk X.K (.str i) vs H Q:=by
 unfold ud at o;split at o
 · rename_i es;split at o
   · rename_i ts ht;split at o
     · rename_i hj;obtain ⟨w,rfl,rw'⟩:=dZ rs;obtain ⟨a,xs,rfl,h1,h2⟩:=rw'.lstE;exact ⟨i,a,xs,es,ts,rfl,rfl,h1,h2,ht,hj,o _ H (.refl H) rfl⟩
     · exact o.elim
   · exact o.elim
 · exact o.elim
def lW:Str→List Dv→Option (Rs Dv)
 | x,[.str y]=>if y.length≠0∧x.length≤100000 then a_ (.ok (.tup [.str (Mx x y).1,.str (Mx x y).2.1,.str (Mx x y).2.2])) else ck
 | _,_=>ck
def Dm:V→List V→Hp→VK→Prop:=fun x xs H Q=>∃ i j,x=.str i∧xs=[.str j]∧j.length≠0∧i.length≤sizeLine∧∀ p,H p=ck→Q (.ref p) (upd H p (.tup [.str (Mx i j).1,.str (Mx i j).2.1,.str (Mx i j).2.2]))
theorem z4:MtR X "str.partition" Dm:=by
 intro f' s σ H x xs v us Q I rx rs h;obtain ⟨i,j,rfl,rfl,hj,hi,q⟩:=h;obtain ⟨t,rfl⟩:=rx;obtain ⟨u,rfl,ru⟩:=eW rs;obtain ⟨t',rfl⟩:=ru;have hy:(j.length == 0)=d_:=by simpa using hj
 have fin:∀ (a b c:Str) (ta tb tc:Tok) (k:Nat),Mx i j=(a,b,c)→EP X f' σ Q (.ref s.heap.objs.size) { s with toks:=k,heap:=s.heap.push { cls:=.type "tuple",data:=.seq [No a ta,.str b tb,.str c tc].toArray } }:=fun a b c ta tb tc k e=>by
  rw [e] at q;refine ⟨.ref _,_,I.laid (t':=k) (fun b u e=>j_ _ e) (uk _) ?_,rfl,q _ I.fresh⟩;exact ⟨by show 3≤sizeLine; decide,[No a ta,.str b tb,.str c tc],.cons ⟨_,rfl⟩ (.cons ⟨_,rfl⟩ (.cons ⟨_,rfl⟩ .nil)),⟨_,B_ _ rfl,rfl,_,rfl⟩⟩
 refine M4 Pj (Oa _ _ _) F.entry_str_partition (F.args_str_partition_2 _ _) (meets_str_partition i j t t' hy hi) ?_;cases ho:Ld i j 0 i.length 1 with
 | nil=>exact fin _ _ _ _ _ _ _ (by unfold Mx; rw [ho])
 | cons k r=>exact fin _ _ _ _ _ _ _ (by unfold Mx; rw [ho])
theorem Do (i:Str) (ds:List Dv) (vs:List V) (H:Hp) (Q:VK) (rs:Reps X.K H ds vs) (o:Out X H (lW i ds) Q):Dm (.str i) vs H Q:=by
 unfold lW at o;split at o
 · rename_i j;split at o
   · rename_i hc;obtain ⟨w,rfl,rw'⟩:=dZ rs;cases (show w=.str j from rw');exact ⟨i,j,rfl,rfl,hc.1,cA hc.2,fun p hp=>o _ _ (aE hp _) ⟨p,_,rfl,aA,⟨_,_,rfl,rfl,_,_,rfl,rfl,_,_,rfl,rfl,rfl⟩⟩⟩
   · exact o.elim
 · exact o.elim
variable {p pos:Pos} {e:F_} {es:List F_} {ga:FnA}
def cD:List Dv→Option (Rs Dv)
 | [.lst xs]=>a_ (.ok (.tup xs))
 | [.tup xs]=>a_ (.ok (.tup xs))
 | _=>ck
theorem wO (hg:Gl X "tuple") (hm:X.mg "tuple"=ck) (ha:FA X (e :: es) ga) (he:i_ (e :: es) X.env=(d_,eval e X.env) :: i_ es X.env:=by kernel_rfl) (hpl:(Lr pos (i_ es X.env)).any (·.1)=d_:=by kernel_rfl):FE X (.Call (.Name "tuple" p) (e :: es) [] pos) (fB1 cD ga) :=
 cY (gK lR hg hm (by decide +kernel) ha.h (by decide) (by decide) he hpl) fun σ H Q ρ E o=>⟨ρ,E,OutA.bind o fun ds vs H1 e1 rs o1=>by
  unfold cD at o1;split at o1
  · rename_i xs;obtain ⟨v,rfl,r⟩:=dZ rs;obtain ⟨a,ws,rfl,h1,h2⟩:=r.lstE;exact ⟨a,ws,rfl,.inl ⟨SqL.of h1,fun l hl=>o1 _ _ (aE hl _) ⟨l,ws,rfl,aA,Reps.mono (aE hl _) _ _ h2⟩⟩⟩
  · rename_i xs;obtain ⟨v,rfl,r⟩:=dZ rs;obtain ⟨a,ws,rfl,h1,h2⟩:=r.tupE;exact ⟨a,ws,rfl,.inr ⟨SqT.of h1,o1 _ H1 (.refl H1) ⟨a,ws,rfl,h1,h2⟩⟩⟩
  · exact o1.elim⟩
end
section
variable {X:Cx} {apos cpos:Pos} {e o:F_} {es:List F_} {ga:FnA} {fo:FnE}
def Gj (x:Dv):List Dv→Nat→Option Nat
 | [],_=>ck
 | y :: ys,k=>if eqF y x then a_ k else Gj x ys (k + 1)
def Gk:List Dv→List Dv→Option (Rs Dv)
 | xs,[x]=>if gM x && xs.all gM && q_ (xs.length≤100000) then (match Gj x xs 0 with | some j=>a_ (.ok (.int j)) | none=>ck) else ck
 | _,_=>ck
theorem ue {K:e_} {H:Hp} {x:Dv} {u:V} (q:Rep K H x u) (hx:gM x=c_):∀ {xs:List Dv} {vs:List V} {k j:Nat},Reps K H xs vs→xs.all gM=c_→Gj x xs k=a_ j →
 k≤j∧(∃ v,vs[j - k]?=a_ v∧eqV v u=c_)∧∀ (m:Nat) v,m < j - k→vs[m]?=a_ v→eqV v u=d_
 | [],vs,k,j,r,_,h=>by cases h
 | y :: ys,vs,k,j,r,hf,h=>by
  obtain ⟨v,ws,rfl,r1,r2⟩:∃ v us,vs=v :: us∧Rep K H y v∧Reps K H ys us:=r;rw [My,n_] at hf;unfold Gj at h;have e1:=ub r1 q hf.1 hx;split at h
  · rename_i hh;cases h;refine ⟨uk _,⟨v,by simp,by rw [e1]; exact hh⟩,fun m w hm=>by omega⟩
  · rename_i hh;obtain ⟨a,⟨w,b1,b2⟩,c⟩:=ue q hx r2 hf.2 h;refine ⟨by omega,⟨w,?_,b2⟩,fun m z hm hz=>?_⟩
    · have e:j - k=(j - (k + 1)) + 1:=by omega
      rw [e,NP];exact b1
    · cases m with
      | zero =>
       have:z=v:=by simpa using hz.symm
       subst this;rw [e1];simpa using hh
      | succ m=>exact c m z (by omega) (by simpa using hz)
def Dr:V→List V→Hp→VK→Prop:=fun x xs H Q=>∃ a vs y j,x=.ref a∧xs=[y]∧H a=a_ (.lst vs)∧gG y=c_∧vs.all gG=c_∧vs.length≤100000∧(∃ v,vs[j]?=a_ v∧eqV v y=c_)∧(∀ (m:Nat) v,m < j→vs[m]?=a_ v→eqV v y=d_)∧Q (.int j) H
theorem yN {y:V} {vs:List V} {its:List g_} (r:Vals vs its) (f:vs.all gG=c_) {m:Nat} {v:V} (h:vs[m]?=a_ v):∃ hm:m < its.length,eqU y its[m]=eqV v y:=by
 obtain ⟨u,hu,ru⟩:=r.get h;obtain ⟨hm,e⟩:=K2.mp hu;refine ⟨hm,?_⟩;rw [e];exact qt ru (Lk.mp f v (LN h))
theorem wP:MtR X "list.index" Dr:=by
 intro f' s σ H x xs v us Q I rx rs h;obtain ⟨a,vs,y,j,rfl,rfl,h1,fy,fv,hz,⟨w,hw,hit⟩,hno,q⟩:=h;cases rx;obtain ⟨u,rfl,ru⟩:=eW rs;obtain ⟨z,its,n,rv,hl,e⟩:=I.lstM h1;obtain ⟨hj,ej⟩:=yN (y:=y) rv fv hw;refine M4 Pk ⟨_,e,rfl⟩ PySem.F.entry_list_index (PySem.F.args_list_index_2 _ _) (SeqAt.list_indexAt a its.toArray n ck #[] u (eqU y) j (by simpa using hj) (by omega) (by simpa [ej] using hit) fun m hm hlt=>?_) ⟨e,fun t ht=>gp ru fy rv fv t (by simpa using ht),⟨.int j,H,I.tok _,⟨_,rfl⟩,q⟩⟩;have hm':m < vs.length:=by rw [rv.length]; simpa using hm
 obtain ⟨hm2,em⟩:=yN (y:=y) rv fv (Lb hm');have:=hno m vs[m] hlt (Lb hm');simpa [em] using this
def fML (g:List Dv→List Dv→Option (Rs Dv)) (fo:FnE) (ga:FnA):FnE:=fun ρ=>bnd (fo ρ) fun x=>match x with
 | .lst i=>bnd (ga ρ) fun xs=>g i xs
 | _=>ck
theorem wQ (ho:FE X o fo) (ha:FA X (e :: es) ga)
 (hbase:Nf o "index" X.env (eval o X.env)=eval o X.env:=by kernel_rfl)
 (hfew:((Lr cpos (i_ (e :: es) X.env)).all (fun x=>!x.1) && (Ph cpos (NL [] X.env)).all (fun x=>x.1.isSome)
   && q_ ((e :: es).length + ([]:List MR).length + (if ([]:List MR).isEmpty then 0 else 1) < 30))=c_:=by kernel_rfl)
 (hline:(apos.endLine == cpos.line)=c_:=by kernel_rfl) (hs:i_ (e :: es) X.env=(d_,eval e X.env) :: i_ es X.env:=by kernel_rfl) (hplain:(Lr cpos (i_ es X.env)).any (·.1)=d_:=by kernel_rfl) :
 FE X (.Call (.Attribute o "index" apos) (e :: es) [] cpos) (fML Gk fo ga) :=
 cY (wB NM Pk PySem.F.type_list_index wP ho.h ha.h hbase hfew hline hs hplain) fun σ H Q ρ E o=>⟨ρ,E,Out.bind o fun d v H1 e1 rd o1=>by
  cases d <;> try exact (show False from o1).elim
  rename_i ds;obtain ⟨a,vs,rfl,h1,h2⟩:=rd.lstE;refine ⟨.inl ⟨rfl,vs,SqL.of h1⟩,ρ,E.mono e1,OutA.bind o1 fun es ws H2 e2 rs o2=>?_⟩;unfold Gk at o2;split at o2
  · rename_i x;split at o2
    · rename_i hc;rw [n_,n_] at hc;split at o2
      · rename_i j hj;obtain ⟨w,rfl,rw'⟩:=dZ rs;have h2':=Reps.mono e2 _ _ h2;obtain ⟨c1,c2,c3⟩:=ue rw' hc.1.1 h2' hc.1.2 hj;refine ⟨a,vs,w,j,rfl,rfl,e2 _ _ h1,lT rw' hc.1.1,j7 h2' hc.1.2,by rw [h2.length]; exact of_decide_eq_true hc.2,by simpa using c2,by simpa using c3,o2 _ H2 (.refl H2) rfl⟩
      · exact o2.elim
    · exact o2.elim
  · exact o2.elim⟩
end
structure FG (X:Cx) (tg:F_) (b:Dv→Ev→Option Ev):Prop where
 h:∀ (f':List (k_×Obj)) (s:h_) (σ:L2.St) (H:Hp) (v:V) (u:g_) (d:Dv) (ρ ρ':Ev),Inv X f' σ H s→RelV v u→Rep X.K H d v→Envs X.K H σ ρ→b d ρ=a_ ρ' →
  w_ (z_ X.prog X.w) X.A (MN tg X.env u) (fun _ s'=>∃ σ' H',Inv X f' σ' H' s'∧Same H H'∧Envs X.K H' σ' ρ') X.xe s
def gN (i:Nat):Dv→Ev→Option Ev:=fun d ρ=>a_ (ρ.set i (a_ d))
def gP (i j:Nat):Dv→Ev→Option Ev:=fun d ρ=>match d with
 | .tup [a,c]=>a_ ((ρ.set i (a_ a)).set j (a_ c))
 | _=>ck
section
variable {X:Cx} {pos p1 p2:Pos}
theorem z7 (i:Nat) {x:Str} (hN:X.N.Nodup) (hi:X.N[i]?=a_ x) (hx:Loc X.env.scope x) (hf:X.fn x=c_∨X.env.scope.names.lookup x=a_ .local):FG X (.Name x pos) (gN i) :=
 ⟨fun f' s σ H v u d ρ ρ' I r rd E e=>by
  cases e;exact thn (iz hN hi hx hf f' s σ H v u (fun σ' H'=>H'=H∧σ'=σ.set i (a_ v)) I r ⟨rfl,rfl⟩) fun _ s' ⟨σ',H',I',e1,e2⟩=>by
   subst e1 e2;exact ⟨_,_,I',.refl _,E.set rd⟩⟩
theorem uf (i j:Nat) {x y:Str} {k:Nat} (hc:X.calm=c_) (hN:X.N.Nodup) (hi:X.N[i]?=a_ x) (hx:Loc X.env.scope x) (hf:X.fn x=c_∨X.env.scope.names.lookup x=a_ .local)
 (hj:X.N[j]?=a_ y) (hy:Loc X.env.scope y) (hg:X.fn y=c_∨X.env.scope.names.lookup y=a_ .local)
 (hs1:(K4 [.Name x p1,.Name y p2] X.env).map (·.2)=MN (.Name x p1) X.env :: (K4 [.Name y p2] X.env).map (·.2):=by kernel_rfl) (hs2:(K4 [.Name y p2] X.env).map (·.2)=MN (.Name y p2) X.env :: (K4 [] X.env).map (·.2):=by kernel_rfl)
 (hn:(K4 [.Name x p1,.Name y p2] X.env).length=2:=by kernel_rfl) (hst:(K4 [.Name x p1,.Name y p2] X.env).findIdx? (·.1)=ck:=by kernel_rfl):FG X (.Tuple [.Name x p1,.Name y p2] k pos) (gP i j) :=
 ⟨fun f' s σ H v u d ρ ρ' I r rd E e=>by
  unfold gP at e;split at e
  · rename_i a c;cases e;obtain ⟨ad,xs,rfl,h1,h2⟩:=rd.tupE;obtain ⟨va,vc,rfl,ra,rc⟩:=wH h2;refine thn (yq (n:=2) hc (lP (iz (i:=i) hN hi hx hf) (lP (iz (i:=j) hN hj hy hg) sU hs2) hs1) hn hst f' s σ H _ u (fun σ' H'=>H'=H∧σ'=(σ.set i (a_ va)).set j (a_ vc)) I r ⟨ad,_,rfl,SqT.of h1,rfl,va,[vc],rfl,vc,[],rfl,rfl,rfl,rfl⟩) fun _ s' ⟨σ',H',I',e1,e2⟩=>?_;subst e1 e2;exact ⟨_,_,I',.refl _,(E.set ra).set rc⟩
  · cases e⟩
end
structure WkG (K:e_) (J:It) (ds:List Dv) (H0:Hp):Prop where
 go:∀ i H,Same H0 H→i < ds.length→J.go i H
 stop:∀ H,Same H0 H→J.stop ds.length H
 yld:∀ i H x H',Same H0 H→i < ds.length→J.yld i H x H'→Same H H'∧∃ d,ds[i]?=a_ d∧Rep K H' d x
theorem Wk.toG {K:e_} {J:It} {ds:List Dv} {H0:Hp} (w:Wk K J ds H0):WkG K J ds H0 :=
 ⟨w.go,w.stop,fun i H x H' e hi y=>by
  obtain ⟨rfl,d,h1,h2⟩:=w.yld i H x H' e hi y;exact ⟨.refl _,d,h1,h2⟩⟩
def OutG (X:Cx) (H:Hp) (o:Option (Rs (List Dv))) (R:It→Hp→Prop):Prop:=match o with
 | none=>False
 | some (.exc c)=>XW X c H
 | some (.ok ds)=>∀ J H',Same H H'→WkG X.K J ds H'→R J H'
theorem OutG.mono {X:Cx} {H H':Hp} {R:It→Hp→Prop} (e:Same H H'):∀ {o:Option (Rs (List Dv))},OutG X H o R→OutG X H' o R
 | none,h=>h
 | some (.exc _),h=>XW.mono h e
 | some (.ok _),h=>fun v H1 e1 r=>h v H1 (e.trans e1) r
structure FIG (X:Cx) (tg iter:F_) (f:FnA):Prop where
 h:PI X tg iter fun σ H R=>∃ ρ,Envs X.K H σ ρ∧OutG X H (f ρ) R
theorem FI.toG {X:Cx} {tg iter:F_} {f:FnA} (h:FI X tg iter f):FIG X tg iter f :=
 ⟨fun f' s σ H R I ⟨ρ,E,o⟩=>h.h f' s σ H R I ⟨ρ,E,by
  match hf:f ρ,o with
  | some (.exc c),o=>exact o
  | some (.ok ds),o=>exact fun J H' e w=>o J H' e w.toG⟩⟩
def gq (m:Nat) (cs:List (Str×Nat)) (ρ:Ev):Ev:=u_ m ck ++ cs.map fun c=>(ρ[c.2]?).join
def iW (b:Dv→Ev→Option Ev) (tst:Option FnB) (elt:FnE) (cap:Ev):List Dv→Option (List Dv)
 | []=>a_ []
 | d :: ds=>match b d cap with
  | none=>ck
  | some ρ=>match (match tst with | none=>(a_ (.ok c_):Option (Rs Bool)) | some t=>t ρ) with
   | some (.ok c_)=>(match elt ρ with
    | some (.ok y)=>(match iW b tst elt cap ds with | some ys=>a_ (y :: ys) | none=>ck)
    | _=>ck)
   | some (.ok d_)=>iW b tst elt cap ds
   | _=>ck
structure Hs (osc scope:Me) (cs:List (Str×Nat)) (N:List Str):Prop where
 kind:scope.kind=.function
 cell:∀ y∈scope.names,y.2≠.cell
 names:∀ y∈scope.names,y.2=.local→scope.names.lookup y.1=a_ .local
 free:∀ y∈scope.names,y.2=.free→osc.names.lookup y.1=a_ .cell∨osc.names.lookup y.1=a_ .free
 caps:∀ c∈cs,N[c.2]?=a_ c.1∧scope.names.lookup c.1=a_ .free
def nA (m:Nat) (cs:List (Str×Nat)) (σ:L2.St):L2.St:=u_ m ck ++ cs.map fun c=>(σ[c.2]?).join
theorem nB {α:Type} {m i:Nat} {v:α} {l:List (Option α)} (h:(u_ m (ck:Option α) ++ l)[i]?=a_ (a_ v)):∃ k,i=m + k∧l[k]?=a_ (a_ v):=by
 by_cases hi:i < m
 · rw [LS (by simpa using hi),M0,if_pos hi] at h;cases h
 · refine ⟨i - m,by omega,?_⟩;rw [LO (by simpa using hi)] at h;simpa using h
theorem ug {K:e_} {H:Hp} {σ:L2.St} {ρ:Ev} (m:Nat) (cs:List (Str×Nat)) (E:Envs K H σ ρ):Envs K H (nA m cs σ) (gq m cs ρ):=by
 refine ⟨by simp [nA,gq],fun i d h=>?_⟩;obtain ⟨k,rfl,hk⟩:=nB h;rw [Lx] at hk;cases hc:cs[k]? with
 | none=>rw [hc] at hk; simp at hk
 | some c =>
  rw [hc] at hk;simp only [NG,Rb] at hk;have h2:ρ[c.2]?=a_ (a_ d):=by
   cases q:ρ[c.2]? with
   | none=>rw [q] at hk; simp at hk
   | some o=>rw [q] at hk; simp at hk; rw [hk]
  obtain ⟨v,h3,h4⟩:=E.at' c.2 d h2;refine ⟨v,?_,h4⟩;unfold nA;rw [LO (by simp)];simp only [MD,Pp,Lx,hc,NG,h3];rfl
theorem nF {prog:r_} {w:E_} {A:G_} {R:QL→h_→Prop} {s:h_} {elt target iter:F_} {ifs:List F_} {scope:Me} {pos:Pos} {it acc:g_} {env:Env} (I:Nat→h_→Prop)
 (turn:∀ n s,I n s→w_ (z_ prog w) A (P8 it) (fun r s₁=>match r with
   | none=>R (.ok .next) s₁
   | some v=>w_ (z_ prog w) A (Oq target it v) (fun _ s₀=>w_ (z_ prog w) A (MN target env v) (fun _ s₂ =>
    w_ (z_ prog w) A (forIn ifs c_ fun c r=>if r=c_ then do let ok ← isTrue c env (eval c env); pure (RS ok) else pure (RS r)) (fun ok s₃ =>
     if ok=c_ then w_ (z_ prog w) A (eval elt env) (fun x s₄ =>
      w_ (z_ prog w) A (call (.builtin "list.append") [acc,x]) (fun _ s₅=>∃ m,m < n∧I m s₅) (Pv (z_ prog w) A env fun e s'=>R (.error e) s') s₄) (Pv (z_ prog w) A env fun e s'=>R (.error e) s') s₃
     else ∃ m,m < n∧I m s₃) (Pv (z_ prog w) A env fun e s'=>R (.error e) s') s₂) (Pv (z_ prog w) A env fun e s'=>R (.error e) s') s₀) (Pv (z_ prog w) A env fun e s'=>R (.error e) s') s₁) (Pv (z_ prog w) A env fun e s'=>R (.error e) s') s)
 (n:Nat) (h:I n s) :
 NV (z_ prog w) A (.compLoop (.ListComp elt [⟨target,iter,ifs,0⟩] scope pos) 0 it acc env) R s:=by
 refine codeAny_loop rfl I (fun n s hI=>?_) n h;show w_ _ A ((compTurn (.ListComp elt [⟨target,iter,ifs,0⟩] scope pos) 0 it acc env).onRaise (fun x=>do Rn x env; theTreesLotGoes x)) _ _ s
 refine wpAny_noted ?_;rw [compTurn_list];refine f_ (Qz (f_ (LD (turn n s hI) (fun r s₁ h₁=>?_) fun _ _ h'=>h')));cases r with
 | none=>exact m_ h₁
 | some v =>
  refine f_ (LD h₁ (fun _ s₀ h₀=>?_) fun _ _ h'=>h');refine f_ (LD h₀ (fun _ s₂ h₂=>f_ (LD h₂ (fun ok s₃ h₃=>?_) fun _ _ h'=>h')) fun _ _ h'=>h');cases ok with
  | false =>
   rw [if_neg p_] at h₃
   first
    | exact f_ (m_ (m_ ⟨rfl,h₃⟩))
    | exact m_ ⟨rfl,h₃⟩
    | (show w_ _ _ (again _) _ _ _; exact m_ ⟨rfl,h₃⟩)
  | true =>
   rw [if_pos rfl] at h₃
   first
    | exact f_ (f_ (LD h₃ (fun x s₄ h₄=>f_ (LD h₄ (fun _ s₅ h₅=>m_ (m_ ⟨rfl,h₅⟩)) fun _ _ h'=>h')) fun _ _ h'=>h'))
    | exact f_ (LD h₃ (fun x s₄ h₄=>f_ (LD h₄ (fun _ s₅ h₅=>m_ ⟨rfl,h₅⟩) fun _ _ h'=>h')) fun _ _ h'=>h')
def bB (m:Nat) (cs:List (Str×Nat)) (src:FnA) (b:Dv→Ev→Option Ev) (tst:Option FnB) (elt:FnE):FnE:=fun ρ=>bnd (src ρ) fun ds=>match iW b tst elt (gq m cs ρ) ds with
 | some ys=>if ys.length≤100000∧ds.length≤100000 then a_ (.ok (.lst ys)) else ck
 | none=>ck
theorem Gm {m:Nat} {cs:List (Str×Nat)} {src:FnA} {b:Dv→Ev→Option Ev} {tst:Option FnB} {fe:FnE} {ρ:Ev} {o:Rs Dv} (h:bB m cs src b tst fe ρ=a_ o) :
 (∃ c,src ρ=a_ (.exc c)∧o=.exc c)∨∃ ds ys,src ρ=a_ (.ok ds)∧iW b tst fe (gq m cs ρ) ds=a_ ys∧ds.length≤100000∧ys.length≤100000∧o=.ok (.lst ys):=by
 unfold bB at h
 match hf:src ρ with
 | none=>rw [hf] at h; cases h
 | some (.exc c)=>rw [hf] at h; cases h; exact .inl ⟨c,rfl,rfl⟩
 | some (.ok ds) =>
  rw [hf] at h;dsimp only [bnd] at h
  match hm:iW b tst fe (gq m cs ρ) ds with
  | none=>rw [hm] at h; cases h
  | some ys =>
   rw [hm] at h;dsimp only at h;split at h
   · rename_i hl;cases h;exact .inr ⟨ds,ys,rfl,hm,hl.2,hl.1,rfl⟩
   · cases h
theorem Ds (cs:List (Str×Nat)) (ρ:Ev) (d:Dv) (ρ':Ev) (h:gN 0 d (gq 1 cs ρ)=a_ ρ'):fgt [0] ρ'=gq 1 cs ρ:=by
 cases h;rfl
theorem Dt (cs:List (Str×Nat)) (ρ:Ev) (d:Dv) (ρ':Ev) (h:gP 0 1 d (gq 2 cs ρ)=a_ ρ'):fgt [0,1] ρ'=gq 2 cs ρ:=by
 unfold gP at h;split at h
 · cases h;rfl
 · cases h
def Ite (K:e_) (a:k_):It :=
 ⟨fun i H=>∃ xs x,SqL K H a xs∧xs[i]?=a_ x,fun i H v H'=>∃ p x,v=.ref p∧H p=ck∧H'=upd H p (.tup [.int i,x])∧∀ xs,SqL K H a xs→xs[i]?=a_ x,fun i H=>∃ xs,SqL K H a xs∧xs.length≤i⟩
theorem uh {P:r_} {w:E_} {K:e_} {es:List F_} {k:Nat} {pos:Pos} (a e it:k_) (hne:e≠it):wt P w K (.Tuple es k pos) (Ite K a) [e,it] e (fun i h=>(∃ old,IsEnum h e it i old)∧h.IsListIter it a i) where
 mem:=by simp
 obj:=fun i h st b hb=>by
  obtain ⟨⟨old,he⟩,o,e2,c,d⟩:=st;have hb':b=e∨b=it:=by simpa using hb
  rcases hb' with rfl | rfl
  · exact ⟨_,he,fun v z=>by cases z⟩
  · exact ⟨o,e2,fun v z=>by rw [d] at z; cases z⟩
 keep:=fun i h h' st kk=>by
  obtain ⟨⟨old,he⟩,st2⟩:=st;exact ⟨⟨old,kk e (by simp) _ he⟩,st2.at fun o ee=>kk it (by simp) o ee⟩
 item:=by
  intro X hP hw hK hc i f' s σ H E I hf st hg;subst hP hw hK;obtain ⟨xs,x,hq,hx⟩:=hg;obtain ⟨its,rv,p,hz⟩:=I.list hq;obtain ⟨u,hu,ru⟩:=rv.get hx;obtain ⟨⟨old,he⟩,st2⟩:=st;obtain ⟨f0,f1,f2,f3,f4,f5⟩:=hf e (by simp);obtain ⟨g0,g1,g2,g3,g4,g5⟩:=hf it (by simp);refine wpAny_pyNext_enum_item he st2 p.isList (x:=u) (by simpa using hu) hne fun h' eo st' tp sz kk=>?_;refine ⟨_,rfl,wpAny_letOwnedTupleGo_enum eo fun h2 he2 sb2=>?_⟩;have hp:H s.heap.objs.size=ck:=I.hok.fresh (uk _);have elt:e < s.heap.objs.size:=t_ he;have k2:∀ b o,b ∉ [e,it]→s.heap.get? b=a_ o→h2.get? b=a_ o:=fun b o hb q=>sb2.extBut b o (fun z=>hb (by simp [z])) (kk b o (fun z=>hb (by simp [z])) (fun z=>hb (by simp [z])) q);have tp2:h2.get? s.heap.objs.size=a_ { cls:=.type "tuple",data:=.seq #[.int i s.toks,u] }:=sb2.extBut _ _ (N0 elt) tp;have I1:Inv X f' σ (upd H s.heap.objs.size (.tup [.int i,x])) { s with heap:=h2,toks:=s.toks + 1 }:=by
   have nt:∀ b u,H b=a_ u→b ∉ [e,it]:=fun b u q z=>by
    have z':b=e∨b=it:=by simpa using z
    rcases z' with rfl | rfl
    · rw [f0] at q; cases q
    · rw [g0] at q; cases q
   refine I.step (g':=s.gens) (d':=s.drawn) (ch:=[e,it]) (fun b hb=>?_) (fun b o _ _ hcb q _=>k2 b o hcb q) (fun b o _ _ hcb q _=>⟨o.slots,k2 b o hcb q⟩) (fun b o hcb q n=>?_) (fun b o hcb q=>⟨o,k2 b o hcb q⟩)
    (fun b ys q=>by rw [aB (ax q hp)]; exact q) (fun b o ys q=>by rw [aB (ax q hp)]; exact q) (fun b ps q=>⟨#[],by rw [aB (ax q hp),q]; simp⟩) (fun m hm=>?_) (fun b u2 q=>?_) I.bare
   · have z':b=e∨b=it:=by simpa using hb
     rcases z' with rfl | rfl
     · exact ⟨f3,f1,f4,f5⟩
     · exact ⟨g3,g1,g4,g5⟩
   · rw [aB (K7 (t_ q))]; exact n
   · obtain ⟨o,es',ep,ho,r⟩:=hm;exact ⟨o,es',ep,k2 _ o (fun z=>by
      have z':X.env.locals=e∨X.env.locals=it:=by simpa using z
      rcases z' with z' | z'
      · exact f1 z'.symm
      · exact g1 z'.symm) ho,r⟩
   · by_cases hb:b=s.heap.objs.size
     · subst hb;rw [aA] at q;cases q;exact ⟨by show 2≤sizeLine; decide,[.int i s.toks,u],.cons ⟨_,rfl⟩ (.cons ru .nil),⟨_,tp2,rfl,_,rfl⟩⟩
     · rw [aB hb] at q;refine (I.hok b u2 q).stay (fun c v hcv qq=>k2 c v ?_ qq) (fun c qq=>by rw [aB (ax qq hp)]; exact qq) fun c ys qq=>by rw [aB (ax qq hp)]; exact qq
       rcases hcv with rfl | hcv
       · exact nt _ _ q
       · exact nt _ _ hcv
  refine ⟨.ref s.heap.objs.size,_,I1,rfl,⟨_,x,rfl,hp,rfl,fun zs hy=>by rw [I.list_inj hy hq]; exact hx⟩,⟨⟨_,by simpa using he2⟩,?_⟩,fun b hb=>?_⟩
  · exact st'.at fun o q=>sb2.extBut _ _ (M8 hne) q
  · have z':b=e∨b=it:=by simpa using hb
    rcases z' with rfl | rfl
    · rw [aB (K7 elt)]; exact f0
    · obtain ⟨o,q,_⟩:=id st2;rw [aB (K7 (t_ q))]; exact g0
 done:=by
  intro X hP hw hK hc i f' s σ H E I hf st hg;subst hP hw hK;obtain ⟨xs,hq,hx⟩:=hg;obtain ⟨its,rv,p,hz⟩:=I.list hq;obtain ⟨⟨old,he⟩,st2⟩:=st;obtain ⟨g0,g1,g2,g3,g4,g5⟩:=hf it (by simp);have hl:=rv.length;exact wpAny_pyNext_enum_end (I.ok.hd hc) he st2 p.isList (by simp; omega) fun h' eb=>⟨rfl,I.turned (t':=s.toks) (fun b o hb e=>eb b o hb e) g0 g1 g3 g4 g5⟩
 self:=fun _ _ _ _ _ st h=>by
  obtain ⟨⟨old,he⟩,_⟩:=st;exact wpAny_pyIter_enum he h
def io:Nat→List Dv→List Dv
 | _,[]=>[]
 | k,d :: ds=>.tup [.int k,d] :: io (k + 1) ds
theorem gO:∀ (ds:List Dv) (k:Nat),(io k ds).length=ds.length
 | [],_=>rfl
 | d :: ds,k=>by show (io (k + 1) ds).length + 1=ds.length + 1; rw [gO]
theorem nG:∀ (ds:List Dv) (k i:Nat) (d:Dv),ds[i]?=a_ d→(io k ds)[i]?=a_ (.tup [.int ((k + i:Nat):Int),d])
 | [],_,_,_,h=>by simp at h
 | d :: ds,k,0,d',h=>by simp at h; subst h; rfl
 | d :: ds,k,i + 1,d',h=>by
  have q:=nG ds (k + 1) i d' (by simpa using h);show (Dv.tup [.int k,d] :: io (k + 1) ds)[i + 1]?=_;rw [NP,q];have e:k + 1 + i=k + (i + 1):=by omega
  rw [e]
theorem z8 {K:e_} {H:Hp} {a:k_} {xs:List V} {ds:List Dv} (h:H a=a_ (.lst xs)) (r:Reps K H ds xs):WkG K (Ite K a) (io 0 ds) H where
 go:=fun i H' e hi=>by
  rw [gO] at hi;have hx:i < xs.length:=by rw [r.length]; exact hi
  exact ⟨xs,xs[i],SqL.of (e _ _ h),by simp [hx]⟩
 stop:=fun H' e=>⟨xs,SqL.of (e _ _ h),by rw [r.length,gO]; exact uk _⟩
 yld:=fun i H' v H2 e hi y=>by
  obtain ⟨p,x,rfl,hp,rfl,y⟩:=y;obtain ⟨d,h1,h2⟩:=Reps.get (Reps.mono e _ _ r) (y xs (SqL.of (e _ _ h)));have q:=nG ds 0 i d h1;rw [OD] at q;exact ⟨aE hp _,_,q,⟨p,_,rfl,aA,⟨.int i,[x],rfl,rfl,x,[],rfl,Rep.mono (aE hp _) _ _ h2,rfl⟩⟩⟩
def kj:List Dv→Option (Rs (List Dv))
 | [.lst ds]=>a_ (.ok (io 0 ds))
 | _=>ck
theorem wR {X:Cx} {es:List F_} {k:Nat} {pt p pos:Pos} {l:F_} {ga:FnA} (hg:Gl X "enumerate") (hm:X.mg "enumerate"=ck) (ha:FA X [l] ga) (hs:i_ [l] X.env=[(d_,eval l X.env)]:=by kernel_rfl):FIG X (.Tuple es k pt) (.Call (.Name "enumerate" p) [l] [] pos) (fun ρ=>bnd (ga ρ) kj):=by
 constructor;intro f' s σ H R I h;obtain ⟨ρ,E,o⟩:=h;have key:OutA X H (ga ρ) fun vs H'=>∃ ds,Reps X.K H' ds vs∧OutG X H' (kj ds) R:=by
  match hf:ga ρ,o with
  | some (.exc c),o=>exact o
  | some (.ok ds),o=>exact fun vs H' e rs=>⟨ds,rs,OutG.mono e o⟩
 refine Call_ (iR I hg hm (show LJ "enumerate"=a_ (.type "enumerate") by decide +kernel) (LL (thn (ha.h pos f' s σ H _ I ⟨ρ,E,key⟩) fun us s1 ⟨vs,H1,I1,r1,ds,rs,q1⟩=>?_) hs rfl));unfold kj at q1;split at q1
 · rename_i xs;obtain ⟨v,rfl,rv⟩:=dZ rs;obtain ⟨a,ws,rfl,h1,h2⟩:=rv.lstE;obtain ⟨u,rfl,ru⟩:=eW r1;cases ru;obtain ⟨its,rv',pl,hz⟩:=I1.list (SqL.of h1);refine call_enumerate_list pl.isList fun h' he hit hsz kk=>?_;refine wpAny_pyIter_enum he ?_;have I2:Inv X f' σ H1 { s1 with heap:=h' }:=I1.kept (t':=s1.toks) kk;refine ⟨s1.heap.objs.size + 1,[s1.heap.objs.size + 1,s1.heap.objs.size],_,Ite X.K a,H1,rfl,I2,uh a _ _ (Nat.succ_ne_self _),⟨⟨_,he⟩,hit⟩,fun b hb=>?_,q1 _ H1 (.refl H1) (z8 h1 h2)⟩;have hb':b=s1.heap.objs.size + 1∨b=s1.heap.objs.size:=by simpa using hb
   rcases hb' with rfl | rfl
   · exact I1.fpOk (Qg _) (I1.hok.fresh (Qg _))
   · exact I1.fpOk (uk _) (I1.hok.fresh (uk _))
 · exact q1.elim
def Ht:List Nat→List V→L2.St→L2.St
 | i :: is,v :: vs,σ=>Ht is vs (σ.set i (a_ v))
 | _,_,σ=>σ
def Go:List Nat→List Dv→Ev→Ev
 | i :: is,d :: ds,ρ=>Go is ds (ρ.set i (a_ d))
 | _,_,ρ=>ρ
def z9 (is:List Nat):TGs:=fun vs σ H Q=>vs.length=is.length∧Q (Ht is vs σ) H
section
variable {X:Cx} {pos p1:Pos}
theorem qA {ts:List F_} {t t':TGs} (h:PGs X ts t) (w:∀ vs σ H Q,t' vs σ H Q→t vs σ H Q):PGs X ts t' :=
 fun f' s σ H vs us Q I r q=>h f' s σ H vs us Q I r (w vs σ H Q q)
theorem Du:PGs X [] (z9 []):=qA sU fun vs σ H Q ⟨l,q⟩=>by
 cases vs with
 | nil=>exact ⟨rfl,q⟩
 | cons v r=>cases l
theorem Aa (i:Nat) {x:Str} {is:List Nat} {es:List F_} (hN:X.N.Nodup) (hi:X.N[i]?=a_ x) (hx:Loc X.env.scope x) (hf:X.fn x=c_∨X.env.scope.names.lookup x=a_ .local) (h:PGs X es (z9 is))
 (hs:(K4 (.Name x p1 :: es) X.env).map (·.2)=MN (.Name x p1) X.env :: (K4 es X.env).map (·.2):=by kernel_rfl):PGs X (.Name x p1 :: es) (z9 (i :: is)) :=
 qA (lP (iz (i:=i) hN hi hx hf) h hs) fun vs σ H Q ⟨l,q⟩=>by
  cases vs with
  | nil=>cases l
  | cons v r=>exact ⟨v,r,rfl,(⟨Nat.succ.inj l,q⟩:z9 is r (σ.set i (a_ v)) H Q)⟩
theorem Envs.setAll {K:e_} {H:Hp}:∀ (is:List Nat) {ds:List Dv} {vs:List V} {σ:L2.St} {ρ:Ev},Envs K H σ ρ→Reps K H ds vs→Envs K H (Ht is vs σ) (Go is ds ρ)
 | [],_,_,_,_,E,_=>E
 | _ :: _,[],vs,_,_,E,r=>by cases (show vs=[] from r); exact E
 | i :: is,d :: ds,vs,σ,ρ,E,r=>by
  obtain ⟨v,us,rfl,h,t⟩:∃ v us,vs=v :: us∧Rep K H d v∧Reps K H ds us:=r;exact Envs.setAll is (E.set h) t
def Ka (is:List Nat) (ρ:Ev):Dv→Option Fl
 | .tup ds=>if ds.length=is.length then a_ (.nx (Go is ds ρ)) else ck
 | _=>ck
def oW (is:List Nat) (f:FnE):FnS:=fun ρ=>bO (f ρ) (Ka is ρ)
theorem Dw {es:List F_} {k:Nat} {e:F_} {fa:FnE} {is:List Nat} (hc:X.calm=c_) (h:PGs X es (z9 is)) (he:FE X e fa)
 (hn:(K4 es X.env).length=is.length:=by kernel_rfl) (hst:(K4 es X.env).findIdx? (·.1)=ck:=by kernel_rfl)
 (hs:Pb [.Tuple es k p1] e pos.line X.env=pure d_:=by kernel_rfl) (hw:Pc [.Tuple es k p1] e X.env=pure ck:=by kernel_rfl)
 (h1:(K4 [.Tuple es k p1] X.env).map (·.2)=[MN (.Tuple es k p1) X.env]:=by kernel_rfl):FS X (.Assign [.Tuple es k p1] e pos) (oW is fa) :=
 pc (sV he.h (yq (n:=is.length) hc h hn hst) hs hw h1) fun D σ H ρ E o=>⟨ρ,E,Out.bindS o fun d v H1 e r o1=>by
  cases d with
  | tup ds =>
   have o2:OutS X H1 (if ds.length=is.length then a_ (.nx (Go is ds ρ)) else ck) D:=o1;by_cases hl:ds.length=is.length
   · rw [if_pos hl] at o2;obtain ⟨a,xs,rfl,h1,h2⟩:=r.tupE;exact ⟨a,xs,rfl,SqT.of h1,h2.length.trans hl,h2.length.trans hl,o2 _ H1 (.refl H1) (Envs.setAll is (E.mono e) h2)⟩
   · rw [if_neg hl] at o2;exact o2.elim
  | _=>exact o1.elim⟩
end
theorem al {a b:FnS} {ρ ρ':Ev} (h:a ρ=a_ (.nx ρ')):ar a b ρ=b ρ':=by
 unfold ar; rw [h]; rfl
theorem kl {a b:FnS} {ρ:Ev} {d:Dv} (h:a ρ=a_ (.rt d)):ar a b ρ=a_ (.rt d):=by
 unfold ar; rw [h]; rfl
theorem bA {c:FnB} {f:FnS} {ρ:Ev} (h:c ρ=a_ (.ok d_)):aM c f (fun ρ=>a_ (.nx ρ)) ρ=a_ (.nx ρ):=by
 unfold aM; rw [h]; rfl
theorem aI {i:Nat} {v:FnE} {ρ ρ':Ev} {d:Dv} (h:v ρ=a_ (.ok d)) (e:ρ.set i (a_ d)=ρ'):aL i v ρ=a_ (.nx ρ'):=by
 unfold aL; rw [h,← e]; rfl
theorem wS {v:FnE} {ρ:Ev} {d:Dv} (h:v ρ=a_ (.ok d)):bi v ρ=a_ (.nx ρ):=by
 unfold bi; rw [h]; rfl
theorem di {v:FnE} {ρ:Ev} {d:Dv} (h:v ρ=a_ (.ok d)):ay v ρ=a_ (.rt d):=by
 unfold ay; rw [h]; rfl
theorem Ab {i:Nat} {js:List Nat} {src:FnA} {body:FnS} {ρ:Ev} {ds:List Dv} (h:src ρ=a_ (.ok ds)):wf i js src body ρ=k9 i js body ds ρ:=by
 unfold wf; rw [h]; rfl
theorem Hu {a b:FnB} {ρ:Ev} (h:a ρ=a_ (.ok d_)):bOr a b ρ=b ρ:=by unfold bOr; rw [h]; rfl
theorem Hv {a b:FnB} {ρ:Ev} (h:a ρ=a_ (.ok c_)):bOr a b ρ=a_ (.ok c_):=by unfold bOr; rw [h]; rfl
theorem qB {a b:FnB} {ρ:Ev} (h:a ρ=a_ (.ok c_)):bS a b ρ=b ρ:=by unfold bS; rw [h]; rfl
theorem qC {a b:FnB} {ρ:Ev} (h:a ρ=a_ (.ok d_)):bS a b ρ=a_ (.ok d_):=by unfold bS; rw [h]; rfl
theorem jv {a:FnB} {ρ:Ev} {k:Bool} (h:a ρ=a_ (.ok k)):br a ρ=a_ (.ok (!k)):=by unfold br; rw [h]; rfl
theorem bf {f:FnE} {ρ:Ev} {k:Bool} (h:f ρ=a_ (.ok (.bl k))):fB f ρ=a_ (.ok k):=by unfold fB; rw [h]; rfl
theorem aT {g:Dv→Dv→Option (Rs Dv)} {f h:FnE} {ρ:Ev} {x y:Dv} (hf:f ρ=a_ (.ok x)) (hh:h ρ=a_ (.ok y)):f2 g f h ρ=g x y:=by unfold f2; rw [hf,hh]; rfl
theorem ae {f:FnE} {g:FnA} {ρ:Ev} {x:Dv} {xs:List Dv} (h:f ρ=a_ (.ok x)) (t:g ρ=a_ (.ok xs)):aa f g ρ=a_ (.ok (x :: xs)):=by unfold aa; rw [h,t]; rfl
theorem aw {ρ:Ev}:ah ρ=a_ (.ok []):=rfl
theorem dH {F:List Dv→Option (Rs Dv)} {n:Nat} {g:FnA} {ρ:Ev} {ds:List Dv} {d:Dv} (h:g ρ=a_ (.ok ds)) (hl:ds.length=n) (hF:F ds=a_ (.ok d)):ai F n g ρ=a_ (.ok d):=by
 unfold ai; rw [h];show (if _ then _ else _)=_;rw [if_pos hl,hF]
theorem jw (F:List Dv→Option (Rs Dv)) {f:FnE} {ρ:Ev} {a d:Dv} (h:f ρ=a_ (.ok a)) (hF:F [a]=a_ (.ok d)):ai F 1 (aa f ah) ρ=a_ (.ok d):=dH (ae h aw) rfl hF
theorem fW (F:List Dv→Option (Rs Dv)) {f g:FnE} {ρ:Ev} {a b d:Dv} (h:f ρ=a_ (.ok a)) (h':g ρ=a_ (.ok b)) (hF:F [a,b]=a_ (.ok d)):ai F 2 (aa f (aa g ah)) ρ=a_ (.ok d):=dH (ae h (ae h' aw)) rfl hF
theorem gQ {g:FnA} {ρ:Ev} {ds:List Dv} (h:g ρ=a_ (.ok ds)) (hl:ds.length≤100000):bp g ρ=a_ (.ok (.tup ds)):=by
 unfold bp; rw [h];show (if _ then _ else _)=_;rw [if_pos hl]
theorem Dx {f g:FnE} {ρ:Ev} (h:f ρ=a_ (.ok (.bl d_))):cC f g ρ=a_ (.ok (.bl d_)):=by unfold cC; rw [h]; rfl
theorem Dy {f g:FnE} {ρ:Ev} (h:f ρ=a_ (.ok (.bl c_))):cC f g ρ=g ρ:=by unfold cC; rw [h]; rfl
theorem eY {g:List Dv→Option (Rs Dv)} {a:FnA} {ρ:Ev} {ds:List Dv} (h:a ρ=a_ (.ok ds)):fB1 g a ρ=g ds:=by unfold fB1; rw [h]; rfl
theorem Dz {c:FnB} {f g:FnE} {ρ:Ev} (h:c ρ=a_ (.ok c_)):fIf c f g ρ=f ρ:=by unfold fIf; rw [h]; rfl
theorem DA {c:FnB} {f g:FnE} {ρ:Ev} (h:c ρ=a_ (.ok d_)):fIf c f g ρ=g ρ:=by unfold fIf; rw [h]; rfl
theorem iC {g:FnA} {ρ:Ev} {ds:List Dv} (h:g ρ=a_ (.ok ds)) (hl:ds.length≤100000):bz g ρ=a_ (.ok (.lst ds)):=by
 unfold bz; rw [h];show (if _ then _ else _)=_;rw [if_pos hl]
theorem dI {n:Nat} {B:FnS} {ds:List Dv} {d:Dv} (h:B (ds.map a_ ++ u_ (n - ds.length) ck)=a_ (.rt d)):bt n B ds=a_ (.ok d):=by
 unfold bt; rw [h]
section
variable {prog:r_} {w:E_} {A:G_} {E:g_→h_→Prop}
end
section
variable {X:Cx} {pos p1:Pos}
end
structure Aft (X:Cx) (e:k_) (Ts:List k_) (h h':K5):Prop where
 keep:∀ b o,h.get? b=a_ o→b≠e→b ∉ Ts→b ∉ frs X.stack→h'.get? b=a_ o
 slot:∀ b o,h.get? b=a_ o→b∈frs X.stack→∃ sl,h'.get? b=a_ { o with slots:=sl }
section
variable {X:Cx} {f':List (k_×Obj)} {σ:L2.St} {H:Hp} {s:h_} {e:k_} {Ts:List k_} {h':K5}
theorem Aft.any {h:K5} (A:Aft X e Ts h h') {b:k_} {o:Obj} (q:h.get? b=a_ o) (n1:b≠e) (n2:b ∉ Ts):∃ sl,h'.get? b=a_ { o with slots:=sl }:=by
 by_cases hb:b∈frs X.stack
 · exact A.slot b o q hb
 · exact ⟨o.slots,A.keep b o q n1 n2 hb⟩
theorem Inv.aft (I:Inv X f' σ H s) (A:Aft X e Ts s.heap h') (hex:X.ex=[]) (hf:∀ b,b=e∨b∈Ts→H b=ck∧X.s₀.heap.get? b=ck∧(∀ p∈X.pn ++ f',p.1≠b)∧∃ o vs,s.heap.get? b=a_ o∧o.data=.fields vs) :
 Inv X f' σ H { s with heap:=h' }:=by
 have nE:∀ b,H b≠ck→b≠e∧b ∉ Ts:=fun b hb=>⟨fun z=>hb (hf b (.inl z)).1,fun z=>hb (hf b (.inr z)).1⟩;have n0:∀ b o,X.s₀.heap.get? b=a_ o→b≠e∧b ∉ Ts:=fun b o hb=>⟨fun z=>(by simp:(a_ o:Option Obj)≠ck) (hb.symm.trans (hf b (.inl z)).2.1),fun z=>(by simp:(a_ o:Option Obj)≠ck) (hb.symm.trans (hf b (.inr z)).2.1)⟩;have nx:∀ b,b ∉ X.ex:=fun b=>by rw [hex]; simp
 have nD:∀ b o,s.heap.get? b=a_ o→(∀ vs,o.data≠.fields vs)→b≠e∧b ∉ Ts:=fun b o hb hd =>
  have go:(b=e∨b∈Ts)→False:=fun z=>by
   obtain ⟨o',vs,q,d⟩:=(hf b z).2.2.2;rw [hb] at q;cases q;exact hd vs d
  ⟨fun z=>go (.inl z),fun z=>go (.inr z)⟩
 have nS:∀ b∈frs X.stack,H b=ck:=I.stkFree;have cellK:∀ c v,s.heap.IsCell c v→h'.IsCell c v:=fun c v ⟨o,ho,hd⟩=>by
  obtain ⟨n1,n2⟩:=nD c o ho fun vs q=>by rw [hd] at q; cases q
  obtain ⟨sl,q⟩:=A.any ho n1 n2;exact ⟨_,q,hd⟩
 refine ⟨I.ok,I.os,I.bare,⟨fun b o q n hb hx=>?_,fun b o q n hb hx=>?_,I.base.free,fun b o q hx=>?_,I.base.tups,I.base.frzs,I.base.tbls⟩,?_,fun x c q=>?_,I.free,I.freeC,fun p hp=>?_,fun a o q=>?_,I.len⟩
 · have h1:=I.base.keep b o q n hb hx;obtain ⟨n1,n2⟩:=n0 b o q;refine A.keep b o h1 n1 n2 fun z=>?_;rcases rl.mp (I.stkSub b z) with z | z
   · exact absurd z (K7 (H_ (t_ q) I.ok.above))
   · exact hb z
 · obtain ⟨sl,h1⟩:=I.base.slot b o q n hb hx;obtain ⟨n1,n2⟩:=n0 b o q;obtain ⟨sl',h2⟩:=A.any h1 n1 n2;exact ⟨sl',h2⟩
 · obtain ⟨o',h1⟩:=I.base.there b o q hx;obtain ⟨n1,n2⟩:=n0 b o q;obtain ⟨sl,h2⟩:=A.any h1 n1 n2;exact ⟨_,h2⟩
 · obtain ⟨m,⟨o,es,ep,ho,hd,r⟩,hl⟩:=I.loc;obtain ⟨n1,n2⟩:=nD _ o ho fun vs q=>by rw [hd] at q; cases q
   obtain ⟨sl,q⟩:=A.any ho n1 n2;refine ⟨m,⟨_,es,ep,q,hd,r⟩,fun i x v e1 e2 e3=>?_⟩;obtain ⟨u,ru,l⟩:=hl i x v e1 e2 e3;refine ⟨u,ru,?_⟩;rcases l with l | ⟨k,c,ec,z⟩
   · exact .inl l
   · exact .inr ⟨k,c,ec,cellK c _ z⟩
 · obtain ⟨v,z⟩:=I.cell x c q;exact ⟨v,cellK c v z⟩
 · obtain ⟨q,n,ne,nf,d⟩:=I.pin p hp;have n1:p.1≠e:=(hf e (.inl rfl)).2.2.1 p hp;have n2:p.1 ∉ Ts:=fun z=>(hf p.1 (.inr z)).2.2.1 p hp rfl;refine ⟨A.keep p.1 p.2 q n1 n2 fun z=>?_,n,ne,nf,d⟩;rcases rl.mp (I.stkSub _ z) with z | z
   · exact ne z
   · exact nf z
 · refine (I.hok a o q).stay (fun b u hb hu=>?_) (fun _ z=>z) fun _ _ z=>z;have hn:H b≠ck:=by
    rcases hb with rfl | hb
    · rw [q]; simp
    · rw [hb]; simp
   exact A.keep b u hu (nE b hn).1 (nE b hn).2 fun z=>hn (nS b z)
abbrev hid (X:Cx) (e:k_) (Ts:List k_) (h:K5):K5:=RJ h (e :: (Ts ++ frs X.stack))
theorem qD (I:Inv X f' σ H s) (k:(hid X e Ts s.heap).StaysIn h') (u:∀ b o,s.heap.get? b=a_ o→(∀ vs,o.data≠.fields vs)→∃ sl,h'.get? b=a_ { o with slots:=sl }):Aft X e Ts s.heap h' :=
 ⟨fun b o q n1 n2 n3=>k b o (Oy _ q (by simp only [rl,K8]; rintro (z | z | z); exact n1 z; exact n2 z; exact n3 z)),fun b o q hb=>by
  obtain ⟨_,o',q',d⟩:=I.stack.mem hb;rw [q] at q';cases q';exact u b o q d⟩
theorem lX (I:Inv X f' σ H s):s.heap.FunFrames (hid X e Ts s.heap) X.stack :=
 PySem.W.funFrames_hide I.stack fun env he a hfa=>pi _ (l_ _ (Mm.mpr ⟨env,he,hfa⟩))
end
section
variable {X:Cx} {f':List (k_×Obj)} {σ:L2.St} {H:Hp} {s:h_} {e:k_} {cls:g_}
theorem Fly.imp {N N':k_→Prop} {h:K5} (F:Fly N H e cls h) (k:∀ a,N a→N' a):Fly N' H e cls h:=by
 obtain ⟨h1,h2,oe,vs,a0,q1,q2,q3,q4,q5⟩:=F;refine ⟨h1,k _ h2,oe,vs,a0,q1,q2,q3,q4,?_⟩;rcases q5 with q5 | ⟨T,oT,ts,r1,r2,r3,r4,r5⟩
 · exact .inl q5
 · exact .inr ⟨T,oT,ts,r1,r2,r3,k _ r4,r5⟩
theorem yO {h':K5} {Ts:List k_} (I:Inv X f' σ H s) (hex:X.ex=[]) (he:H e=ck∧X.s₀.heap.get? e=ck) (hT:∀ T∈Ts,H T=ck∧X.s₀.heap.get? T=ck) (ff:h'.FunFrames (hid X e Ts s.heap) X.stack)
 {T:k_} {oT:Obj} {ts:Array g_} (hn:(hid X e Ts s.heap).get? T=ck) (ne:T≠e) (hg:h'.get? T=a_ oT) (hd:oT.data=.fields ts):H T=ck∧X.s₀.heap.get? T=ck:=by
 have nf:T ∉ frs X.stack:=fun z=>by
  obtain ⟨_,o,q,d⟩:=ff.mem z;rw [hg] at q;cases q;exact d ts hd
 have out:T∈Ts∨s.heap.get? T=ck:=by
  cases q:s.heap.get? T with
  | none=>exact .inr rfl
  | some o =>
   by_cases hm:T∈Ts
   · exact .inl hm
   · have:=Oy (e :: (Ts ++ frs X.stack)) q (by simp only [rl,K8]; rintro (z | z | z); exact ne z; exact hm z; exact nf z);rw [hn] at this;cases this
 rcases out with hm | hm
 · exact hT T hm
 · constructor
   · cases q:H T with
     | none=>rfl
     | some u =>
      have hk:=I.hok T u q;exfalso;have:∃ o,s.heap.get? T=a_ o:=by
       clear q
       induction u with
       | lst xs=>obtain ⟨_,_,_,_,z⟩:=hk; exact ⟨_,z⟩
       | tup xs=>obtain ⟨_,_,_,o,z,_⟩:=hk; exact ⟨_,z⟩
       | dK kvs=>obtain ⟨_,_,_,_,o,_,_,z,_⟩:=hk; exact ⟨_,z⟩
       | dT kvs=>obtain ⟨_,_,_,_,o,_,_,z,_⟩:=hk; exact ⟨_,z⟩
       | set S n=>obtain ⟨o,_,_,_,z,_⟩:=hk; exact ⟨_,z⟩
       | ins C dx fs=>obtain ⟨_,_,_,z,_⟩:=hk; exact ⟨_,z⟩
       | own y=>obtain ⟨_,z⟩:=hk; exact ⟨_,z⟩
       | xd fs=>obtain ⟨_,⟨_,_,_,z,_⟩,_⟩:=hk; exact ⟨_,z⟩
       | rng lo hi=>obtain ⟨_,_,_,z⟩:=hk; exact ⟨_,z⟩
       | frz ob u ih=>obtain ⟨z,_⟩:=hk; exact ⟨_,z⟩
       | tbl ps=>obtain ⟨_,z,_⟩:=hk; exact ⟨_,z⟩
       | met f y=>exact ⟨_,(show s.heap.get? T=a_ _ from hk)⟩
       | ext φ=>obtain ⟨_,⟨_,z⟩,_⟩:=hk; exact ⟨_,z⟩
      obtain ⟨o,z⟩:=this;rw [hm] at z;cases z
   · cases q:X.s₀.heap.get? T with
     | none=>rfl
     | some o =>
      obtain ⟨o',z⟩:=I.base.there T o q (by rw [hex]; simp);rw [hm] at z;cases z
theorem ui (I:Inv X f' σ H s) (hex:X.ex=[]) (hst:X.stack=X.env :: X.outer) (hfm:X.env.frame=a_ X.env.locals) (F:Fly (fun a=>X.s₀.heap.get? a=ck) H e cls s.heap)
 {Q:Unit→h_→Prop} {E:g_→h_→Prop} (k:∀ h' Ts,Fly (fun a=>X.s₀.heap.get? a=ck) H e cls h'→Aft X e Ts s.heap h'→(∀ b,b=e∨b∈Ts→H b=ck∧X.s₀.heap.get? b=ck∧∃ o vs,s.heap.get? b=a_ o∧o.data=.fields vs)→Q () { s with heap:=h' }) :
 w_ (z_ X.prog X.w) X.A (leaving X.env (.ref e)) Q E s:=by
 obtain ⟨f1,f2,oe,vs,a0,q1,q2,q3,q4,q5⟩:=F;have hfr:X.A.frames=a_ (X.env :: X.outer):=hst ▸ I.ok.frames;subst q2;rcases q5 with q5 | ⟨T,oT,ts,r1,r2,r3,r4,r5,r6,r7⟩
 · have b3:s.heap.FunFrames (hid X e [] s.heap) (X.env :: X.outer):=hst ▸ lX I;refine wpAny_leaving_firstW (base:=hid X e [] s.heap) hfr b3 hfm q1 (fun b o z=>M5 _ z) (L8 _ (o_ ..)) q3 q5 q4 fun h' hL=>?_;obtain ⟨k1,k2,⟨oe',vs',T,oT,ts,t1,⟨t2,t3⟩,t4,t5,t6,t7,t8,t9,t10⟩,k4⟩:=hL;have k2':h'.FunFrames (hid X e [] s.heap) X.stack:=hst ▸ k2;have nT:=yO I hex ⟨f1,f2⟩ (fun _ z=>absurd z (by simp)) k2' t6 t7 t8 t9;refine k h' [] ⟨f1,f2,oe',vs',a0,t1,t2,t4,t3,.inr ⟨T,oT,ts,t5,t7,nT.1,nT.2,t8,t9,t10⟩⟩ (qD I k1 k4) fun b hb=>?_;rcases hb with rfl | hb
   · exact ⟨f1,f2,oe,vs,q1,q3⟩
   · cases hb
 · have b3:s.heap.FunFrames (hid X e [T] s.heap) (X.env :: X.outer):=hst ▸ lX I;have ht:s.heap.TracedW (hid X e [T] s.heap) e oe.cls a0:=⟨oe,vs,T,oT,ts,q1,⟨rfl,q4⟩,q3,r1,L8 _ (by simp),r2,r5,r6,r7⟩;refine wpAny_leaving_nextW (base:=hid X e [T] s.heap) hfr b3 hfm ht (fun b o z=>M5 _ z) (L8 _ (o_ ..)) fun h' hL=>?_;obtain ⟨k1,k2,⟨oe',vs',T',oT',ts',t1,⟨t2,t3⟩,t4,t5,t6,t7,t8,t9,t10⟩,k4⟩:=hL;have k2':h'.FunFrames (hid X e [T] s.heap) X.stack:=hst ▸ k2;have nT:=yO I hex ⟨f1,f2⟩ (fun T0 z=>by simp at z; subst z; exact ⟨r3,r4⟩) k2' t6 t7 t8 t9;refine k h' [T] ⟨f1,f2,oe',vs',a0,t1,t2,t4,t3,.inr ⟨T',oT',ts',t5,t7,nT.1,nT.2,t8,t9,t10⟩⟩ (qD I k1 k4) fun b hb=>?_;rcases hb with rfl | hb
   · exact ⟨f1,f2,oe,vs,q1,q3⟩
   · simp at hb;subst hb;exact ⟨r3,r4,oT,ts,r5,r6⟩
end
def CXE (P:r_) (w:E_):CXT:=fun outer H s E ev s'=>∃ e cls H',ev=.ref e∧s'.os=s.os∧OC s'.gens∧Un (frs outer) [] H H' s.heap s'.heap∧HOk P w H' s'.heap∧Fly (fun a=>s.heap.get? a=ck) H' e cls s'.heap∧E cls ck H'
def spE (K:e_) (F:List Dv→Option (Rs Dv)) (n:Nat):Sp:=fun vs H Q E=>∃ ds,Reps K H ds vs∧ds.length=n∧match F ds with
 | some (.ok d)=>∀ v H',Same H H'→Rep K H' d v→Q v H'
 | some (.exc c)=>∀ C H',Mw K C_ (xnm c)=a_ (a_ (.ref C))→Same H H'→E (.ref C) ck H'
 | none=>False
def EX (X:Cx):XK:=fun cv _ H1=>∃ c C,cv=.ref C∧Mw X.K C_ (xnm c)=a_ (a_ (.ref C))∧XW X c H1
theorem Hw {X:Cx} (hex:X.ex=[]):ql (CXE X.prog X.w) X (EX X):=by
 intro f' σ H s ev s' I ⟨e,cls,H',he,os,bare,un,hok,F,c,C,hcv,hC,hx⟩;have I':Inv X f' σ H' s':=I.call' (ch:=[]) os un hok bare fun b z=>absurd z (by simp);refine hx f' σ H' s' ev (fun _ _ z=>z) I' ⟨e,C,he,hC,hcv ▸ F.imp fun a ha=>⟨?_,fun p hp z=>?_⟩⟩
 · cases q:X.s₀.heap.get? a with
   | none=>rfl
   | some o =>
    obtain ⟨o',z⟩:=I.base.there a o q (by rw [hex]; simp);rw [ha] at z;cases z
 · have:=(I.pin p (y_ _ hp)).1;rw [z,ha] at this;cases this
def ao (F:List Dv→Option (Rs Dv)) (n:Nat) (g:FnA):FnE:=fun ρ=>bnd (g ρ) fun ds=>if ds.length=n then F ds else ck
def Gp (P:r_) (w:E_) (K:e_) (mg:Str→Option g_) (base:K5) (x:Str) (k:Nat) (ps:List Str) (F:List Dv→Option (Rs Dv)):Prop :=
 ∃ f fd,FnOk P w K mg base (CXE P w) k f fd ps (spE K F ps.length)∧mg x=a_ (.ref f)∧LZ K (.ref f)=c_∧Binds K fd ps []
section
variable {X:Cx} {k n:Nat} {ps:List Str} {x:Str} {p pos:Pos} {e:F_} {es:List F_} {F:List Dv→Option (Rs Dv)} {g:FnA}
theorem wT {k':Nat} (k:Nat) (ps:List Str) (F:List Dv→Option (Rs Dv)) (h:Gp X.prog X.w X.K X.mg X.base x k ps F) (hr:Room k' X.A) (hk:k≤k') (hex:X.ex=[]) (hg:Gl X x) (ha:FA X (e :: es) g) (hn:n=ps.length:=by kernel_rfl) (hdb:(x == ("__debug__":Str))=d_:=by kernel_rfl)
 (he:i_ (e :: es) X.env=(d_,eval e X.env) :: i_ es X.env:=by kernel_rfl) (hpl:(Lr pos (i_ es X.env)).any (·.1)=d_:=by kernel_rfl) :
 FE X (.Call (.Name x p) (e :: es) [] pos) (ao F n g):=by
 subst hn;obtain ⟨f,fd,G,hm,hkp,hb⟩:=h;refine cY (tH (G.mono hk) hr hg hm hkp hb .nil (Hw hex) ha.h hdb he hpl) fun σ H Q ρ E o=>⟨ρ,E,OutA.bind o fun ds vs H' e rs o1=>?_⟩;show spE X.K F ps.length (vs ++ []) H' Q (EX X);rw [Nd];by_cases hl:ds.length=ps.length
 · rw [if_pos hl] at o1;refine ⟨ds,rs,hl,?_⟩
   match hF:F ds with
   | none=>rw [hF] at o1; exact o1.elim
   | some (.ok d)=>rw [hF] at o1; exact o1
   | some (.exc c)=>rw [hF] at o1; exact fun C H1 hC e1=>⟨c,C,rfl,hC,XW.mono o1 e1⟩
 · rw [if_neg hl] at o1;exact o1.elim
end
def fT (m:Nat) (fb:FnS):List Dv→Option (Rs Dv):=fun ds=>match fb (ds.map a_ ++ u_ (m - ds.length) ck) with
 | some (.nx _)=>a_ (.ok .non)
 | some (.rt d)=>a_ (.ok d)
 | some (.exc c)=>a_ (.exc c)
 | none=>ck
theorem Hx {P:r_} {w:E_} {K:e_} {mg:Str→Option g_} {base:K5} {N:List Str} {qual:Str} {scope:Me} {f:k_} {cd:g_} {A:G_} {outer:List Env} {s:h_} {H:Hp} {E:XK} {c:Nat}
 (q:∀ C H',Mw K C_ (xnm c)=a_ (a_ (.ref C))→Same H H'→E (.ref C) ck H'):XW (qm (CXE P w) P w K mg base N qual scope f cd A outer s H E) c H:=by
 intro f' σ H' s1 ev e1 I ⟨e,C,he,hC,F⟩;subst he;have F':Fly (fun a=>s.heap.get? a=ck) H' e (.ref C) s1.heap:=F.imp fun a ha=>ha.1;refine ui I rfl rfl rfl F' fun h' Ts F2 A2 hf=>?_;have I2:=Inv.aft (f':=[]) (I.pins_of (pins':=[]) fun p hp=>nomatch hp) A2 rfl fun b hb=>⟨(hf b hb).1,(hf b hb).2.1,fun p hp=>absurd (show p∈([]:List (k_×Obj)) from hp) (by simp),(hf b hb).2.2⟩;exact ⟨e,.ref C,H',rfl,I.os,I.bare,I2.base,I2.hok,F2,q C H' hC e1⟩
theorem DB {k:Nat} {f:k_} {fd:LK} {x:Str} {P:r_} {w:E_} {K:e_} {mg:Str→Option g_} {base:K5} {qual:Str} {st:LY} {F:List Dv→Option (Rs Dv)} {n:Nat} (N ps:List Str) (fb:FnS) (hF:F=fT N.length fb) (hn:n=ps.length)
 (Fn:Fun K x qual st f fd) (S:gJ N ps (aF st))
 (hb:∀ (cdv:g_) (A:G_) (outer:List Env) (s:h_) (H:Hp) (E:XK),Room k (A.deeper (NH qual (aF st) s.heap.objs.size f cdv))→FSs (qm (CXE P w) P w K mg base N qual (aF st) f cdv A outer s H E) (dG st) fb) :
 FnOk P w K mg base (CXE P w) (k + 1) f fd ps (spE K F n):=by
 subst hF hn;obtain ⟨oc,od,kV,doc,pm,an,cdv,ct,osl,rfl,lk,hcd⟩:=Fn.ex;refine Cg lk hcd S (fun vs H Q E h=>?_) fun A outer s H vs Q E hr h=>?_
 · obtain ⟨ds,r,hl,_⟩:=h;rw [r.length,hl]
 · obtain ⟨ds,r,hl,q⟩:=h;refine ⟨_,(hb cdv A outer s H E hr).h,ds.map a_ ++ u_ (N.length - ds.length) ck,jr r,?_⟩;unfold fT at q
   match hf:fb (ds.map a_ ++ u_ (N.length - ds.length) ck) with
   | none=>rw [hf] at q; exact q.elim
   | some (.exc c)=>rw [hf] at q; exact Hx q
   | some (.rt d)=>rw [hf] at q; exact fun v H' e r'=>q v H' e r'
   | some (.nx ρ)=>rw [hf] at q; exact fun σ' H' e _=>q .non H' e rfl
theorem lY {P:r_} {w:E_} {H:Hp} {h:K5} (ok:HOk P w H h) {a:k_} {u:HO} (q:H a=a_ u):∃ o,h.get? a=a_ o:=by
 have hk:=ok a u q;clear q
 induction u with
 | lst xs=>obtain ⟨_,_,_,_,z⟩:=hk; exact ⟨_,z⟩
 | tup xs=>obtain ⟨_,_,_,o,z,_⟩:=hk; exact ⟨_,z⟩
 | dK kvs=>obtain ⟨_,_,_,_,o,_,_,z,_⟩:=hk; exact ⟨_,z⟩
 | dT kvs=>obtain ⟨_,_,_,_,o,_,_,z,_⟩:=hk; exact ⟨_,z⟩
 | set S n=>obtain ⟨o,_,_,_,z,_⟩:=hk; exact ⟨_,z⟩
 | ins C dx fs=>obtain ⟨_,_,_,z,_⟩:=hk; exact ⟨_,z⟩
 | own y=>obtain ⟨_,z⟩:=hk; exact ⟨_,z⟩
 | xd fs=>obtain ⟨_,⟨_,_,_,z,_⟩,_⟩:=hk; exact ⟨_,z⟩
 | rng lo hi=>obtain ⟨_,_,_,z⟩:=hk; exact ⟨_,z⟩
 | frz ob u ih=>obtain ⟨z,_⟩:=hk; exact ⟨_,z⟩
 | tbl ps=>obtain ⟨_,z,_⟩:=hk; exact ⟨_,z⟩
 | met f y=>exact ⟨_,(show h.get? a=a_ _ from hk)⟩
 | ext φ=>obtain ⟨_,⟨_,z⟩,_⟩:=hk; exact ⟨_,z⟩
theorem uj {P:r_} {w:E_} {H:Hp} {h:K5} (ok:HOk P w H h) {a:k_} (n:h.get? a=ck):H a=ck:=by
 cases q:H a with
 | none=>rfl
 | some u =>
  obtain ⟨o,z⟩:=lY ok q;rw [n] at z;cases z
theorem ul {K:e_} {h:K5} {mg:Str→Option g_} {x:Str} {C:k_} {bmB:List g_} {newId:String} (X:K.In h) (hb:mg x=a_ (.ref C)) (q:QD K C bmB newId=c_):OwnCls x C bmB newId mg h:=by
 constructor
 · exact hb
 unfold QD at q;split at q
 · rename_i dd cd sl look;split at q
   · rename_i C2 rest s0 s1 s2 s3 nid s5 em es;simp only [n_,beq_iff_eq,Rl] at q;have e1:=q.1.1.1.1.1;have e2:=q.1.1.1.1.2;have e3:=q.1.1.1.2;have e4:=q.1.1.2;have e5:=q.1.2;have e6:=q.2;clear q;subst e1 e2;obtain ⟨f1,f2,f3,f4,f5,f6,f7,f8,f9,f10,f11⟩:=cd;dsimp only at em e3 e5 e6;subst em e3;obtain ⟨l⟩:=sl;have e7:l=[s0,s1,s2,s3,a_ (.builtin nid),s5]:=es;subst e7;refine ⟨rest,f4,f1,f5,f2,f6,f7,f8,f9,f10,dd,s0,s1,s2,s3,s5,_,X _ _ look,.of_isNs (PySem.W.isNs_of_in X e5),?_,PySem.W.tail_of_in X e4⟩;exact PySem.W.nsMap_none_of_in X e5 e6
   · cases q
 · cases q
abbrev bmV:List g_:=[.type "ValueError",.type "Exception",.type "BaseException",.type "object"]
structure XC (K:e_) (c:Nat) (C:k_):Prop where
 nm:Mw K C_ (xnm c)=a_ (a_ (.ref C))
 ex:QD K C bmV "ValueError.__new__"=c_
def aG (c:Nat) (f:FnE):FnS:=fun ρ=>bO (f ρ) fun _=>a_ (.exc c)
section
variable {X:Cx} {a:F_} {fa:FnE} {np cpos pos:Pos} {x:Str} {C:k_}
theorem wU (c:Nat) (K:XC X.K c C) (hx:xnm c=x) (hm:X.mg x=a_ (.ref C)) (hex:X.ex=[]) (hc:X.calm=c_) (hg:Gl X x) (ha:FE X a fa)
 (he:i_ [a] X.env=(d_,eval a X.env) :: i_ [] X.env:=by kernel_rfl) (hdb:(x == ("__debug__":Str))=d_:=by kernel_rfl) :
 FS X (.Raise (a_ (.Call (.Name x np) [a] [] cpos)) ck pos) (aG c fa):=by
 subst hx;constructor;intro f' s σ H D I ⟨ρ,E,o⟩;obtain ⟨tl,N,nm,q,bs,hdct,sn,sub,ab,col,dd,k0,k1,k2,k3,k5,mN,hC,hN,hni,T⟩:=(ul I.ok.mod.kin hm K.ex).obj;refine wpAny_Raise_call_subT (C:=C) (nm:=nm) (q:=q) (N:=N) (bs:=bs) (bm:=tl) (hdct:=hdct) (sn:=sn) (sub:=sub) (ab:=ab) (col:=col) (dd:=dd) (k0:=k0) (k1:=k1) (k2:=k2) (k3:=k3) (k5:=k5) Nm (mN:=mN)
  (T.hasType Nm.hasBase) (I.ok.hd hc) (by rw [he]; rfl) hni (ke I hg hm ⟨rfl,?_⟩ hdb)
 have hp:=(pk ha tU he).h cpos f' s σ H (fun vs H1=>vs.length=1∧XW X c H1) I ⟨ρ,E,?_⟩
 · rw [he] at hp ⊢;refine Qd (thn hp fun us s2 ⟨vs,H1,I1,rv,hl,hw⟩=>⟨rfl,?_,I1.bk _ _ hC,hN.keeps I1.bk,T.keeps I1.bk,fun h' e me=>?_⟩)
   · rw [← rv.length,hl]; decide
   · have I2:Inv X f' σ H1 { s2 with heap:=h' }:=I1.kept (t':=s2.toks) me.keeps;obtain ⟨t,t1,t2,t3⟩:=me.there;refine hw f' σ H1 _ (.ref e) (fun _ _ z=>z) I2 ⟨e,C,rfl,K.nm,uj I1.hok me.new,⟨?_,fun p hp z=>?_⟩,_,_,.ref t,t1,rfl,rfl,rfl,.inl rfl⟩
     · cases z:X.s₀.heap.get? e with
       | none=>rfl
       | some o2 =>
        obtain ⟨o3,z3⟩:=I1.base.there e o2 z (by rw [hex]; simp);rw [me.new] at z3;cases z3
     · have z2:=(I1.pin p (y_ _ hp)).1;rw [z,me.new] at z2;cases z2
 · show OutA X H (aa fa ah ρ) _;unfold aa;unfold aG at o
   match hf:fa ρ with
   | none=>rw [hf] at o; exact o.elim
   | some (.exc c2)=>rw [hf] at o; exact o
   | some (.ok d)=>rw [hf] at o; exact fun vs H1 e1 r=>⟨r.length,XW.mono o e1⟩
end
end FD
namespace FD
open PySem PySem.Spec PyProof.Rows L2 PySem.W Builtin.Getset_descriptor
theorem um:plainId "BaseException.__getattribute__"=c_:=by decide +kernel
theorem qE:builtinKind "BaseException.__getattribute__"=a_ .slot:=by decide +kernel
theorem uo:splitId "BaseException.__getattribute__"=a_ ("BaseException","__getattribute__"):=by decide +kernel
theorem wV (self:g_):bindSpecial (.builtin "BaseException.__getattribute__") self=pure (.builtin "BaseException.__getattribute__",[self]):=by
 have h1:withoutEnding? "BaseException.__getattribute__" "#opaque"=ck:=by decide +kernel
 have h2:withoutEnding? "BaseException.__getattribute__" "#data"=ck:=by decide +kernel
 simp only [bindSpecial,typeOf,builtinType,h1,h2,qE]; rfl
section
variable {prog:r_} {w:E_} {A:G_} {E:g_→h_→Prop} {s:h_} {K:e_} {x C:k_} {ox:Obj}
structure XI (K:e_) (C:k_):Prop where
 ga:findIn K (.ref C) "__getattribute__"=a_ (a_ (.builtin "BaseException.__getattribute__"))
 gt:findIn K (.ref C) "__getattr__"=a_ ck
 cl:findIn K (.ref C) "__class__"=a_ (a_ (.builtin "object.__class__"))
 sp:specialIn K (.builtin "object.__class__") "__get__"=a_ (a_ (.builtin "getset_descriptor.__get__"))
 tk:takesIn K (.builtin "object.__class__")=a_ c_
 ob:mroIn K C (.type "object")=a_ c_
 be:mroIn K C (.type "BaseException")=a_ c_
theorem DC (hx:s.heap.get? x=a_ ox) (hc:ox.cls=.ref C) {M:QF}:Looks M s.heap (typeOf (.ref x)) (.ref C):=hc ▸ (Looks.ld hx).andThen .now
theorem wW (X:K.In s.heap) (k:XI K C) {M:QF}:Looks M s.heap (Pm (.ref x) (.ref C) "__class__") (.bind (.builtin "getset_descriptor.__get__") (.builtin "object.__class__")):=by
 have L1:=Q5 (M:=M) X k.cl;have L2:=looks_specialIn (M:=M) X k.sp;have L3:=looks_takesIn (M:=M) X k.tk;intro A2 Q2 E2 s2 k2 q2;unfold Pm;refine f_ (L1 A2 _ E2 s2 k2 (f_ (L2 A2 _ E2 s2 k2 (f_ ?_))));unfold QQ;refine f_ (L3 A2 _ E2 s2 k2 ?_);rw [if_pos rfl];exact m_ (f_ (Ps (m_ q2)))
theorem DD {R:QL→h_→Prop} {tp:g_} (X:K.In s.heap) (hx:s.heap.get? x=a_ ox) (hc:ox.cls=.ref C) (hm:mroIn K C (.type "object")=a_ c_)
 (h:R (.ok (.ret (.ref C))) s):NV (z_ prog w) A (.call (.builtin "getset_descriptor.__get__") ⟨[.builtin "object.__class__",.ref x,tp],[]⟩) R s:=by
 have L0:=DC (M:=z_ prog w) hx hc;have L1:=looks_mroIn (M:=z_ prog w) X hm;obtain ⟨hh,g,dr,t,os⟩:=s;refine Ol KF.slot_gs.plain KF.entry_gs (KF.slot_gs.check _ _ _ _ _ _ _ _ KF.type_class (KF.args_gs _ _ _) ?_);unfold Oi.«getset_descriptor.__get__» descrGet;rw [dga_obj];refine f_ (m_ ?_);unfold descrGetter descrCheckInstance descrNameAndClass isInstance;simp only [KF.owner_class]
 repeat lk
 refine ⟨QO _ (by decide +kernel),Os KF.entry_class ?_⟩;unfold Oi.«object.__class__» shownTypeOf
 repeat lk
 exact h
theorem uq {Q:Option g_→h_→Prop} (X:K.In s.heap) (hx:s.heap.get? x=a_ ox) (hc:ox.cls=.ref C) (k:XI K C)
 (h:Q (a_ (.ref C)) { s with toks:=s.toks + 1 }):w_ (z_ prog w) A (getAttr? (.ref x) "__class__") Q E s:=by
 have L0:=DC (M:=z_ prog w) hx hc;have L2:=wW (M:=z_ prog w) (x:=x) X k;obtain ⟨hh,g,d,t,os⟩:=s;have L1:=Q5 (M:=z_ prog w) X k.ga;have L3:=Q5 (M:=z_ prog w) X k.gt;have LB:=looks_mroIn (M:=z_ prog w) X k.be;unfold getAttr? getAttrBy? getAttrBy;refine f_ (wpAny_mkText (f_ (O_ (LH (f_ (L0.at (f_ (L1.at ?_))))))));have hne:(L_ "BaseException.__getattribute__" == L_ "object.__getattribute__")=d_:=by decide +kernel
 dsimp only;rw [hne,OW,if_neg p_];unfold getAttrByItsOwn;refine f_ ?_;show w_ _ _ (typeLookup (.ref C) "__getattr__") _ _ _;refine L3.at ?_;refine f_ (O_ (LH ?_));unfold callGetattribute boundAndCalled;rw [if_neg (by decide)];rw [wV];refine f_ (m_ ?_);refine Pt (Ol um F.entry_bexc_ga ?_);simp only [checkBuiltinCall,qE,uo];have ha:=F.args_bexc_ga (.ref x) (.str "__class__" t);have LI:Looks (z_ prog w) hh (isInstance (.ref x) (.type "BaseException")) c_:=L0.andThen LB;show w_ _ _ (isInstance (.ref x) (.type "BaseException") >>= _) _ _ _;refine f_ (LI.at ?_);simp only [NE,KZ,if_false];have hz:hh.get? x=a_ ox∧True:=⟨hx,trivial⟩;clear hx
 repeat (any_goals (first | assumption | wp_step))
 have hx':=hz.1;refine OZ hx' ?_;refine m_ ?_;rw [hc];refine f_ (L2.at ?_);dsimp only;unfold Sc;dsimp only;refine f_ (LH (Pt (DD (s:=⟨hh,g,d,t + 1,os⟩) (ox:=ox) X hx' hc k.ob ?_)));refine m_ ?_;show w_ _ _ (handedOut (.ref C)) _ _ _;rw [handedOut_of rfl];exact m_ (m_ h)
theorem qF {K:e_} {C:k_} {b:g_} {r:Bool} (h:mroIn K C b=a_ r):∃ cd,clsIn K C=a_ cd:=by
 unfold mroIn at h;cases q:clsIn K C with
 | none=>rw [q] at h; cases h
 | some cd=>exact ⟨cd,rfl⟩
theorem wX {K:e_} {x C:k_} {ox:Obj} (k:XI K C) (hc:ox.cls=.ref C):KitX K (.ref x) (.ref C) (fun h=>h.get? x=a_ ox) where
 ty:=fun M h _ q=>hc ▸ (Looks.ld q).andThen .now
 it:=fun _ _ X _=>by
  obtain ⟨cd,hc⟩:=qF k.ob;unfold clsIn at hc;split at hc
  · rename_i look;intro A2 Q2 E2 s2 k2 q2;unfold isType loadHead;exact f_ (wpAny_loadPart (k2 _ _ (X _ _ look)) (m_ q2))
  · cases hc
 ne:=fun h tp dd its n sl X htp=>by
  obtain ⟨cd,hc⟩:=qF k.ob;cases z:(x_ C == x_ tp) with
  | false=>rfl
  | true =>
   have e:=Value.ref.inj (beq_iff_eq.mp z);subst e;unfold clsIn at hc;split at hc
   · rename_i look;cases (X _ _ look).symm.trans htp
   · cases hc
 ca:=fun X q z=>uq X q hc k z
end
def isX (tb:Nat→Option Bool):Dv→Option (Rs Dv)
 | .exn c=>match tb c with
  | some b=>a_ (.ok (.bl b))
  | none=>ck
 | _=>ck
def XT (K:e_) (tb:Nat→Option Bool) (T:g_):Prop:=∀ c b,tb c=a_ b→∀ C,nsIn K C_ (xnm c)=a_ (a_ (.ref C))→XI K C∧kitOne K (.ref C) T=a_ b
section
variable {X:Cx} {p pos pT:Pos} {a:F_} {fa:FnE} {T:Str}
theorem qG {tv:V} {tval:g_} (rt:∀ u,RelV tv u→u=tval) {tb:Nat→Option Bool} (k:XT X.K tb tval):CallR X (.builtin "isinstance") (fun xs H Q=>∃ v c b,xs=[v,tv]∧Rep X.K H (.exn c) v∧tb c=a_ b∧Q (.bl b) H):=by
 intro f' s σ H xs us Q I r h;obtain ⟨v,c,b,rfl,rv,hb,q⟩:=h;obtain ⟨a,o,u,C,rfl,hH,hc,hn⟩:=rv.exnE;obtain ⟨u1,u2,rfl,r1,r2⟩:=ww r;cases (show u1=x_ a from r1);cases (rt u2 r2);obtain ⟨xi,kk⟩:=k c b hb C hn;have hg:s.heap.get? a=a_ o:=(I.hok a _ hH).1;exact kia_one (wX xi hc) I.kIn hg kk (by intro z; cases z) fun tk=>⟨.bl b,H,I.tok tk,rfl,q⟩
theorem DE {tb:Nat→Option Bool} {CT:k_} (k:XT X.K tb (.ref CT)) (hT:X.mg T=a_ (.ref CT)) (hgT:Gl X T) (hdT:(T == ("__debug__":Str))=d_) (hg:Gl X "isinstance") (hm:X.mg "isinstance"=ck) (ha:FE X a fa)
 (hs1:i_ [a,.Name T pT] X.env=(d_,eval a X.env) :: i_ [.Name T pT] X.env:=by kernel_rfl) (hs2:i_ [.Name T pT] X.env=(d_,eval (.Name T pT) X.env) :: i_ [] X.env:=by kernel_rfl)
 (hpl:(Lr pos (i_ [.Name T pT] X.env)).any (·.1)=d_:=by kernel_rfl) :
 FE X (.Call (.Name "isinstance" p) [a,.Name T pT] [] pos) (f1 (isX tb) fa) :=
 cY (eM (qG (tv:=.ref CT) (fun u z=>z) k) hg hm Na (iA ha.h (iA (o4 (v:=.ref CT) hgT hT rfl hdT) qk hs2) hs1) (by decide) (by decide) hs1 hpl) fun σ H Q ρ E o=>⟨ρ,E,Out.bind o fun d v H1 e1 r o1=>by
  show ∃ v2 c b,[v,V.ref CT]=[v2,V.ref CT]∧_;cases d with
  | exn c =>
   have o2:Out X H1 (match tb c with | some b=>a_ (.ok (.bl b)) | none=>ck) Q:=o1
   cases q:tb c with
   | none=>rw [q] at o2; exact o2.elim
   | some b=>rw [q] at o2; exact ⟨v,c,b,rfl,r,q,o2 _ H1 (.refl H1) rfl⟩
  | _=>exact o1.elim⟩
theorem DF {T:String} {tb:Nat→Option Bool} (k:XT X.K tb (.type T)) (hT:LJ (b_ T)=a_ (.type T)) (hn:b_ T≠"__name__") (hdT:(b_ T == ("__debug__":Str))=d_)
 (hg:Gl X "isinstance") (hm:X.mg "isinstance"=ck) (hgT:Gl X (b_ T)) (hmT:X.mg (b_ T)=ck) (ha:FE X a fa)
 (hs1:i_ [a,.Name (b_ T) pT] X.env=(d_,eval a X.env) :: i_ [.Name (b_ T) pT] X.env:=by kernel_rfl) (hs2:i_ [.Name (b_ T) pT] X.env=(d_,eval (.Name (b_ T) pT) X.env) :: i_ [] X.env:=by kernel_rfl)
 (hpl:(Lr pos (i_ [.Name (b_ T) pT] X.env)).any (·.1)=d_:=by kernel_rfl) :
 FE X (.Call (.Name "isinstance" p) [a,.Name (b_ T) pT] [] pos) (f1 (isX tb) fa) :=
 cY (eM (qG (tv:=.ty T) (fun u z=>z) k) hg hm Na (iA ha.h (iA (sO (v:=.ty T) hgT hmT hT rfl hn hdT) qk hs2) hs1) (by decide) (by decide) hs1 hpl) fun σ H Q ρ E o=>⟨ρ,E,Out.bind o fun d v H1 e1 r o1=>by
  show ∃ v2 c b,[v,V.ty T]=[v2,V.ty T]∧_;cases d with
  | exn c =>
   have o2:Out X H1 (match tb c with | some b=>a_ (.ok (.bl b)) | none=>ck) Q:=o1
   cases q:tb c with
   | none=>rw [q] at o2; exact o2.elim
   | some b=>rw [q] at o2; exact ⟨v,c,b,rfl,r,q,o2 _ H1 (.refl H1) rfl⟩
  | _=>exact o1.elim⟩
end
end FD
namespace FD
open PySem PySem.Spec PyProof.Rows L2 PySem.W
section
variable {X:Cx} {f':List (k_×Obj)} {σ:L2.St} {H:Hp} {s:h_}
theorem ur {M:QF} {A:G_} {E:g_→h_→Prop} {i:Nat} {x:Str} {v:V} {pos:Pos} {Q:Unit→h_→Prop} (I:Inv X f' σ H s) (hN:X.N.Nodup) (hi:X.N[i]?=a_ x) (hk:X.env.scope.names.lookup x=a_ .local) (hv:σ[i]?=a_ (a_ v))
 (h:∀ s',Inv X f' (σ.set i ck) H s'→Q () s'):w_ M A (unbindBehindTheSuite X.env x pos) Q E s:=by
 obtain ⟨m,hn,hl⟩:=id I.loc;have hkd:X.env.kindOf x=a_ .local:=hk;obtain ⟨u,ru,lk⟩:=hl i x v hi hv (.inl hk);have hm:m x=a_ u:=by
  rcases lk with ⟨_,z⟩ | ⟨z,_⟩
  · exact z
  · rw [hkd] at z;rcases z with z | z <;> cases z
 have hcls:(X.env.scope.kind == .class || (X.env.scope.kind == .module && X.env.locals != X.env.globals))=d_:=by rw [I.ok.kind]; rfl
 have cne:=I.cne;obtain ⟨oL,_,_,hoL,_⟩:=id hn;refine O9 (wpAny_unbindName_local hkd hn hm hcls fun h' w hn' hs=>?_);refine h _ ⟨I.ok,I.os,I.bare,⟨fun b o e n hb hx=>?_,fun b o e n hb hx=>?_,I.base.free,fun b o e hx=>?_,I.base.tups,I.base.frzs,I.base.tbls⟩,⟨_,hn',fun j y v' e1 e2 e3=>?_⟩,fun y c e=>?_,I.free,I.freeC,fun p hp=>?_,fun b ob e=>?_,by simpa using I.len⟩
 · exact (hs.2 b (K7 (H_ (t_ e) I.ok.above))).trans (I.base.keep b o e n hb hx)
 · obtain ⟨sl,e1⟩:=I.base.slot b o e n hb hx;exact ⟨sl,(hs.2 b (K7 (H_ (t_ e) I.ok.above))).trans e1⟩
 · obtain ⟨o',e1⟩:=I.base.there b o e hx;exact ⟨o',(hs.2 b (K7 (H_ (t_ e) I.ok.above))).trans e1⟩
 · by_cases hj:j=i
   · subst hj;have hjl:j < σ.length:=by rw [I.len]; exact (K2.mp hi).1
     rw [K1 hjl] at e2;cases e2
   · rw [J_ (M8 hj)] at e2;obtain ⟨u',r',q⟩:=hl j y v' e1 e2 e3;refine ⟨u',r',?_⟩;rcases q with ⟨k,e⟩ | ⟨k,c,e,z⟩
     · refine .inl ⟨k,?_⟩;have:y≠x:=fun e=>hj (lO hN e1 (e ▸ hi));simp [this,e]
     · exact .inr ⟨k,c,e,z.sameBut hs (cne y c e)⟩
 · obtain ⟨w',z⟩:=I.cell y c e;exact ⟨w',z.sameBut hs (cne y c e)⟩
 · obtain ⟨e,n,ne,nf,d⟩:=I.pin p hp;exact ⟨(hs.2 p.1 ne).trans e,n,ne,nf,d⟩
 · refine (I.hok b ob e).stay (fun c w' hc q=>(hs.2 c ?_).trans q) (fun _ q=>q) fun _ _ q=>q;rintro rfl;rcases hc with hc | hc
   · rw [← hc,I.free] at e; cases e
   · rw [I.free] at hc; cases hc
theorem Inv.freeze {e:k_} {oe:Obj} {vs:Array g_} (I:Inv X f' σ H s) (he:H e=ck) (hg:s.heap.get? e=a_ oe) (hd:oe.data=.fields vs) (h0:X.s₀.heap.get? e=ck) (hp:∀ p∈X.pn ++ f',p.1≠e) :
 Inv X f' σ (upd H e (.frz oe (.ext fun _=>True))) s:=by
 have ne:∀ b u,H b=a_ u→b≠e:=fun b u q=>ax q he;refine ⟨I.ok,I.os,I.bare,⟨I.base.keep,I.base.slot,fun b o q n hx=>?_,I.base.there,fun b xs q=>?_,fun b o u q=>?_,fun b ps q=>?_⟩,I.loc,I.cell,?_,fun x c q=>?_,fun p hp'=>?_,fun b u q=>?_,I.len⟩
 · have hb:b≠e:=fun z=>by rw [z,h0] at q; cases q
   rw [aB hb];exact I.base.free b o q n hx
 · have q':=I.base.tups b xs q;rw [aB (ne b _ q')];exact q'
 · have q':=I.base.frzs b o u q;rw [aB (ne b _ q')];exact q'
 · obtain ⟨more,q'⟩:=I.base.tbls b ps q;exact ⟨more,by rw [aB (ne b _ q')]; exact q'⟩
 · obtain ⟨m,⟨o,es,ep,ho,hdd,_⟩,_⟩:=I.loc;have hb:X.env.locals≠e:=fun z=>by rw [z,hg] at ho; cases ho; rw [hd] at hdd; cases hdd
   rw [aB hb];exact I.free
 · obtain ⟨v,o,ho,hdd⟩:=I.cell x c q;have hb:c≠e:=fun z=>by rw [z,hg] at ho; cases ho; rw [hd] at hdd; cases hdd
   rw [aB hb];exact I.freeC x c q
 · obtain ⟨q1,q2,q3⟩:=I.pin p hp';exact ⟨q1,by rw [aB (hp p hp')]; exact q2,q3⟩
 · by_cases hb:b=e
   · subst hb;rw [aA] at q;cases q;exact ⟨hg,trivial,⟨oe,hg⟩,fun _ _ _ _=>trivial⟩
   · rw [aB hb] at q;exact (I.hok b u q).stay (fun _ _ _ z=>z) (fun c z=>by rw [aB (ne c _ z)]; exact z) (fun c xs z=>by rw [aB (ne c _ z)]; exact z) fun c _ _ z=>by rw [aB (ne c _ z)]; exact z
end
structure RoomM (k:Nat) (A:G_):Prop where
 dp:A.depth + 3 * k + 5 < recursionLimit
 un:A.units + 16 * k + 200 < cLine
theorem RoomM.of {k:Nat} {A:G_} (r:Room k A):RoomM k A:=⟨r.dp,r.un⟩
theorem RoomM.mono {j k:Nat} {A:G_} (r:RoomM k A) (h:j≤k):RoomM j A:=⟨by have:=r.dp; omega,by have:=r.un; omega⟩
theorem RoomM.deeper {k:Nat} {A:G_} (r:RoomM (k + 1) A) (env:Env):RoomM k (A.deeper env) :=
 ⟨by have:=r.dp; show A.depth + 1 + 3 * k + 5 < _; omega,by have:=r.un; show A.units + 3 + 16 * k + 200 < _; omega⟩
theorem RoomM.units {k:Nat} {A:G_} (r:RoomM k A):A.units + 64 < cLine:=by have:=r.un; omega
structure FnM (P:r_) (w:E_) (K:e_) (mg:Str→Option g_) (base:K5) (k:Nat) (f:k_) (fd:LK) (ps:List Str) (F:List Dv→Option (Rs Dv)):Prop where
 run:∀ (A:G_) (outer:List Env) (s:h_) (H:Hp) (args:Args) (us:List g_) (vs:List V) (ds:List Dv) (d:Dv) (Q:VK),RoomM k A→Env0 P w K mg base A outer s H→O3 s fd args (ps.zip us)→Vals vs us →
  Reps K H ds vs→ds.length=ps.length→F ds=a_ (.ok d)→(∀ v H',Same H H'→Rep K H' d v→Q v H')→NV (z_ P w) A (.call (.ref f) args) (CR CX0 outer P w H s Q E0) s
def Gq (P:r_) (w:E_) (K:e_) (mg:Str→Option g_) (base:K5) (x:Str) (k:Nat) (ps:List Str) (F:List Dv→Option (Rs Dv)):Prop :=
 ∃ f fd,FnM P w K mg base k f fd ps F∧mg x=a_ (.ref f)∧LZ K (.ref f)=c_∧Binds K fd ps []
section
variable {X:Cx} {x:Str} {p pos:Pos} {e:F_} {es:List F_} {g:FnA} {n:Nat}
theorem wY {k':Nat} (k:Nat) (ps:List Str) (F:List Dv→Option (Rs Dv)) (h:Gq X.prog X.w X.K X.mg X.base x k ps F) (hr:RoomM k' X.A) (hk:k≤k') (hg:Gl X x) (ha:FA X (e :: es) g) (hn:n=ps.length:=by kernel_rfl) (hdb:(x == ("__debug__":Str))=d_:=by kernel_rfl)
 (he:i_ (e :: es) X.env=(d_,eval e X.env) :: i_ es X.env:=by kernel_rfl) (hpl:(Lr pos (i_ es X.env)).any (·.1)=d_:=by kernel_rfl) :
 FE X (.Call (.Name x p) (e :: es) [] pos) (ai F n g):=by
 subst hn;obtain ⟨f,fd,G,hm,hkp,hb⟩:=h;constructor;intro f' s σ H Q I ⟨ρ,E,o⟩;have hp:w_ (z_ X.prog X.w) X.A (spliced (Lr pos (i_ (e :: es) X.env))) (AP X f' σ fun vs H1=>∃ ds,Reps X.K H1 ds vs∧ds.length=ps.length∧∃ d,F ds=a_ (.ok d)∧∀ v H',Same H1 H'→Rep X.K H' d v→Q v H') X.xe s:=by
  refine ha.h pos f' s σ H _ I ⟨ρ,E,OutA.bind o fun ds vs H' e rs o1=>?_⟩;by_cases hl:ds.length=ps.length
  · rw [if_pos hl] at o1;refine ⟨ds,rs,hl,?_⟩
    match hF:F ds with
    | none=>rw [hF] at o1; exact o1.elim
    | some (.exc c)=>rw [hF] at o1; exact o1.elim
    | some (.ok d)=>rw [hF] at o1; exact ⟨d,rfl,o1⟩
  · rw [if_neg hl] at o1;exact o1.elim
 refine MB (ke I hg hm ?_ hdb);refine QI (h₀:=X.base) I.ok.mod.kin hkp (thn hp fun us s1 ⟨vs,H1,I1,r,ds,rs,hl,d,hF,q⟩=>⟨I1.kIn,?_⟩) he hpl;have hlen:us.length=ps.length:=by rw [← r.length,rs.length,hl]
 have hb':O3 s1 fd ⟨us,[]⟩ (ps.zip us):=by
  have z:=hb s1 us I1.kIn (by rw [Nd]; exact hlen);rw [Nd] at z;exact z
 refine Pt (NU (G.run X.A X.stack s1 H1 ⟨us,[]⟩ us vs ds d Q (hr.mono hk) I1.env0 hb' r rs hl hF q) fun r s' hq=>?_);cases r with
 | error e=>exact hq.elim
 | ok fl =>
  cases fl with
  | ret u=>exact I1.after hq
  | next=>exact Li hq
  | brk=>exact Li hq
  | cont=>exact Li hq
end
def cxM (P:r_) (w:E_) (K:e_) (mg:Str→Option g_) (base:K5) (N:List Str) (qual:Str) (scope:Me) (f:k_) (cd:g_) (A:G_) (outer:List Env) (s:h_) (H:Hp):Cx :=
 { qm CX0 P w K mg base N qual scope f cd A outer s H E0 with calm:=d_,xe:=fun _ _=>False }
theorem DG {k:Nat} {f:k_} {fd:LK} {x:Str} {P:r_} {w:E_} {K:e_} {mg:Str→Option g_} {base:K5} {qual:Str} {st:LY} {F:List Dv→Option (Rs Dv)} (N ps:List Str) (fb:FnS) (hF:F=bt N.length fb)
 (Fn:Fun K x qual st f fd) (S:gJ N ps (aF st))
 (hb:∀ (cdv:g_) (A:G_) (outer:List Env) (s:h_) (H:Hp),RoomM k (A.deeper (NH qual (aF st) s.heap.objs.size f cdv))→FSs (cxM P w K mg base N qual (aF st) f cdv A outer s H) (dG st) fb) :
 FnM P w K mg base (k + 1) f fd ps F:=by
 subst hF;obtain ⟨oc,od,kV,doc,pm,an,cdv,ct,osl,rfl,lk,hcd⟩:=Fn.ex;refine ⟨fun A outer s H args us vs ds d Q hr e0 hbd r rs hl hF q=>?_⟩;have hlv:vs.length=ps.length:=by rw [rs.length,hl]
 have KX:K.In s.heap:=e0.mod.kin.keeps fun b o e=>(e0.bs b o e).1;have lim:s.heap.NoLimit:=e0.mod.nolimit.keeps fun b o e=>(e0.bs b o e).1;have hkind:∀ y∈ps.zip us,(aF st).names.lookup y.1=a_ .local∨((aF st).names.lookup y.1=a_ .cell∧((Lq (s.heap.objs.size + 1) (aF st).names []).lookup y.1).isSome=c_):=fun ⟨n,v⟩ hy=>by
  rcases S.par n (Ov hy).1 with z | z
  · exact .inl z
  · exact .inr ⟨z,NW _ _ _ (.inl z)⟩
 have hdp:A.depth < recursionLimit:=by have:=hr.dp; omega
 refine PX hdp (KX _ _ lk) rfl S.co S.gen rfl (QH KX hcd) (hbd _ _ _ _ ?_);refine OI S.kind hkind fun env he s1 x=>?_;subst he;refine ⟨lim.keeps x.toInCall.keep,codeAny_func ?_⟩;have e1:Env0 P w K mg base { A with handled:=ck } outer s H:=⟨e0.frames,e0.mod,e0.bs,e0.bsz,e0.funs,e0.frf,e0.hok,e0.bare⟩;have I0:Inv (qm CX0 P w K mg base N qual (aF st) f cdv { A with handled:=ck } outer s H E0) [] (start N vs) H s1:=m7 S rfl e1 hlv r x;have I:Inv (cxM P w K mg base N qual (aF st) f cdv A outer s H) [] (start N vs) H s1 :=
  ⟨⟨I0.ok.mod,I0.ok.kind,I0.ok.glob,I0.ok.blt,I0.ok.above,I0.ok.inj,I0.ok.has,I0.ok.cab,(fun z=>absurd z p_),Qf e0.frames,I0.ok.stk,I0.ok.exf,I0.ok.bs,I0.ok.bsz,I0.ok.noex,I0.ok.exfs,I0.ok.funs,I0.ok.frf⟩,
   I0.os,I0.bare,I0.base,I0.loc,I0.cell,I0.free,I0.freeC,I0.pin,I0.hok,I0.len⟩
 have fin:∀ {s':h_} {σ':L2.St} {H':Hp} {v:V} {u:g_},Inv (cxM P w K mg base N qual (aF st) f cdv A outer s H) [] σ' H' s'→RelV v u→Q v H'→CE outer P w H s Q u s':=fun {s' σ' H' v u} J rv q=>⟨v,H',J.os,J.bare,J.base,J.hok,rv,q⟩;have hq:OutS (cxM P w K mg base N qual (aF st) f cdv A outer s H) H (fb (ds.map a_ ++ u_ (N.length - ds.length) ck)) { nx:=fun _ H'=>Q .non H',rt:=Q }:=by
  unfold bt at hF
  match hf:fb (ds.map a_ ++ u_ (N.length - ds.length) ck) with
  | none=>rw [hf] at hF; cases hF
  | some (.exc c)=>rw [hf] at hF; cases hF
  | some (.rt d')=>rw [hf] at hF; cases hF; exact q
  | some (.nx ρ)=>rw [hf] at hF; cases hF; exact fun σ' H' e _=>q .non H' e rfl
 refine LD ((hb cdv A outer s H (hr.deeper _)).h [] s1 (start N vs) H _ I ⟨_,jr rs,hq⟩) (fun fl s' hs=>?_) fun e s' hs=>hs.elim;cases fl with
 | ret u =>
  obtain ⟨v,σ',H',J,rv,z⟩:=hs;exact fin J rv z
 | next =>
  obtain ⟨σ',H',J,z⟩:=hs;exact fin (v:=V.non) (u:=K9) J rfl z
 | brk =>
  obtain ⟨_,_,_,z⟩:=hs;exact Li z
 | cont =>
  obtain ⟨_,_,_,z⟩:=hs;exact Li z
abbrev BL (X:Cx) (pl:List (k_×Obj)) (E:g_→h_→Prop):Cx:={ X with pn:=X.pn ++ pl,xe:=E }
abbrev nH (X:Cx) (pl:List (k_×Obj)) (e:k_):Cx:={ X with A:=X.A.mark (a_ (.ref e)),calm:=d_,pn:=X.pn ++ pl,xe:=fun _ _=>False }
section
variable {X:Cx} {pl ps:List (k_×Obj)} {σ:L2.St} {H:Hp} {s:h_} {E:g_→h_→Prop} {e:k_}
theorem Ac (I:Inv X pl σ H s):Inv (BL X pl E) [] σ H s :=
 ⟨⟨I.ok.mod,I.ok.kind,I.ok.glob,I.ok.blt,I.ok.above,I.ok.inj,I.ok.has,I.ok.cab,I.ok.hd,I.ok.frames,I.ok.stk,I.ok.exf,I.ok.bs,I.ok.bsz,I.ok.noex,I.ok.exfs,I.ok.funs,I.ok.frf⟩,
  I.os,I.bare,I.base,I.loc,I.cell,I.free,I.freeC,fun p hp=>I.pin p (by simpa using hp),I.hok,I.len⟩
theorem kn (I:Inv (BL X pl E) ps σ H s):Inv X pl σ H s :=
 ⟨⟨I.ok.mod,I.ok.kind,I.ok.glob,I.ok.blt,I.ok.above,I.ok.inj,I.ok.has,I.ok.cab,I.ok.hd,I.ok.frames,I.ok.stk,I.ok.exf,I.ok.bs,I.ok.bsz,I.ok.noex,I.ok.exfs,I.ok.funs,I.ok.frf⟩,
  I.os,I.bare,I.base,I.loc,I.cell,I.free,I.freeC,fun p hp=>I.pin p (y_ _ hp),I.hok,I.len⟩
theorem qH (I:Inv X pl σ H s):Inv (nH X pl e) [] σ H s :=
 ⟨⟨I.ok.mod,I.ok.kind,I.ok.glob,I.ok.blt,I.ok.above,I.ok.inj,I.ok.has,I.ok.cab,fun z=>absurd z p_,I.ok.frames,I.ok.stk,I.ok.exf,I.ok.bs,I.ok.bsz,I.ok.noex,I.ok.exfs,I.ok.funs,I.ok.frf⟩,
  I.os,I.bare,I.base,I.loc,I.cell,I.free,I.freeC,fun p hp=>I.pin p (by simpa using hp),I.hok,I.len⟩
theorem rM (ok:X.Ok) (I:Inv (nH X pl e) ps σ H s):Inv X pl σ H s :=
 ⟨ok,I.os,I.bare,I.base,I.loc,I.cell,I.free,I.freeC,fun p hp=>I.pin p (y_ _ hp),I.hok,I.len⟩
theorem wZ {Y:Cx} (I:Inv Y ps σ H s) (hex:Y.ex=[]) (hst:Y.stack=Y.env :: Y.outer) (hfm:Y.env.frame=a_ Y.env.locals) {cls:g_} (F:Fly (G4 Y) H e cls s.heap)
 {Q:Unit→h_→Prop} {E1 E2:g_→h_→Prop} (k:∀ h' Ts a0,(hid Y e Ts s.heap).StaysIn h'→h'.FunFrames (hid Y e Ts s.heap) Y.stack→h'.TracedW (hid Y e Ts s.heap) e cls a0 →
  (∀ b o,s.heap.get? b=a_ o→(∀ vs,o.data≠.fields vs)→∃ sl,h'.get? b=a_ { o with slots:=sl }) →
  (∀ b,b=e∨b∈Ts→H b=ck∧G4 Y b∧∃ o vs,s.heap.get? b=a_ o∧o.data=.fields vs)→Q () { s with heap:=h' }) :
 w_ (z_ Y.prog Y.w) Y.A (Rn (.ref e) Y.env) (fun _ s2=>w_ (z_ Y.prog Y.w) Y.A (setFlight (.ref e) ck) Q E1 s2) E2 s:=by
 obtain ⟨f1,f2,oe,vs,a0,q1,q2,q3,q4,q5⟩:=F;have hfr:Y.A.frames=a_ (Y.env :: Y.outer):=hst ▸ I.ok.frames;subst q2;rcases q5 with q5 | ⟨T,oT,ts,r1,r2,r3,r4,r5,r6,r7⟩
 · have b3:s.heap.FunFrames (hid Y e [] s.heap) (Y.env :: Y.outer):=hst ▸ lX I;have go:∀ h',Heap.NotedW (hid Y e [] s.heap) (Y.env :: Y.outer) e oe.cls a0 (RW Y.env.locals) s.heap h'→w_ (z_ Y.prog Y.w) Y.A (setFlight (.ref e) ck) Q E1 { s with heap:=h' }:=fun h' ⟨k1,k2,k3,k4⟩ =>
    N6 (s:={ s with heap:=h' }) k1 k2 k3 fun h2 m1 m2 m3 m4=>k h2 [] a0 m1 (hst ▸ m2) m3 (fun b o q d=>by
     obtain ⟨sl,q'⟩:=k4 b o q d;exact ⟨sl,m4 b _ q' d⟩) fun b hb=>by
      rcases hb with rfl | hb
      · exact ⟨f1,f2,oe,vs,q1,q3⟩
      · cases hb
   unfold Rn;simp only [hfm];refine f_ (LM q1 q3 q5 ?_);rw [if_neg (by decide)];exact wpAny_entryW hfr b3 hfm q1 (fun b o z=>M5 _ z) (L8 _ (o_ ..)) q3 (LP.mp q5).1 q4 go
 · have b3:s.heap.FunFrames (hid Y e [T] s.heap) (Y.env :: Y.outer):=hst ▸ lX I;have ht:s.heap.TracedW (hid Y e [T] s.heap) e oe.cls a0:=⟨oe,vs,T,oT,ts,q1,⟨rfl,q4⟩,q3,r1,L8 _ (by simp),r2,r5,r6,r7⟩;refine wpAny_noteFrame_onW hfr b3 hfm ht (fun b o z=>M5 _ z) (L8 _ (o_ ..)) fun h' ⟨k1,k2,k3,k4⟩=>?_;refine N6 (s:={ s with heap:=h' }) k1 k2 k3 fun h2 m1 m2 m3 m4=>k h2 [T] a0 m1 (hst ▸ m2) m3 (fun b o q d=>by
    obtain ⟨sl,q'⟩:=k4 b o q d;exact ⟨sl,m4 b _ q' d⟩) fun b hb=>by
     rcases hb with rfl | hb
     · exact ⟨f1,f2,oe,vs,q1,q3⟩
     · simp at hb;subst hb;exact ⟨r3,r4,oT,ts,r5,r6⟩
theorem ut {prog:r_} {w:E_} {A:G_} {E1:g_→h_→Prop} {K:e_} {mg mg2:Str→Option g_} {C J:k_} {oe:Obj} {y z:Str} {Q:Bool→h_→Prop} (X:K.In s.heap) (hC:OwnCls y C bmV "ValueError.__new__" mg s.heap) (hJ:OwnCls z J bmV "ValueError.__new__" mg2 s.heap)
 (he:s.heap.get? e=a_ oe) (hc:oe.cls=.ref C) (hm:mroIn K C (.ref J)=a_ c_) (h:Q c_ s):w_ (z_ prog w) A (excMatches (.ref e) (.ref J)) Q E1 s:=by
 obtain ⟨tl,N,nm,q,bs,hdct,sn,sub,ab,col,dd,k0,k1,k2,k3,k5,mN,hC,hN,hni,T⟩:=hC.obj;obtain ⟨tl',N',nm',q',bs',hdct',sn',sub',ab',col',dd',l0,l1,l2,l3,l5,mN',hJ,hN',hni',T'⟩:=hJ.obj;obtain ⟨hh,g,d,t,os⟩:=s;have hcB:(x_ J :: tl').contains (.type "BaseException")=c_:=by rw [List.contains_cons,T'.hasType Nm.hasBase,Bool.or_true]
 have hcC:(x_ C :: tl).contains (.ref J)=c_:=by
  unfold mroIn at hm;obtain ⟨cd,a,b⟩:=MZ.mp hm;split at b
  · cases b
  · have b':=Lc b;unfold clsIn at a;split at a
    · rename_i look;cases a;have z:=(X _ _ look).symm.trans hC;cases z;exact b'
    · cases a
 have f:=tc_notTuple;unfold excMatches
 repeat (first | (with_reducible refine OZ he ?_; rw [hc]) | with_reducible refine OZ hJ ?_ | (with_reducible refine wpAny_isSubtype_exc hJ ?_; rw [hcB]) | (with_reducible refine wpAny_isSubtype_exc hC ?_; rw [hcC]) | wp_step)
 exact h
end
def Ad (m i N:Nat) (f g:FnE):FnS:=fun ρ=>match f ρ with
 | none=>ck
 | some (.ok d)=>a_ (.rt d)
 | some (.exc c)=>if c < m then (match g ((u_ N ck).set i (a_ (.exn c))) with
  | some (.ok d)=>a_ (.rt d)
  | _=>ck) else ck
section
variable {X:Cx} {ex hx:F_} {f g:FnE} {J n:Str} {CJ:k_} {np rp rp2 hpos pos:Pos}
theorem DH (m i N:Nat) (hex:X.ex=[]) (hst:X.stack=X.env :: X.outer) (hfm:X.env.frame=a_ X.env.locals) (hgJ:Gl X J) (hmJ:X.mg J=a_ (.ref CJ)) (KJ:excIn X.K CJ bmV "ValueError.__new__"=c_)
 (xk:∀ c C,c < m→nsIn X.K C_ (xnm c)=a_ (a_ (.ref C))→excIn X.K C bmV "ValueError.__new__"=c_∧mroIn X.K C (.ref CJ)=a_ c_)
 (hN:X.N.Nodup) (hi:X.N[i]?=a_ n) (hl:X.env.scope.names.lookup n=a_ .local) (hNl:X.N.length=N)
 (hb:∀ pl E',FE (BL X pl E') ex f) (hh:∀ pl e,FE (nH X pl e) hx g) (hdb:(J == ("__debug__":Str))=d_:=by kernel_rfl) :
 FS X (.Try [.Return (a_ ex) rp] [.ExceptHandler (a_ (.Name J np)) (a_ n) [.Return (a_ hx) rp2] hpos] [] [] pos) (Ad m i N f g):=by
 constructor;intro f' s σ H D I ⟨ρ,E,o⟩;refine wpAny_Try_except ?_;have hbody:=fun E' (h:OutS (BL X f' E') H (ay f ρ) { nx:=fun _ _=>False,rt:=D.rt })=>(pq (tV (pos:=rp) (hb f' E'))).h [] s σ H { nx:=fun _ _=>False,rt:=D.rt } (Ac I) ⟨ρ,E,h⟩;refine LD (hbody (fun e s₁=>w_ (z_ X.prog X.w) X.A (Rn e X.env) (fun _ s₂=>w_ (z_ X.prog X.w) X.A (setFlight e ck) (fun _ s₃=>w_ (z_ X.prog X.w) X.A (handleBy e X.env [.ExceptHandler (a_ (.Name J np)) (a_ n) [.Return (a_ hx) rp2] hpos]) (SP X f' D) X.xe s₃) X.xe s₂) X.xe s₁) ?_) (fun fl s1 hs=>?_) fun e s1 hs=>hs
 · unfold Ad at o;unfold ay
   match hf:f ρ with
   | none=>rw [hf] at o; exact o.elim
   | some (.ok d)=>rw [hf] at o; exact o
   | some (.exc c) =>
    rw [hf] at o;dsimp only at o;by_cases hcm:c < m
    · rw [if_pos hcm] at o;intro ps σ1 H1 s1 ev same I1 ⟨e,C,he,hC,F⟩;subst he;have fe:H1 e=ck:=F.1;have fn:=F.2.1;refine wZ (Y:=BL X f' _) I1 hex hst hfm F (E1:=X.xe) (E2:=X.xe) fun h2 Ts a0 k1 k2 k3 k4 k5=>?_;have I1':=I1.pins_of (pins':=[]) fun p hp=>absurd hp (by simp);have hf5:∀ b,b=e∨b∈Ts→H1 b=ck∧X.s₀.heap.get? b=ck∧(∀ p∈(X.pn ++ f') ++ [],p.1≠b)∧∃ o vs,s1.heap.get? b=a_ o∧o.data=.fields vs:=fun b hb=>⟨(k5 b hb).1,(k5 b hb).2.1.1,fun p hp=>(k5 b hb).2.1.2 p (by simpa using hp),(k5 b hb).2.2⟩;have I2:=Inv.aft I1' (qD I1 k1 k4) hex hf5;have J2:Inv (nH X f' e) [] σ1 H1 { s1 with heap:=h2 }:=qH (kn I2);have k3':=k3;obtain ⟨oe,vs,T,oT,ts,t1,⟨t2,t3⟩,t4,_⟩:=k3';obtain ⟨xC,xm⟩:=xk c C hcm hC;refine wpAny_handleBy_cons (codeAny_handlers_test (ke (X:=nH X f' e) J2 hgJ hmJ ?_ hdb)) (by intro z; cases z);refine ut (mg:=fun _=>a_ (.ref C)) (y:=n) J2.kIn (ul J2.kIn rfl xC) (ul J2.kIn hmJ KJ) t1 t2 xm ?_;show NV _ _ (.handlers (.ref e) [.ExceptHandler ck (a_ n) [.Return (a_ hx) rp2] hpos] X.env) _ _;refine codeAny_handlers_suite_as ?_;refine N6 (s:={ s1 with heap:=h2 }) k1 k2 k3.at fun h3 m1 m2 m3 m4=>?_;have A3:Aft (BL X f' _) e Ts s1.heap h3:=qD I1 m1 fun b o q d=>by
       obtain ⟨sl,q'⟩:=k4 b o q d;exact ⟨sl,m4 b _ q' d⟩
      have I3:=Inv.aft I1' A3 hex hf5;obtain ⟨oe3,vs3,T3,oT3,ts3,u1,⟨u2,u3⟩,u4,_⟩:=m3;have I4:=Inv.freeze I3 fe u1 u4 fn.1 fun p hp=>fn.2 p (by simpa using hp);have J4:Inv (nH X f' e) [] σ1 (upd H1 e (.frz oe3 (.ext fun _=>True))) { s1 with heap:=h3 }:=qH (kn I4);refine j5 (X:=nH X f' e) J4 hN hi (.inl hl) (v:=.ref e) rfl (fun s5 J5=>?_) (.inr hl);have rep:Rep X.K (upd H1 e (.frz oe3 (.ext fun _=>True))) (.exn c) (.ref e):=⟨e,oe3,_,C,rfl,aA,u2,hC⟩;have E5:Envs X.K (upd H1 e (.frz oe3 (.ext fun _=>True))) (σ1.set i (a_ (.ref e))) ((u_ N ck).set i (a_ (.exn c))):=by
       refine Envs.set (ρ:=u_ N ck) ⟨?_,fun j d hj=>?_⟩ rep
       · rw [I1.len,MD]; exact hNl
       · rw [M0] at hj;split at hj <;> cases hj
      match hg:g ((u_ N ck).set i (a_ (.exn c))) with
      | none=>rw [hg] at o; exact o.elim
      | some (.exc c2)=>rw [hg] at o; exact o.elim
      | some (.ok d) =>
       rw [hg] at o;have hrun:=(pq (tV (pos:=rp2) (hh f' e))).h [] s5 _ _ { nx:=fun _ _=>False,rt:=D.rt } J5 ⟨_,E5,(by
        unfold ay;rw [hg];exact fun v H' e1 r=>o v H' ((same.trans (aE fe _)).trans e1) r)⟩
       refine LD hrun (fun fl s6 hs=>?_) fun _ _ z=>z.elim;cases fl with
       | ret u =>
        obtain ⟨v,σ6,H6,J6,rv,q6⟩:=hs;have J7:Inv X f' σ6 H6 s6:=rM I.ok J6;have hil:i < σ6.length:=by rw [J7.len]; exact (K2.mp hi).1
        refine f_ (wpAny_bindName (j5 J7 hN hi (.inl hl) (v:=.non) rfl (fun s7 J8=>?_) (.inr hl)));exact ur J8 hN hi hl (v:=.non) (K1 hil) fun s8 J9=>⟨v,_,H6,J9,rv,q6⟩
       | next=>obtain ⟨_,_,_,z⟩:=hs; exact Li z
       | brk=>obtain ⟨_,_,_,z⟩:=hs; exact Li z
       | cont=>obtain ⟨_,_,_,z⟩:=hs; exact Li z
    · rw [if_neg hcm] at o;exact o.elim
 · cases fl with
   | ret u =>
    obtain ⟨v,σ',H',I',rv,q⟩:=hs;exact ⟨v,σ',H',kn I',rv,q⟩
   | next=>obtain ⟨_,_,_,z⟩:=hs; exact Li z
   | brk=>obtain ⟨_,_,_,z⟩:=hs; exact Li z
   | cont=>obtain ⟨_,_,_,z⟩:=hs; exact Li z
end
end FD
namespace FD
open PySem PySem.Spec PyProof.Rows L2
def Hy:List Dv→List Dv→Option (Rs Dv)
 | xs,[x]=>if gM x && xs.all gM && q_ (xs.length≤100000) then a_ (.ok (.int (xs.countP (fun y=>eqF y x):Nat))) else ck
 | _,_=>ck
def DI:V→List V→Hp→VK→Prop:=fun x xs H Q=>∃ a vs y,x=.ref a∧xs=[y]∧H a=a_ (.lst vs)∧gG y=c_∧vs.all gG=c_∧vs.length≤100000∧Q (.int (vs.countP (fun v=>eqV v y):Nat)) H
section
variable {X:Cx} {apos cpos:Pos} {e o:F_} {es:List F_} {ga:FnA} {fo:FnE}
theorem ly {y:V}:∀ {vs:List V} {its:List g_},Vals vs its→vs.all gG=c_→its.countP (eqU y)=vs.countP fun v=>eqV v y
 | _,_,.nil,_=>rfl
 | _,_,.cons (a:=v) (b:=u) r t,f=>by
  rw [My,n_] at f;rw [Oh,Oh,ly t f.2,qt r f.1]
theorem uu:MtR X "list.count" DI:=by
 intro f' s σ H x xs v us Q I rx rs h;obtain ⟨a,vs,y,rfl,rfl,h1,fy,fv,hz,q⟩:=h;cases rx;obtain ⟨u,rfl,ru⟩:=eW rs;obtain ⟨z,its,n,rv,hl,e⟩:=I.lstM h1;refine M4 Pl ⟨_,e,rfl⟩ PySem.F.entry_list_count (PySem.F.args_list_count_2 _ _) (SeqAt.list_countAt a its.toArray n ck #[] u (eqU y)) ⟨e,fun t ht=>gp ru fy rv fv t (by simpa using ht),⟨.int (vs.countP (fun v=>eqV v y):Nat),H,I.tok _,⟨s.toks,?_⟩,q⟩⟩;have:=ly (y:=y) rv fv;rw [Ny,this]
theorem yP {K:e_} {H:Hp} {x:Dv} {u:V} (q:Rep K H x u) (hx:gM x=c_):∀ {xs:List Dv} {vs:List V},Reps K H xs vs→xs.all gM=c_→vs.countP (fun v=>eqV v u)=xs.countP fun y=>eqF y x
 | [],vs,r,_=>by cases (show vs=[] from r); rfl
 | y :: ys,vs,r,f=>by
  obtain ⟨v,ws,rfl,r1,r2⟩:∃ v us,vs=v :: us∧Rep K H y v∧Reps K H ys us:=r;rw [My,n_] at f;rw [Oh,Oh,yP q hx r2 f.2,ub r1 q f.1 hx]
theorem w4 (ho:FE X o fo) (ha:FA X (e :: es) ga)
 (hbase:Nf o "count" X.env (eval o X.env)=eval o X.env:=by kernel_rfl)
 (hfew:((Lr cpos (i_ (e :: es) X.env)).all (fun x=>!x.1) && (Ph cpos (NL [] X.env)).all (fun x=>x.1.isSome)
   && q_ ((e :: es).length + ([]:List MR).length + (if ([]:List MR).isEmpty then 0 else 1) < 30))=c_:=by kernel_rfl)
 (hline:(apos.endLine == cpos.line)=c_:=by kernel_rfl) (hs:i_ (e :: es) X.env=(d_,eval e X.env) :: i_ es X.env:=by kernel_rfl) (hplain:(Lr cpos (i_ es X.env)).any (·.1)=d_:=by kernel_rfl) :
 FE X (.Call (.Attribute o "count" apos) (e :: es) [] cpos) (fML Hy fo ga) :=
 cY (wB NM Pl PySem.F.type_list_count uu ho.h ha.h hbase hfew hline hs hplain) fun σ H Q ρ E o=>⟨ρ,E,Out.bind o fun d v H1 e1 rd o1=>by
  cases d <;> try exact (show False from o1).elim
  rename_i ds;obtain ⟨a,vs,rfl,h1,h2⟩:=rd.lstE;refine ⟨.inl ⟨rfl,vs,SqL.of h1⟩,ρ,E.mono e1,OutA.bind o1 fun es ws H2 e2 rs o2=>?_⟩;unfold Hy at o2;split at o2
  · rename_i x;split at o2
    · rename_i hc;rw [n_,n_] at hc;obtain ⟨w,rfl,rw'⟩:=dZ rs;have h2':=Reps.mono e2 _ _ h2;refine ⟨a,vs,w,rfl,rfl,e2 _ _ h1,lT rw' hc.1.1,j7 h2' hc.1.2,by rw [h2.length]; exact of_decide_eq_true hc.2,?_⟩;rw [yP rw' hc.1.1 h2' hc.1.2];exact o2 _ H2 (.refl H2) rfl
    · exact o2.elim
  · exact o2.elim⟩
end
section
variable {X:Cx} {a b c:F_} {fa fb fc:FnE} {pos:Pos}
end
def qI (x:Str) (n:Int):Str:=if n < 1 then Si else if (n == 1 || x.length == 0)=c_ then x else ⟨(u_ n.toNat x.cps).foldl (· ++ ·) #[]⟩
def Jn:Dv→Dv→Option (Rs Dv)
 | .str x,.int n=>if x.length≤1000∧-1000≤n∧n≤1000 then a_ (.ok (.str (qI x n))) else ck
 | x,y=>jR x y
section
variable {X:Cx}
def w5:R2:=fun x y H Q=>∃ i n,x=.str i∧y=.int n∧(i.length≤1000∧-1000≤n∧n≤1000)∧Q (.str (qI i n)) H
theorem qJ (a:Array Nat):∀ (k:Nat) (acc:Array Nat),((u_ k a).foldl (· ++ ·) acc).size=acc.size + k * a.size
 | 0,acc=>by simp
 | k + 1,acc=>by
  rw [LV,Nc,qJ a k (acc ++ a),O8,Nat.succ_mul];omega
theorem uv {a n:Nat} (h1:a≤1000) (h2:n≤1000):n * a≤sizeLine:=by
 have h3:n * a≤1000 * 1000:=Nat.mul_le_mul h2 h1;rw [NK];exact K0 h3 (by decide)
theorem op_mulS:OpR X (Mi .Mult) w5:=by
 intro f' s σ H x y v u Q I rx ry ⟨i,n,hx,hy,hc,q⟩;subst hx hy;obtain ⟨t,rfl⟩:=rx;obtain ⟨t2,rfl⟩:=ry;have h0:(q_ (n < -(2 ^ 63:Int)) || q_ (n ≥ 2 ^ 63))=d_:=by
  have h1:¬ n < -(2 ^ 63:Int):=by omega
  have h2:¬ n ≥ 2 ^ 63:=by omega
  rw [decide_eq_false h1,decide_eq_false h2]; rfl
 refine P.mul_str h0 (fun h1 h2 h3=>?_) (fun h1 h2=>?_) ?_
 · have hn:0 < n:=by omega
   have e1:=Int.mul_ediv_add_emod (2 ^ 63 - 1) n;have e2:=L6 (2 ^ 63 - 1) hn;have hq:(2 ^ 63 - 1:Int) / n < 1000:=by omega
   have hq0:0≤(2 ^ 63 - 1:Int) / n:=Int.ediv_nonneg (by decide) (by omega);have h4:n * ((2 ^ 63 - 1:Int) / n)≤1000 * ((2 ^ 63 - 1:Int) / n):=Int.mul_le_mul_of_nonneg_right hc.2.2 hq0;omega
 · show q_ (i.length * n.toNat > sizeLine)=d_;have:=uv (a:=i.length) (n:=n.toNat) hc.1 (by omega);rw [Re];exact decide_eq_false (by omega)
 · unfold qI at q;split
   · rename_i h1;rw [if_pos h1] at q;exact ⟨by decide,⟨.str Si,H,I.tok _,⟨_,rfl⟩,q⟩⟩
   · rename_i h1;rw [if_neg h1] at q;split
     · rename_i h2;rw [if_pos h2] at q;exact ⟨.str i,H,I,⟨_,rfl⟩,q⟩
     · rename_i h2;rw [if_neg h2] at q;refine ⟨?_,⟨.str _,H,I.tok _,⟨_,rfl⟩,q⟩⟩;show ((u_ n.toNat i.cps).foldl (· ++ ·) #[]).size≤sizeLine;rw [qJ];have:=uv (a:=i.length) (n:=n.toNat) hc.1 (by omega);have e:i.cps.size=i.length:=rfl;rw [e];simpa using this
theorem DJ:OpR X (Mi .Mult) (fun x y H Q=>w5 x y H Q∨rI CMul (fun i j=>.int (i * j)) x y H Q):=op_mulS.or yt
theorem yQ:GOp X (fun x y H Q=>w5 x y H Q∨rI CMul (fun i j=>.int (i * j)) x y H Q) Jn:=by
 intro dx dy x y H Q rx ry o;cases dx with
 | str i =>
  cases dy with
  | int n =>
   have o2:Out X H (if i.length≤1000∧-1000≤n∧n≤1000 then a_ (.ok (.str (qI i n))) else ck) Q:=o;by_cases hc:i.length≤1000∧-1000≤n∧n≤1000
   · rw [if_pos hc] at o2;exact .inl ⟨i,n,rx,ry,hc,o2 _ H (.refl H) rfl⟩
   · rw [if_neg hc] at o2;exact o2.elim
  | _=>exact (show False from o).elim
 | _=>exact .inr (CW _ _ x y H Q rx ry o)
end
end FD
namespace FD
open PySem PySem.Spec PyProof.Rows L2 PySem.W
def xiB (K:e_) (C:k_):Bool:=findIn K (.ref C) "__getattribute__" == a_ (a_ (.builtin "BaseException.__getattribute__")) && findIn K (.ref C) "__getattr__" == a_ ck && findIn K (.ref C) "__class__" == a_ (a_ (.builtin "object.__class__")) &&
 specialIn K (.builtin "object.__class__") "__get__" == a_ (a_ (.builtin "getset_descriptor.__get__")) && takesIn K (.builtin "object.__class__") == a_ c_ && mroIn K C (.type "object") == a_ c_ && mroIn K C (.type "BaseException") == a_ c_
theorem Hz {K:e_} {C:k_} (h:xiB K C=c_):XI K C:=by
 unfold xiB at h;simp only [n_,beq_iff_eq] at h;exact ⟨h.1.1.1.1.1.1,h.1.1.1.1.1.2,h.1.1.1.1.2,h.1.1.1.2,h.1.1.2,h.1.2,h.2⟩
structure XAll (K:e_) (m:Nat) (cls:Nat→k_) (CJ:k_):Prop where
 at_:∀ c,c < m→nsIn K C_ (xnm c)=a_ (a_ (.ref (cls c)))∧excIn K (cls c) bmV "ValueError.__new__"=c_∧XI K (cls c)∧mroIn K (cls c) (.ref CJ)=a_ c_∧kitOne K (.ref (cls c)) (.type "ValueError")=a_ c_∧∀ d,d < m→kitOne K (.ref (cls c)) (.ref (cls d))=a_ (c == d)
 exJ:excIn K CJ bmV "ValueError.__new__"=c_
section
variable {K:e_} {m:Nat} {cls:Nat→k_} {CJ:k_} (x:XAll K m cls CJ)
include x
theorem XAll.xc (c:Nat) (h:c < m):XC K c (cls c):=⟨(x.at_ c h).1,(x.at_ c h).2.1⟩
theorem XAll.same {c:Nat} {C:k_} (h:c < m) (q:nsIn K C_ (xnm c)=a_ (a_ (.ref C))):C=cls c:=by
 have z:=(x.at_ c h).1;rw [q] at z;cases z;rfl
theorem XAll.xk:∀ c C,c < m→nsIn K C_ (xnm c)=a_ (a_ (.ref C))→excIn K C bmV "ValueError.__new__"=c_∧mroIn K C (.ref CJ)=a_ c_:=fun c C h q=>by
 rw [x.same h q];exact ⟨(x.at_ c h).2.1,(x.at_ c h).2.2.2.1⟩
theorem XAll.xtO (d:Nat) (hd:d < m):XT K (fun c=>if c < m then a_ (c == d) else ck) (.ref (cls d)):=fun c b hb C q=>by
 dsimp only at hb;split at hb
 · rename_i h;cases hb;rw [x.same h q];exact ⟨(x.at_ c h).2.2.1,(x.at_ c h).2.2.2.2.2 d hd⟩
 · cases hb
theorem XAll.xtV:XT K (fun c=>if c < m then a_ c_ else ck) (.type "ValueError"):=fun c b hb C q=>by
 dsimp only at hb;split at hb
 · rename_i h;cases hb;rw [x.same h q];exact ⟨(x.at_ c h).2.2.1,(x.at_ c h).2.2.2.2.1⟩
 · cases hb
end
end FD
namespace FD
open PySem
theorem lZ:LJ (b_ "ValueError")=a_ (.type "ValueError"):=by kernel_rfl
end FD
namespace FD
open PySem PySem.Spec PyProof.Rows L2
def ko:Str→List Dv→Option (Rs Dv)
 | x,[.str y]=>if x.length≤100000 then a_ (.ok (.str (Mr x y))) else ck
 | _,_=>ck
def yR:V→List V→Hp→VK→Prop:=fun x xs H Q=>∃ i j,x=.str i∧xs=[.str j]∧i.length≤sizeLine∧Q (.str (Mr i j)) H
section
variable {X:Cx}
theorem w6:MtR X "str.strip" yR:=by
 intro f' s σ H x xs v us Q I rx rs h;obtain ⟨i,j,rfl,rfl,hl,q⟩:=h;obtain ⟨t,rfl⟩:=rx;obtain ⟨u,rfl,ru⟩:=eW rs;obtain ⟨t',rfl⟩:=ru;exact SC.stripChars (fun t2 k=>⟨.str _,H,I.tok k,⟨_,rfl⟩,q⟩) hl
theorem Ae (i:Str) (ds:List Dv) (vs:List V) (H:Hp) (Q:VK) (rs:Reps X.K H ds vs) (o:Out X H (ko i ds) Q):yR (.str i) vs H Q:=by
 unfold ko at o;split at o
 · rename_i j;split at o
   · rename_i hl;obtain ⟨w,rfl,rw'⟩:=dZ rs;cases (show w=.str j from rw');exact ⟨i,j,rfl,rfl,cA hl,o _ H (.refl H) rfl⟩
   · exact o.elim
 · exact o.elim
end
section
variable {X:Cx}
def bZ (x y:Dv):Option (Rs Dv):=match x,y with
 | .tup a,.tup b=>if a.length + b.length≤100000 then a_ (.ok (.tup (a ++ b))) else ck
 | x,y=>cZ x y
theorem w8 {prog:r_} {w:E_} {A:G_} {E:g_→h_→Prop} {s:h_} {t b:k_} {ws:List g_} {Q:g_→h_→Prop} (ht:Sa s.heap t #[]) (hb:Sa s.heap b ws.toArray) (h0:Q (.ref b) s) :
 w_ (z_ prog w) A (Mi .Add (.ref t) (.ref b)) Q E s:=by
 obtain ⟨⟨cls,dd,data,sl⟩,ho,hc,n,hd⟩:=id ht;obtain ⟨⟨cls2,dd2,data2,sl2⟩,ho2,hc2,n2,hd2⟩:=id hb;simp only at hc hd hc2 hd2;subst hc hd hc2 hd2;exact QZ ⟨_,ho,rfl⟩ ⟨_,ho2,rfl⟩ Pg QC NZ NN (NC _ _)
  (tuple_addW0 t b #[] ws.toArray n n2 dd dd2 sl sl2 (by simp)) ⟨ho,ho2,h0⟩
def yS (K:e_):R2:=fun x y H Q=>∃ a b ys,x=.ref a∧y=.ref b∧SqT K H a []∧SqT K H b ys∧Q (.ref b) H
theorem w9:OpR X (Mi .Add) (yS X.K):=by
 intro f' s σ H x y v u Q I rx ry h;obtain ⟨a,b,ys,rfl,rfl,ha,hb,q⟩:=h;cases rx;cases ry;obtain ⟨its,r1,p1,_⟩:=I.tuple ha;obtain ⟨its2,r2,p2,_⟩:=I.tuple hb;cases r1;exact w8 p1 p2 ⟨.ref b,H,I,rfl,q⟩
def DK (X:Cx):R2:=fun x y H Q=>zO x y H Q∨(Ci X.K x y H Q∨yS X.K x y H Q)
theorem DM:OpR X (Mi .Add) (DK X):=o_add.or (op_catT.or w9)
theorem ux {x y:Dv} (h:∀ a b,¬ (x=.tup a∧y=.tup b)):bZ x y=cZ x y:=by
 unfold bZ;split
 · rename_i a b;exact absurd ⟨rfl,rfl⟩ (h a b)
 · rfl
theorem DN:GOp X (DK X) bZ:=by
 intro dx dy x y H Q rx ry o;by_cases hc:∃ a b,dx=.tup a∧dy=.tup b
 · obtain ⟨a,b,rfl,rfl⟩:=hc;have o':Out X H (if a.length + b.length≤100000 then a_ (.ok (.tup (a ++ b))) else ck) Q:=o;split at o'
   · rename_i hl;obtain ⟨p,xs,rfl,h1,q1⟩:=rx.tupE;obtain ⟨p2,ys,rfl,h2,q2⟩:=ry.tupE;cases xs with
     | nil =>
      have ha:a=[]:=by
       have:=q1.length;exact NO.mp this.symm
      subst ha;exact .inr (.inr ⟨p,p2,ys,rfl,rfl,SqT.of h1,SqT.of h2,o' _ H (.refl H) ⟨p2,ys,rfl,h2,by simpa using q2⟩⟩)
     | cons x0 xs =>
      refine .inr (.inl ⟨p,p2,x0 :: xs,ys,rfl,rfl,SqT.of h1,SqT.of h2,by simp,by rw [q1.length,q2.length]; exact cA hl,fun hy=>?_,fun hy l hl=>o' _ _ (aE hl _) ⟨l,_,rfl,aA,Reps.mono (aE hl _) _ _ (q1.append q2)⟩⟩);subst hy;have hb:b=[]:=NO.mp q2.length.symm;subst hb;exact o' _ H (.refl H) ⟨p,_,rfl,h1,by simpa using q1⟩
   · exact o'.elim
 · rw [ux (fun a b h=>hc ⟨a,b,h⟩)] at o;exact .inl (CV dx dy x y H Q rx ry o)
theorem iD {prog:r_} {w:E_} {A:G_} {E:g_→h_→Prop} {s:h_} {t sl:k_} {items:Array g_} {vl vu:g_} {lo hi:Option Int} {Q:g_→h_→Prop} (ht:Sa s.heap t items) (hs:s.heap.IsSliceOf sl vl vu .none) (pl:PC vl lo) (pu:PC vu hi)
 (hw:HT.sIx items.size 0 lo=0∧HT.sIx items.size items.size hi=items.size) (h:Q (.ref t) s):w_ (z_ prog w) A (Pw (.ref t) (.ref sl)) Q E s:=by
 obtain ⟨os,hos,hcs,hds⟩:=id hs;have hTs:s.TypeIs (.ref sl) "slice":=⟨os,hos,hcs⟩;unfold Pw
 try with_reducible refine LH ?_
 first | refine f_ (m_ ?_) | skip
 refine f_ (wpAny_sequenceKey ht.typeIs (by decide) ?_);refine f_ (L7 (name:=b_ "__getitem__") ht.typeIs LC
  (MU LC ht.typeIs entry_tuple_getitem ?_ (args_tuple_getitem _ _)))
 show w_ _ _ (OS (.ref t) >>= _) _ _ s;refine f_ (tupleItemsOf_ ht ?_);refine f_ (Pr hTs ?_);rw [if_pos (by decide)];refine f_ (HT.sliceApplied_gen hs pl pu ?_);have hyes:(((HT.sIx items.size 0 lo:Nat):Int) == 0 && (1:Int) == 1 && (HT.sIx items.size items.size hi - HT.sIx items.size 0 lo) == items.size)=c_:=by
  rw [hw.1,hw.2];simp
 show w_ _ _ (if (((HT.sIx items.size 0 lo:Nat):Int) == 0 && (1:Int) == 1 && (HT.sIx items.size items.size hi - HT.sIx items.size 0 lo) == items.size)=c_ then _ else _) _ _ s;rw [if_pos hyes];refine f_ (f_ (Pr ht.typeIs (m_ ?_)));rw [if_pos (by decide)];exact f_ (Ps (m_ ⟨_,rfl,m_ h⟩))
def Kb (K:e_):V→Option Int→Option Int→Hp→VK→Prop:=fun x lo hi H Q=>∃ a xs,x=.ref a∧SqT K H a xs ∧
 (HT.sIx xs.length 0 lo=0∧HT.sIx xs.length xs.length hi=xs.length)∧Q (.ref a) H
theorem xb:SlR X (Kb X.K):=by
 intro f' s σ H x v vl vu lo hi sl Q I rx hs pl pu h;obtain ⟨a,xs,rfl,hx,hw,q⟩:=h;cases rx;obtain ⟨its,r,ht,hz⟩:=I.tuple hx;have hlen:its.toArray.size=xs.length:=by rw [xy]; exact r.length.symm
 refine ⟨"tuple",_,LC.lookup,ht.typeIs,?_⟩;exact iD ht hs pl pu (by rw [hlen]; exact hw) ⟨.ref a,H,I,rfl,q⟩
def Jo (x:Dv) (lo hi:Option Int):Option (Rs Dv):=match x with
 | .tup xs=>a_ (.ok (.tup (yI xs lo hi)))
 | x=>Gh x lo hi
def cR (fa:FnE) (fl fh:FnO):FnE:=fun ρ=>bnd (fa ρ) fun x=>bnd (fl ρ) fun lo=>bnd (fh ρ) fun hi=>Jo x lo hi
theorem rN {α:Type} {xs:List α} {lo hi:Option Int} (h:HT.sIx xs.length 0 lo=0∧HT.sIx xs.length xs.length hi=xs.length):yI xs lo hi=xs:=by
 unfold yI;rw [h.1,h.2];simp
theorem Ag {a:F_} {lo hi:Option F_} {fa:FnE} {fl fh:FnO} {p2 pos:Pos} (ha:FE X a fa) (hl:FO X lo fl) (hh:FO X hi fh):FE X (.Subscript a (.Slice lo hi ck p2) pos) (cR fa fl fh) :=
 cY (qp ((sl_str.or tL).or (sl_tup.or xb)) ha.h hl.h hh.h) fun σ H Q ρ E o=>⟨ρ,E,Out.bind o fun d v H1 e1 r1 o1=>⟨ρ,E.mono e1,iV o1 fun l H2 e2 o2=>⟨ρ,(E.mono e1).mono e2,iV o2 fun u H3 e3 o3=>by
  have r3:=Rep.mono e3 d v (Rep.mono e2 d v r1);cases d <;> try exact (show False from o3).elim
  · rename_i z;unfold Jo Gh at o3;dsimp only at o3;split at o3
    · rename_i hz;exact .inl (.inl ⟨z,r3,cA hz,o3 _ H3 (.refl H3) rfl⟩)
    · exact o3.elim
  · rename_i ds;obtain ⟨a',xs,rfl,h1,h2⟩:=r3.tupE;have hlen:=h2.length;by_cases hw:HT.sIx xs.length 0 l=0∧HT.sIx xs.length xs.length u=xs.length
    · refine .inr (.inr ⟨a',xs,rfl,SqT.of h1,hw,o3 _ H3 (.refl H3) ⟨a',xs,rfl,h1,?_⟩⟩);rw [rN (by rw [← hlen]; exact hw)];exact h2
    · refine .inr (.inl ⟨a',xs,rfl,SqT.of h1,hw,fun p hp=>o3 _ _ (aE hp _) ⟨p,_,rfl,aA,Reps.mono (aE hp _) _ _ ?_⟩⟩);unfold wA yI;rw [h2.length];exact (h2.drop _).take _
  · rename_i ds;obtain ⟨a',xs,rfl,h1,h2⟩:=r3.lstE;refine .inl (.inr ⟨a',xs,rfl,SqL.of h1,fun p hp=>o3 _ _ (aE hp _) ⟨p,_,rfl,aA,Reps.mono (aE hp _) _ _ ?_⟩⟩);unfold wA yI;rw [h2.length];exact (h2.drop _).take _⟩⟩⟩
def rO:List Dv→Option (Rs Dv)
 | [.lst xs]=>a_ (.ok (.lst xs))
 | [.tup xs]=>a_ (.ok (.lst xs))
 | _=>ck
theorem Ah {p pos:Pos} {e:F_} {es:List F_} {ga:FnA} (hg:Gl X "list") (hm:X.mg "list"=ck) (ha:FA X (e :: es) ga) (he:i_ (e :: es) X.env=(d_,eval e X.env) :: i_ es X.env:=by kernel_rfl) (hpl:(Lr pos (i_ es X.env)).any (·.1)=d_:=by kernel_rfl):FE X (.Call (.Name "list" p) (e :: es) [] pos) (fB1 rO ga) :=
 cY (gK ni hg hm (by decide +kernel) ha.h (by decide) (by decide) he hpl) fun σ H Q ρ E o=>⟨ρ,E,OutA.bind o fun ds vs H1 e1 rs o1=>by
  unfold rO at o1;split at o1
  · rename_i xs;obtain ⟨v,rfl,r⟩:=dZ rs;obtain ⟨a,ws,rfl,h1,h2⟩:=r.lstE;exact ⟨a,ws,rfl,.inl (SqL.of h1),fun l hl=>o1 _ _ (aE hl _) ⟨l,ws,rfl,aA,Reps.mono (aE hl _) _ _ h2⟩⟩
  · rename_i xs;obtain ⟨v,rfl,r⟩:=dZ rs;obtain ⟨a,ws,rfl,h1,h2⟩:=r.tupE;exact ⟨a,ws,rfl,.inr (SqT.of h1),fun l hl=>o1 _ _ (aE hl _) ⟨l,ws,rfl,aA,Reps.mono (aE hl _) _ _ h2⟩⟩
  · exact o1.elim⟩
def inP (x:Dv) (ys:List Dv):Option Bool:=if okP x && q_ ((de x).depth≤63) && LX (toPys ys) then a_ ((toPys ys).any fun y=>Ll y (de x)) else ck
def Gr (x y:Dv):Option Bool:=match C9 x y with
 | some b=>a_ b
 | none=>match y with
  | .lst ys=>inP x ys
  | .tup ys=>inP x ys
  | _=>ck
def inX (x y:Dv):Option (Rs Dv):=match Gr x y with
 | some b=>a_ (.ok (.bl b))
 | none=>ck
def gR (x y:Dv):Option (Rs Dv):=match Gr x y with
 | some b=>a_ (.ok (.bl (!b)))
 | none=>ck
def Gs (X:Cx) (neg:Bool):R2:=fun x y H Q=>∃ dx ys b,Rep X.K H dx x∧(Rep X.K H (.lst ys) y∨Rep X.K H (.tup ys) y)∧inP dx ys=a_ b∧Q (.bl (if neg then !b else b)) H
theorem DO (hu:X.A.units + 64 < cLine):OpR X (Lj .In) (Gs X d_):=by
 intro f' s σ H x y v u Q I rx ry h;obtain ⟨dx,ys,b,qx,qy,hb,q⟩:=h;unfold inP at hb;split at hb
 · rename_i hc;cases hb;obtain ⟨⟨c1,c2⟩,c3⟩:(okP dx=c_∧(de dx).depth≤63)∧LX (toPys ys)=c_:=by simpa using hc
   obtain ⟨as,ra⟩:=Rep.reads I dx x v qx rx (Ly.mp c1).1;have hd:X.A.units + 1 + min (MI (toPys ys)) (de dx).depth < cLine:=by
    have:=Po (MI (toPys ys)) (de dx).depth;omega
   rcases qy with qy | qy
   · obtain ⟨bs,rb⟩:=Rep.reads I (.lst ys) y u qy ry (by simpa [de,Lh] using c3);exact SeqAt.in_list_reads rb ra c3 (Ly.mp c1).1 hd ⟨.bl _,H,I,rfl,q⟩
   · obtain ⟨bs,rb⟩:=Rep.reads I (.tup ys) y u qy ry (by simpa [de,Lh] using c3);exact SeqAt.in_tuple_reads rb ra c3 (Ly.mp c1).1 hd ⟨.bl _,H,I,rfl,q⟩
 · cases hb
theorem uy (hu:X.A.units + 64 < cLine):OpR X (Lj .NotIn) (Gs X c_):=by
 intro f' s σ H x y v u Q I rx ry h;obtain ⟨dx,ys,b,qx,qy,hb,q⟩:=h;unfold inP at hb;split at hb
 · rename_i hc;cases hb;obtain ⟨⟨c1,c2⟩,c3⟩:(okP dx=c_∧(de dx).depth≤63)∧LX (toPys ys)=c_:=by simpa using hc
   obtain ⟨as,ra⟩:=Rep.reads I dx x v qx rx (Ly.mp c1).1;have hd:X.A.units + 1 + min (MI (toPys ys)) (de dx).depth < cLine:=by
    have:=Po (MI (toPys ys)) (de dx).depth;omega
   rcases qy with qy | qy
   · obtain ⟨bs,rb⟩:=Rep.reads I (.lst ys) y u qy ry (by simpa [de,Lh] using c3);exact SeqAt.notIn_list_reads rb ra c3 (Ly.mp c1).1 hd ⟨.bl _,H,I,rfl,q⟩
   · obtain ⟨bs,rb⟩:=Rep.reads I (.tup ys) y u qy ry (by simpa [de,Lh] using c3);exact SeqAt.notIn_tuple_reads rb ra c3 (Ly.mp c1).1 hd ⟨.bl _,H,I,rfl,q⟩
 · cases hb
def Jp (X:Cx):R2:=fun x y H Q=>Hi X.K x y H Q∨Gs X d_ x y H Q
def uz (X:Cx):R2:=fun x y H Q=>pv X.K x y H Q∨Gs X c_ x y H Q
theorem HB (hu:X.A.units + 64 < cLine):OpR X (Lj .In) (Jp X):=o_in.or (DO hu)
theorem xf (hu:X.A.units + 64 < cLine):OpR X (Lj .NotIn) (uz X):=o_notIn.or (uy hu)
theorem HC:GOp X (Jp X) inX:=by
 intro dx dy x y H Q rx ry o;unfold inX Gr at o
 match h0:C9 dx dy with
 | some b =>
  rw [h0] at o;exact .inl (Hj dx dy x y H Q rx ry (by unfold inD; rw [h0]; exact o))
 | none =>
  rw [h0] at o;cases dy <;> try exact (show False from o).elim
  · rename_i ys
    match hp:inP dx ys with
    | none=>simp only [hp] at o; exact (show False from o).elim
    | some b=>simp only [hp] at o; exact .inr ⟨dx,ys,b,rx,.inr ry,hp,o _ H (.refl H) rfl⟩
  · rename_i ys
    match hp:inP dx ys with
    | none=>simp only [hp] at o; exact (show False from o).elim
    | some b=>simp only [hp] at o; exact .inr ⟨dx,ys,b,rx,.inl ry,hp,o _ H (.refl H) rfl⟩
theorem xg:GOp X (uz X) gR:=by
 intro dx dy x y H Q rx ry o;unfold gR Gr at o
 match h0:C9 dx dy with
 | some b =>
  rw [h0] at o;exact .inl (uc dx dy x y H Q rx ry (by unfold nu; rw [h0]; exact o))
 | none =>
  rw [h0] at o;cases dy <;> try exact (show False from o).elim
  · rename_i ys
    match hp:inP dx ys with
    | none=>simp only [hp] at o; exact (show False from o).elim
    | some b=>simp only [hp] at o; exact .inr ⟨dx,ys,b,rx,.inr ry,hp,o _ H (.refl H) rfl⟩
  · rename_i ys
    match hp:inP dx ys with
    | none=>simp only [hp] at o; exact (show False from o).elim
    | some b=>simp only [hp] at o; exact .inr ⟨dx,ys,b,rx,.inl ry,hp,o _ H (.refl H) rfl⟩
def BM:Str→List Dv→Option (Rs Dv)
 | x,[.str y]=>match Ld x y 0 x.length 1 with
  | i :: _=>a_ (.ok (.int i))
  | []=>ck
 | _,_=>ck
def Jq:V→List V→Hp→VK→Prop:=fun x xs H Q=>∃ i j k l,x=.str i∧xs=[.str j]∧Ld i j 0 i.length 1=k :: l∧Q (.int (k:Nat)) H
theorem DP:MtR X "str.index" Jq:=by
 intro f' s σ H x xs v us Q I rx rs h;obtain ⟨i,j,k,l,rfl,rfl,ho,q⟩:=h;obtain ⟨t,rfl⟩:=rx;obtain ⟨u,rfl,ru⟩:=eW rs;obtain ⟨t',rfl⟩:=ru;exact SC.index ho ⟨.int _,H,I.tok _,⟨_,rfl⟩,q⟩
theorem HE (i:Str) (ds:List Dv) (vs:List V) (H:Hp) (Q:VK) (rs:Reps X.K H ds vs) (o:Out X H (BM i ds) Q):Jq (.str i) vs H Q:=by
 unfold BM at o;split at o
 · rename_i j;obtain ⟨w,rfl,rw'⟩:=dZ rs;cases (show w=.str j from rw')
   match hk:Ld i j 0 i.length 1 with
   | []=>rw [hk] at o; exact o.elim
   | k :: l=>rw [hk] at o; exact ⟨i,j,k,l,rfl,rfl,hk,o _ H (.refl H) rfl⟩
 · exact o.elim
end
abbrev DQ (its:List g_) (n:Nat):Obj:={ cls:=.type "list",data:=.seq its.toArray n }
section
variable {X:Cx} {f':List (k_×Obj)} {σ:L2.St} {H:Hp} {s:h_} {a:k_} {xs:List V}
theorem Inv.untrack (I:Inv X f' σ (upd H a (.lst xs)) s) (ha:H a=ck) (hex:X.ex=[]):∃ its n,Vals xs its∧xs.length≤sizeLine∧(∀ o,X.s₀.heap.get? a=a_ o→X.H₀ a≠ck)∧(∀ p∈X.pn ++ f',p.1≠a)∧Inv X (f' ++ [(a,DQ its n)]) σ H s:=by
 obtain ⟨z,its,n,rv,hl,e⟩:=I.lstM (l:=a) (xs:=xs) aA;have hb:∀ b u,H b=a_ u→b≠a:=fun b u q=>ax q ha;have low:∀ b,upd H a (.lst xs) b=ck→H b=ck:=fun b q=>by
  by_cases hba:b=a
  · rw [hba]; exact ha
  · rw [aB hba] at q; exact q
 have dn:∀ b u,upd H a (.lst xs) b=a_ u→(∀ ys,u≠.lst ys)→H b=a_ u:=fun b u q hu=>by
  by_cases hba:b=a
  · rw [hba,aA] at q;exact absurd (Lc q).symm (hu xs)
  · rw [aB hba] at q; exact q
 have nfs:a ∉ X.fs:=fun hm=>by
  obtain ⟨_,o,ho,_⟩:=I.ok.funs.mem hm;have:=I.base.free a o ho (I.ok.frf a hm) (by rw [hex]; simp);rw [aA] at this;cases this
 have npin:∀ p∈X.pn ++ f',p.1≠a:=fun p hp w=>by
  have:=(I.pin p hp).2.1;rw [w,aA] at this;cases this
 refine ⟨its,n,rv,z,fun o ho h0=>?_,npin,⟨I.ok,I.os,I.bare,⟨I.base.keep,I.base.slot,fun b o q n hx=>low b (I.base.free b o q n hx),I.base.there,fun b ys q=>dn b _ (I.base.tups b ys q) (fun _ w=>by cases w),fun b o u q=>dn b _ (I.base.frzs b o u q) (fun _ w=>by cases w),fun b ps q=>?_⟩,I.loc,I.cell,low _ I.free,fun x c q=>low _ (I.freeC x c q),fun p hp=>?_,fun b u q=>?_,I.len⟩⟩
 · have:=I.base.free a o ho h0 (by rw [hex]; simp);rw [aA] at this;cases this
 · obtain ⟨more,q'⟩:=I.base.tbls b ps q;exact ⟨more,dn b _ q' (fun _ w=>by cases w)⟩
 · rcases K8.mp hp with h1 | h1
   · obtain ⟨q1,q2,q3⟩:=I.pin p (y_ _ h1);exact ⟨q1,low _ q2,q3⟩
   · rcases K8.mp h1 with h1 | h1
     · obtain ⟨q1,q2,q3⟩:=I.pin p (l_ _ h1);exact ⟨q1,low _ q2,q3⟩
     · simp only [Le] at h1;subst h1;refine ⟨e,ha,fun w=>?_,nfs,fun v w=>by cases w⟩;obtain ⟨m,⟨o,es,ep,ho,hd,_⟩,_⟩:=I.loc;have w':a=X.env.locals:=w;rw [← w',e] at ho;cases ho;cases hd
 · have hq:upd H a (.lst xs) b=a_ u:=by rw [aB (hb b u q)]; exact q
   refine (I.hok b u hq).stay (fun _ _ _ w=>w) (fun c w=>dn c _ w (fun _ w=>by cases w)) (fun c ys w=>dn c _ w (fun _ w=>by cases w)) fun c _ _ w=>dn c _ w (fun _ w=>by cases w)
theorem Inv.retrack {its:List g_} {n:Nat} (I:Inv X (f' ++ [(a,DQ its n)]) σ H s) (rv:Vals xs its) (hz:xs.length≤sizeLine) (h0:∀ o,X.s₀.heap.get? a=a_ o→X.H₀ a≠ck) (hp0:∀ p∈X.pn ++ f',p.1≠a):H a=ck∧Inv X f' σ (upd H a (.lst xs)) s:=by
 obtain ⟨e,ha,nL,nf,nc⟩:=I.pin (a,DQ its n) (l_ _ (l_ _ (by simp)));have up:∀ b u,H b=a_ u→upd H a (.lst xs) b=a_ u:=fun b u q=>by rw [aB (ax q ha)]; exact q
 have lo:∀ b,H b=ck→b≠a→upd H a (.lst xs) b=ck:=fun b q h=>by rw [aB h]; exact q
 refine ⟨ha,⟨I.ok,I.os,I.bare,⟨I.base.keep,I.base.slot,fun b o q n hx=>lo b (I.base.free b o q n hx) (fun w=>h0 o (w ▸ q) (w ▸ n)),I.base.there,fun b ys q=>up b _ (I.base.tups b ys q),fun b o u q=>up b _ (I.base.frzs b o u q),fun b ps q=>?_⟩,I.loc,I.cell,lo _ I.free (M8 nL),fun x c q=>lo _ (I.freeC x c q) (fun w=>?_),fun p hp=>?_,fun b u q=>?_,I.len⟩⟩
 · obtain ⟨more,q'⟩:=I.base.tbls b ps q;exact ⟨more,up b _ q'⟩
 · obtain ⟨v,o,ho,hd⟩:=I.cell x c q;rw [w] at ho;have e':s.heap.get? a=a_ (DQ its n):=e;rw [e'] at ho;cases ho;cases hd
 · obtain ⟨q1,q2,q3⟩:=I.pin p (by
    rcases K8.mp hp with h1 | h1
    · exact y_ _ h1
    · exact l_ _ (y_ _ h1))
   exact ⟨q1,lo _ q2 (hp0 p hp),q3⟩
 · by_cases hb:b=a
   · subst hb;rw [aA] at q;cases q;exact ⟨hz,its,n,rv,e⟩
   · rw [aB hb] at q;exact (I.hok b u q).stay (fun _ _ _ w=>w) (fun c w=>up c _ w) (fun c ys w=>up c _ w) fun c _ _ w=>up c _ w
end
def HF (t:TE):TE:=fun σ Hf Q=>∃ H a xs,Hf=upd H a (.lst xs)∧H a=ck∧t σ H fun v H'=>H' a=ck→Q v (upd H' a (.lst xs))
def HG (t:TT):TT:=fun σ Hf Q=>∃ H a xs,Hf=upd H a (.lst xs)∧H a=ck∧t σ H fun v H'=>H' a=ck→Q v (upd H' a (.lst xs))
def HH (t:TA):TA:=fun σ Hf Q=>∃ H a xs,Hf=upd H a (.lst xs)∧H a=ck∧t σ H fun v H'=>H' a=ck→Q v (upd H' a (.lst xs))
def HI (t:TI):TI:=fun σ Hf Q=>∃ H a xs,Hf=upd H a (.lst xs)∧H a=ck∧t σ H fun v H'=>H' a=ck→Q v (upd H' a (.lst xs))
section
variable {X:Cx} {e:F_} {es:List F_}
theorem pB (hex:X.ex=[]) {t:TE} (h:PE X e t):PE X e (HF t):=by
 intro f' s σ Hf Q I ⟨H,a,xs,e1,ha,q⟩;subst e1;obtain ⟨its,n,rv,hz,h0,hp,I'⟩:=Inv.untrack I ha hex;refine thn (h _ s σ H _ I' q) fun u s' ⟨v,H',I2,r,q2⟩=>?_;obtain ⟨ha',I3⟩:=Inv.retrack I2 rv hz h0 hp;exact ⟨v,_,I3,r,q2 ha'⟩
theorem Ai (hex:X.ex=[]) {t:TT} (h:PT X e t):PT X e (HG t):=by
 intro f' s σ Hf Q I ⟨H,a,xs,e1,ha,q⟩;subst e1;obtain ⟨its,n,rv,hz,h0,hp,I'⟩:=Inv.untrack I ha hex;refine thn (h _ s σ H _ I' q) fun u s' ⟨H',I2,q2⟩=>?_;obtain ⟨ha',I3⟩:=Inv.retrack I2 rv hz h0 hp;exact ⟨_,I3,q2 ha'⟩
theorem Aj (hex:X.ex=[]) {t:TA} (h:PA X es t):PA X es (HH t):=by
 intro pos f' s σ Hf Q I ⟨H,a,xs,e1,ha,q⟩;subst e1;obtain ⟨its,n,rv,hz,h0,hp,I'⟩:=Inv.untrack I ha hex;refine thn (h pos _ s σ H _ I' q) fun u s' ⟨v,H',I2,r,q2⟩=>?_;obtain ⟨ha',I3⟩:=Inv.retrack I2 rv hz h0 hp;exact ⟨v,_,I3,r,q2 ha'⟩
theorem Al (hex:X.ex=[]) {tg:F_} {t:TI} (h:PI X tg e t):PI X tg e (HI t):=by
 intro f' s σ Hf R I ⟨H,a,xs,e1,ha,q⟩;subst e1;obtain ⟨its,n,rv,hz,h0,hp,I'⟩:=Inv.untrack I ha hex;refine thn (h _ s σ H _ I' q) fun u s1 hs1=>thn hs1 fun itv s2 ⟨it,fp,tn,J,H',e2,I2,T,t0,fpo,q2⟩=>?_;obtain ⟨ha',I3⟩:=Inv.retrack I2 rv hz h0 hp;refine ⟨it,fp,tn,J,_,e2,I3,T,t0,fun b hb=>?_,q2 ha'⟩;obtain ⟨g0,g1,g2,g3,g4,g5⟩:=fpo b hb;have hba:b≠a:=fun w=>g5 (a,DQ its n) (l_ _ (l_ _ (by simp))) w.symm;refine ⟨by rw [aB hba]; exact g0,g1,g2,g3,g4,fun p hp'=>g5 p ?_⟩;rcases K8.mp hp' with w | w
 · exact y_ _ w
 · exact l_ _ (y_ _ w)
end
mutual
def imm:Dv→Bool
 | .non=>c_
 | .bl _=>c_
 | .int _=>c_
 | .str _=>c_
 | .tup ds=>imms ds
 | .lst _=>d_
 | .scr _=>d_
 | .exn _=>d_
def imms:List Dv→Bool
 | []=>c_
 | d :: ds=>imm d && imms ds
end
section
variable {K:e_} {H H':Hp}
mutual
theorem Rep.tups (k:∀ b ys,H b=a_ (.tup ys)→H' b=a_ (.tup ys)):∀ (d:Dv) (v:V),imm d=c_→Rep K H d v→Rep K H' d v
 | .non,_,_,h=>h
 | .bl _,_,_,h=>h
 | .int _,_,_,h=>h
 | .str _,_,_,h=>h
 | .tup ds,v,i,h=>by
  obtain ⟨a,xs,r,h,q⟩:=h.tupE;exact ⟨a,xs,r,k _ _ h,Reps.tups k ds xs (by simpa [imm] using i) q⟩
 | .lst _,_,i,_=>by simp [imm] at i
 | .scr _,_,i,_=>by simp [imm] at i
 | .exn _,_,i,_=>by simp [imm] at i
theorem Reps.tups (k:∀ b ys,H b=a_ (.tup ys)→H' b=a_ (.tup ys)):∀ (ds:List Dv) (vs:List V),imms ds=c_→Reps K H ds vs→Reps K H' ds vs
 | [],_,_,h=>h
 | d :: ds,vs,i,h=>by
  obtain ⟨v,us,r,h,q⟩:∃ v us,vs=v :: us∧Rep K H d v∧Reps K H ds us:=h;have i':imm d=c_∧imms ds=c_:=by simpa [imms] using i
  exact ⟨v,us,r,Rep.tups k d v i'.1 h,Reps.tups k ds us i'.2 q⟩
end
end
inductive Fo where
 | nx (ρ:Ev) (ds:List Dv)
 | rt (d:Dv)
abbrev gH:=Ev→List Dv→Option Fo
def OutW (X:Cx) (i:Nat) (a:k_) (H:Hp) (o:Option Fo) (D:sy):Prop:=match o with
 | none=>False
 | some (.rt d)=>∀ v H',Same H H'→Rep X.K H' d v→D.rt v H'
 | some (.nx ρ ds)=>∀ σ H' xs,Same H H'→H' a=ck→σ[i]?=a_ (a_ (.ref a))→Envs X.K H' σ ρ→Reps X.K H' ds xs→D.nx σ (upd H' a (.lst xs))
theorem OutW.mono {X:Cx} {i:Nat} {a:k_} {H H':Hp} {D:sy} (e:Same H H'):∀ {o:Option Fo},OutW X i a H o D→OutW X i a H' o D
 | none,h=>h
 | some (.rt _),h=>fun v H1 e1 r=>h v H1 (e.trans e1) r
 | some (.nx _ _),h=>fun σ H1 xs e1=>h σ H1 xs (e.trans e1)
def tO (X:Cx) (i:Nat) (f:gH):TS:=fun D σ Hf=>∃ H a xs ρ ds,Hf=upd H a (.lst xs)∧H a=ck∧σ[i]?=a_ (a_ (.ref a))∧Envs X.K H σ ρ∧Reps X.K H ds xs∧OutW X i a H (f ρ ds) D
structure FO1 (X:Cx) (i:Nat) (st:LY) (f:gH):Prop where
 h:PS X st (tO X i f)
structure FOs (X:Cx) (i:Nat) (st:List LY) (f:gH):Prop where
 h:PSs X st (tO X i f)
def lz {α:Type} (o:Option (Rs α)) (k:α→Option Fo):Option Fo:=match o with
 | some (.ok a)=>k a
 | _=>ck
def oX:gH:=fun ρ ds=>a_ (.nx ρ ds)
def cX (f g:gH):gH:=fun ρ ds=>match f ρ ds with
 | some (.nx ρ' ds')=>g ρ' ds'
 | o=>o
def et (j:Nat) (f:FnE):gH:=fun ρ ds=>lz (f ρ) fun d=>a_ (.nx (ρ.set j (a_ d)) ds)
def oIf (c:FnB) (f g:gH):gH:=fun ρ ds=>lz (c ρ) fun k=>if k then f ρ ds else g ρ ds
def Am (i:Nat) (c:FnB) (f g:gH):gH:=fun ρ ds=>lz (c (ρ.set i (a_ (.lst ds)))) fun k=>if k then f ρ ds else g ρ ds
def kq (i:Nat) (f:FnE):gH:=fun ρ ds=>lz (f (ρ.set i (a_ (.lst ds)))) fun d=>a_ (.rt d)
def xh (f:FnE):gH:=fun ρ ds=>if ds.length < 100000 then lz (f ρ) fun d=>a_ (.nx ρ (ds ++ [d])) else ck
section
variable {X:Cx} {i:Nat} {st:LY} {sts:List LY} {f g:gH} {fe:FnE} {gb:FnB} {e c:F_} {pos:Pos}
theorem kr {H Hf:Hp} {a:k_} {xs:List V} (ha:H a=ck) (e:Same (upd H a (.lst xs)) Hf):∃ H',Hf=upd H' a (.lst xs)∧H' a=ck∧Same H H':=by
 refine ⟨fun b=>if b=a then ck else Hf b,?_,by simp,fun b u q=>?_⟩
 · funext b;by_cases hb:b=a
   · subst hb;rw [aA];exact e b _ aA
   · rw [aB hb];simp [hb]
 · have hb:b≠a:=ax q ha;simp only [hb,if_false];exact e b u (by rw [aB hb]; exact q)
theorem fX {H:Hp} {a:k_} {xs:List V} (ha:H a=ck):Same H (upd H a (.lst xs)):=aE ha _
theorem eZ {H:Hp} {a:k_} {xs:List V} {σ:L2.St} {ρ:Ev} {ds:List Dv} (ha:H a=ck) (hi:σ[i]?=a_ (a_ (.ref a))) (E:Envs X.K H σ ρ) (r:Reps X.K H ds xs):Envs X.K (upd H a (.lst xs)) σ (ρ.set i (a_ (.lst ds))):=by
 have E':=E.mono (fX (xs:=xs) ha);refine ⟨by rw [Lu]; exact E'.len,fun j d hj=>?_⟩;by_cases hij:i=j
 · subst hij;by_cases hl:i < ρ.length
   · rw [K1 hl] at hj;cases hj;exact ⟨.ref a,hi,a,xs,rfl,aA,Reps.mono (fX ha) _ _ r⟩
   · rw [Mj (by rw [Lu]; omega)] at hj;cases hj
 · rw [J_ hij] at hj;exact E'.at' j d hj
theorem An:FOs X i [] oX:=⟨fun f' s σ Hf D I ⟨H,a,xs,ρ,ds,e1,ha,hi,E,r,o⟩=>by
 subst e1;exact sP f' s σ _ D I (o σ H xs (.refl H) ha hi E r)⟩
theorem xj (h1:FO1 X i st f) (h2:FOs X i sts g):FOs X i (st :: sts) (cX f g):=⟨fun f' s σ Hf D I ⟨H,a,xs,ρ,ds,e1,ha,hi,E,r,o⟩=>by
 refine j6 h1.h h2.h f' s σ Hf D I ⟨H,a,xs,ρ,ds,e1,ha,hi,E,r,?_⟩;unfold cX at o
 match hf:f ρ ds with
 | none=>rw [hf] at o; exact o.elim
 | some (.rt d)=>rw [hf] at o; exact o
 | some (.nx ρ' ds')=>rw [hf] at o; exact fun σ' H' xs' e' ha' hi' E' r'=>⟨H',a,xs',ρ',ds',rfl,ha',hi',E',r',OutW.mono e' o⟩⟩
theorem Ao (h1:FO1 X i st f):FOs X i [st] f:=⟨sQ h1.h⟩
theorem DR (hex:X.ex=[]) (j:Nat) (hij:i≠j) {x:Str} {pos':Pos} (hN:X.N.Nodup) (hi:X.N[j]?=a_ x) (hx:Loc X.env.scope x) (he:FE X e fe) (hs:Mg e (a_ (.Name x pos')) pos.line X.env=pure d_:=by kernel_rfl) (hf:X.fn x=c_∨X.env.scope.names.lookup x=a_ .local:=by first | exact .inl rfl | exact .inr rfl | assumption) :
 FO1 X i (.Assign [.Name x pos'] e pos) (et j fe):=⟨fun f' s σ Hf D I ⟨H,a,xs,ρ,ds,e1,ha,hia,E,r,o⟩=>by
 refine qh hN hi hx (pB hex he.h) hs hf f' s σ Hf D I ⟨H,a,xs,e1,ha,ρ,E,?_⟩;unfold et at o
 match hfe:fe ρ with
 | none=>rw [hfe] at o; exact o.elim
 | some (.exc _)=>rw [hfe] at o; exact o.elim
 | some (.ok d) =>
  rw [hfe] at o;exact fun v H' e' rd ha'=>o _ H' xs e' ha' (by rw [J_ (M8 hij)]; exact hia) ((E.mono e').set rd) (Reps.mono e' _ _ r)⟩
theorem HJ (hex:X.ex=[]) {as bs:List LY} (hc:FT X c gb) (ha:FOs X i as f) (hb:FOs X i bs g):FO1 X i (.If c as bs pos) (oIf gb f g):=⟨fun f' s σ Hf D I ⟨H,a,xs,ρ,ds,e1,ha',hia,E,r,o⟩=>by
 refine zq (Ai hex hc.h) ha.h hb.h f' s σ Hf D I ⟨H,a,xs,e1,ha',ρ,E,?_⟩;unfold oIf at o
 match hg:gb ρ with
 | none=>rw [hg] at o; exact o.elim
 | some (.exc _)=>rw [hg] at o; exact o.elim
 | some (.ok c_)=>rw [hg] at o; exact fun H' e' h'=>yy ⟨H',a,xs,ρ,ds,rfl,h',hia,E.mono e',Reps.mono e' _ _ r,OutW.mono e' o⟩
 | some (.ok d_)=>rw [hg] at o; exact fun H' e' h'=>yx ⟨H',a,xs,ρ,ds,rfl,h',hia,E.mono e',Reps.mono e' _ _ r,OutW.mono e' o⟩⟩
theorem DS {as bs:List LY} (hc:FT X c gb) (ha:FOs X i as f) (hb:FOs X i bs g):FO1 X i (.If c as bs pos) (Am i gb f g):=⟨fun f' s σ Hf D I ⟨H,a,xs,ρ,ds,e1,ha',hia,E,r,o⟩=>by
 subst e1;refine zq hc.h ha.h hb.h f' s σ _ D I ⟨_,eZ ha' hia E r,?_⟩;unfold Am at o
 match hg:gb (ρ.set i (a_ (.lst ds))) with
 | none=>rw [hg] at o; exact o.elim
 | some (.exc _)=>rw [hg] at o; exact o.elim
 | some (.ok c_) =>
  rw [hg] at o;intro H2 e2;obtain ⟨H',q1,q2,q3⟩:=kr ha' e2;exact yy ⟨H',a,xs,ρ,ds,q1,q2,hia,E.mono q3,Reps.mono q3 _ _ r,OutW.mono q3 o⟩
 | some (.ok d_) =>
  rw [hg] at o;intro H2 e2;obtain ⟨H',q1,q2,q3⟩:=kr ha' e2;exact yx ⟨H',a,xs,ρ,ds,q1,q2,hia,E.mono q3,Reps.mono q3 _ _ r,OutW.mono q3 o⟩⟩
theorem DT (he:FE X e fe):FO1 X i (.Return (a_ e) pos) (kq i fe):=⟨fun f' s σ Hf D I ⟨H,a,xs,ρ,ds,e1,ha',hia,E,r,o⟩=>by
 subst e1;refine yp he.h f' s σ _ D I ⟨_,eZ ha' hia E r,?_⟩;unfold kq at o
 match hg:fe (ρ.set i (a_ (.lst ds))) with
 | none=>rw [hg] at o; exact o.elim
 | some (.exc _)=>rw [hg] at o; exact o.elim
 | some (.ok d)=>rw [hg] at o; exact fun v H2 e2 rd=>o v H2 ((fX ha').trans e2) rd⟩
theorem DU (hex:X.ex=[]) {x:Str} {apos cpos:Pos} (hx:PE X (.Name x apos) (zo i)) (he:FE X e fe)
 (hbase:Nf (.Name x apos) "append" X.env (eval (.Name x apos) X.env)=eval (.Name x apos) X.env:=by kernel_rfl)
 (hfew:((Lr cpos (i_ [e] X.env)).all (fun x=>!x.1) && (Ph cpos (NL [] X.env)).all (fun x=>x.1.isSome)
   && q_ ([e].length + ([]:List MR).length + (if ([]:List MR).isEmpty then 0 else 1) < 30))=c_:=by kernel_rfl)
 {ap:Pos} (hline:(ap.endLine == cpos.line)=c_:=by kernel_rfl) (hs:i_ [e] X.env=(d_,eval e X.env) :: i_ [] X.env:=by kernel_rfl) (hplain:(Lr cpos (i_ [] X.env)).any (·.1)=d_:=by kernel_rfl)
 (hsw:Mg (.Call (.Attribute (.Name x apos) "append" ap) [e] [] cpos) ck pos.line X.env=pure d_:=by kernel_rfl) :
 FO1 X i (.Expr (.Call (.Attribute (.Name x apos) "append" ap) [e] [] cpos) pos) (xh fe):=⟨fun f' s σ Hf D I ⟨H,a,xs,ρ,ds,e1,ha',hia,E,r,o⟩=>by
 refine sS (wB NM On PySem.F.type_list_append tN hx (Aj hex (pk he tU hs).h) hbase hfew hline hs hplain) hsw f' s σ Hf D I ?_;unfold xh at o;split at o
 · rename_i hl
   match hfe:fe ρ with
   | none=>rw [hfe] at o; exact o.elim
   | some (.exc _)=>rw [hfe] at o; exact o.elim
   | some (.ok d) =>
    rw [hfe] at o;refine ⟨.ref a,hia,.inl ⟨rfl,xs,SqL.of (by rw [e1]; exact aA)⟩,H,a,xs,e1,ha',ρ,E,?_⟩;show OutA X H (aa fe ah ρ) _;rw [ae hfe aw];intro vs H' e' rs ha2;obtain ⟨v,rfl,rv⟩:=dZ rs;have hz:xs.length < sizeLine:=by
     have:=r.length;have h2:=cA (n:=xs.length + 1) (by omega);omega
    refine ⟨a,xs,v,rfl,rfl,aA,hz,?_⟩;rw [oZ];exact o σ H' (xs ++ [v]) e' ha2 hia (E.mono e') ((Reps.mono e' _ _ r).append ⟨v,[],rfl,rv,rfl⟩)
 · exact o.elim⟩
end
def uA (i:Nat) (g:FnA) (f:gH):FnS:=fun ρ=>bO (g ρ) fun ds=>if ds.length≤100000 then (match f (ρ.set i ck) ds with
 | some (.nx ρ' ds')=>a_ (.nx (ρ'.set i (a_ (.lst ds'))))
 | some (.rt d)=>a_ (.rt d)
 | none=>ck) else ck
section
variable {X:Cx} {i:Nat} {sts:List LY} {f:gH} {g:FnA} {es:List F_} {pos lp:Pos}
theorem Ap {x:Str} {pos':Pos} (hN:X.N.Nodup) (hi:X.N[i]?=a_ x) (hx:Loc X.env.scope x) (hg:FA X es g) (hr:FOs X i sts f) (hs:Mg (.List es lp) (a_ (.Name x pos')) pos.line X.env=pure d_:=by kernel_rfl)
 (hf:X.fn x=c_∨X.env.scope.names.lookup x=a_ .local:=by first | exact .inl rfl | exact .inr rfl | assumption):FSs X (.Assign [.Name x pos'] (.List es lp) pos :: sts) (uA i g f):=⟨fun f' s σ H D I ⟨ρ,E,o⟩=>by
 refine j6 (qh (i:=i) hN hi hx (yw hg.h) hs hf) hr.h f' s σ H D I ⟨ρ,E,?_⟩;unfold uA at o
 match hgr:g ρ with
 | none=>rw [hgr] at o; exact o.elim
 | some (.exc _)=>rw [hgr] at o; exact o
 | some (.ok ds) =>
  rw [hgr] at o;intro vs H1 e1 rs;have o2:OutS X H (if ds.length≤100000 then (match f (ρ.set i ck) ds with
   | some (.nx ρ' ds')=>a_ (.nx (ρ'.set i (a_ (.lst ds'))))
   | some (.rt d)=>a_ (.rt d)
   | none=>ck) else ck) D:=o
  by_cases hl:ds.length≤100000
  · rw [if_pos hl] at o2;refine ⟨by rw [rs.length]; exact cA hl,fun p hp=>?_⟩;have hil:i < σ.length:=by rw [I.len]; exact (K2.mp hi).1
    refine ⟨H1,p,vs,ρ.set i ck,ds,rfl,hp,K1 hil,?_,rs,?_⟩
    · have E1:=(E.mono e1).fgt1 i;refine ⟨by rw [Lu]; exact E1.len,fun j d hj=>?_⟩;by_cases hij:i=j
      · subst hij;by_cases hl2:i < ρ.length
        · rw [K1 hl2] at hj; cases hj
        · rw [Mj (by rw [Lu]; omega)] at hj; cases hj
      · obtain ⟨v,q1,q2⟩:=E1.at' j d hj;exact ⟨v,by rw [J_ hij]; exact q1,q2⟩
    · match hfr:f (ρ.set i ck) ds with
      | none=>rw [hfr] at o2; exact o2.elim
      | some (.rt d)=>rw [hfr] at o2; exact fun v H' e' r'=>o2 v H' (e1.trans e') r'
      | some (.nx ρ' ds') =>
       rw [hfr] at o2;exact fun σ' H' xs' e' ha' hi' E' r'=>o2 σ' _ ((e1.trans e').trans (fX ha')) (eZ ha' hi' E' r')
  · rw [if_neg hl] at o2;exact o2.elim⟩
end
def la (j:Nat) (js:List Nat) (body:gH):List Dv→Ev→List Dv→Option Fo
 | [],ρ,xs=>a_ (.nx (fgt js ρ) xs)
 | d :: ds,ρ,xs=>match body ((fgt js ρ).set j (a_ d)) xs with
  | some (.nx ρ' xs')=>la j js body ds ρ' xs'
  | o=>o
def uB (j:Nat) (js:List Nat) (src:FnA) (body:gH):gH:=fun ρ xs=>lz (src ρ) fun ds=>if imms ds=c_ then la j js body ds ρ xs else ck
theorem qK:∀ {ds:List Dv} {n:Nat} {d:Dv},imms ds=c_→ds[n]?=a_ d→imm d=c_
 | [],_,_,_,h=>by simp at h
 | e :: ds,0,d,i,h=>by
  have i':imm e=c_∧imms ds=c_:=by simpa [imms] using i
  cases (show a_ e=a_ d from h);exact i'.1
 | e :: ds,n + 1,d,i,h=>by
  have i':imm e=c_∧imms ds=c_:=by simpa [imms] using i
  exact qK i'.2 (show ds[n]?=a_ d from h)
theorem l4 {K:e_} {H:Hp} {a:k_} {xs:List V} {d:Dv} {v:V} (i:imm d=c_) (r:Rep K (upd H a (.lst xs)) d v):Rep K H d v :=
 Rep.tups (fun b ys q=>by
  by_cases hb:b=a
  · rw [hb,aA] at q; cases q
  · rw [aB hb] at q; exact q) d v i r
theorem DV {X:Cx} {i:Nat} {tg iter:F_} {body:List LY} {pos:Pos} {src:FnA} {fb:gH} (hex:X.ex=[]) (j:Nat) (js:List Nat) (hij:i≠j) (hp:OF (z_ X.prog X.w) X.A X.env X.xe) (hc:X.calm=c_) (hi:FI X tg iter src) (hg:PG X tg (wq j)) (hb:FOs X i body fb)
 (hs:∀ x,K_ iter X.env x=pure x:=by intro _; kernel_rfl):FO1 X i (.For tg iter body [] pos) (uB j js src fb):=⟨fun f' s σ Hf D I ⟨H,a,xs,ρ,ds,e1,ha,hia,E,r,o⟩=>by
 refine td hp hc (Al hex hi.h) hg hb.h hs f' s σ Hf D I ⟨H,a,xs,e1,ha,ρ,E,?_⟩;unfold uB at o
 match hf:src ρ with
 | none=>rw [hf] at o; exact o.elim
 | some (.exc _)=>rw [hf] at o; exact o.elim
 | some (.ok us) =>
  rw [hf] at o;have o0:OutW X i a H (if imms us=c_ then la j js fb us ρ ds else ck) D:=o;by_cases him:imms us=c_
  · rw [if_pos him] at o0;intro J H1 e1 wk ha1;have o1:=OutW.mono e1 o0;refine ⟨fun n m σ' Hf'=>m=us.length - n∧n≤us.length∧∃ H' xs' ρ' ds',Hf'=upd H' a (.lst xs')∧H' a=ck∧Same H1 H'∧σ'[i]?=a_ (a_ (.ref a))∧Envs X.K H' σ' ρ'∧Reps X.K H' ds' xs'∧OutW X i a H' (la j js fb (us.drop n) ρ' ds') D,
     ⟨us.length,by simp,Mh _,H1,xs,ρ,ds,rfl,ha1,.refl H1,hia,E.mono e1,Reps.mono e1 _ _ r,by simpa using o1⟩,?_⟩
    rintro n m σ' Hf' ⟨rfl,hn,H',xs',ρ',ds',rfl,ha',e2,hia',E',r',o'⟩;have e2f:Same H1 (upd H' a (.lst xs')):=e2.trans (fX ha');by_cases hlt:n < us.length
    · refine .inr ⟨wk.go n _ e2f hlt,fun σ2 Hf2=>∃ H2 xs2 ρ2 ds2,Hf2=upd H2 a (.lst xs2)∧H2 a=ck∧Same H1 H2∧σ2[i]?=a_ (a_ (.ref a))∧Envs X.K H2 σ2 ρ2∧Reps X.K H2 ds2 xs2∧OutW X i a H2 (la j js fb (us.drop (n + 1)) ρ2 ds2) D,
       fun σ2 Hf2 q=>⟨us.length - (n + 1),by omega,rfl,hlt,q⟩,fun x H2 y=>?_⟩
      obtain ⟨rfl,d,hd,rd⟩:=wk.yld n _ x H2 e2f hlt y;have rd':=l4 (qK him hd) rd;rw [iT hd] at o';show tO X i fb _ _ _;refine ⟨H',a,xs',(fgt js ρ').set j (a_ d),ds',rfl,ha',by rw [J_ (M8 hij)]; exact hia',(Envs.fgt js E').set rd',r',?_⟩;unfold la at o'
      match hb':fb ((fgt js ρ').set j (a_ d)) ds' with
      | none=>rw [hb'] at o'; exact o'
      | some (.rt r)=>rw [hb'] at o'; exact o'
      | some (.nx ρ2 ds2)=>rw [hb'] at o'; exact fun σ2 H3 xs3 e3 h3 hi3 E3 r3=>⟨H3,xs3,ρ2,ds2,rfl,h3,e2.trans e3,hi3,E3,r3,OutW.mono e3 o'⟩
    · have hn':n=us.length:=by omega
      subst hn';rw [Og] at o';exact .inl ⟨wk.stop _ e2f,o' σ' H' xs' (.refl H') ha' hia' (Envs.fgt js E') r'⟩
  · rw [if_neg him] at o0;exact o0.elim⟩
end FD
namespace FD
open PySem PySem.Spec PyProof.Rows L2 PySem.W
def bW:Dv→Bool
 | .bl _=>c_
 | .int _=>c_
 | _=>d_
theorem Aq (K:e_) (d:Dv):MV K (.type (tyD d)) (.type "int")=a_ (bW d):=by cases d <;> kernel_rfl
theorem DW:LJ (b_ "int")=a_ (.type "int"):=by kernel_rfl
def Gu:List Dv→Option (Rs Dv)
 | [.int i,.int j]=>a_ (.ok (.int (if j > i then j else i)))
 | _=>ck
def Ar:List Dv→Option (Rs Dv)
 | [.int i,.int j]=>a_ (.ok (.int (if j < i then j else i)))
 | _=>ck
def BN:List Dv→Option (Rs Dv)
 | [.int i]=>if i.natAbs.log2 < 1920 then a_ (.ok (.str (QX i))) else ck
 | _=>ck
section
variable {X:Cx} {p pos:Pos} {e:F_} {es:List F_} {ga:FnA}
theorem DX (hc:X.calm=c_) (hg:Gl X "max") (hm:X.mg "max"=ck) (ha:FA X (e :: es) ga) (he:i_ (e :: es) X.env=(d_,eval e X.env) :: i_ es X.env:=by kernel_rfl) (hpl:(Lr pos (i_ es X.env)).any (·.1)=d_:=by kernel_rfl):FE X (.Call (.Name "max" p) (e :: es) [] pos) (fB1 Gu ga) :=
 cY (eM (tu hc) hg hm PZ ha.h (by decide) (by decide) he hpl) fun σ H Q ρ E o=>⟨ρ,E,OutA.bind o fun ds vs H1 e1 rs o1=>by
  unfold Gu at o1;split at o1
  · rename_i i j;obtain ⟨v,v2,rfl,r,r2⟩:=wH rs;cases (show v=.int i from r);cases (show v2=.int j from r2);exact ⟨i,j,rfl,o1 _ H1 (.refl H1) rfl⟩
  · exact o1.elim⟩
theorem DY (hc:X.calm=c_) (hg:Gl X "min") (hm:X.mg "min"=ck) (ha:FA X (e :: es) ga) (he:i_ (e :: es) X.env=(d_,eval e X.env) :: i_ es X.env:=by kernel_rfl) (hpl:(Lr pos (i_ es X.env)).any (·.1)=d_:=by kernel_rfl):FE X (.Call (.Name "min" p) (e :: es) [] pos) (fB1 Ar ga) :=
 cY (eM (tx hc) hg hm PyProof.Rows.boot_min ha.h (by decide) (by decide) he hpl) fun σ H Q ρ E o=>⟨ρ,E,OutA.bind o fun ds vs H1 e1 rs o1=>by
  unfold Ar at o1;split at o1
  · rename_i i j;obtain ⟨v,v2,rfl,r,r2⟩:=wH rs;cases (show v=.int i from r);cases (show v2=.int j from r2);exact ⟨i,j,rfl,o1 _ H1 (.refl H1) rfl⟩
  · exact o1.elim⟩
theorem As (hg:Gl X "str") (hm:X.mg "str"=ck) (ha:FA X (e :: es) ga) (he:i_ (e :: es) X.env=(d_,eval e X.env) :: i_ es X.env:=by kernel_rfl) (hpl:(Lr pos (i_ es X.env)).any (·.1)=d_:=by kernel_rfl):FE X (.Call (.Name "str" p) (e :: es) [] pos) (fB1 BN ga) :=
 cY (gK mW hg hm (by decide +kernel) ha.h (by decide) (by decide) he hpl) fun σ H Q ρ E o=>⟨ρ,E,OutA.bind o fun ds vs H1 e1 rs o1=>by
  unfold BN at o1;split at o1
  · rename_i i;split at o1
    · rename_i hz;obtain ⟨v,rfl,r⟩:=dZ rs;cases (show v=.int i from r);exact ⟨i,rfl,hz,o1 _ H1 (.refl H1) rfl⟩
    · exact o1.elim
  · exact o1.elim⟩
end
def leX:Dv→Dv→Option (Rs Dv)
 | .int i,.int j=>a_ (.ok (.bl (q_ (i≤j))))
 | .str x,.str y=>a_ (.ok (.bl (!q_ (y.cps.toList < x.cps.toList))))
 | _,_=>ck
def Js:R2:=fun x y H Q=>rI0 (fun i j=>.bl (q_ (i≤j))) x y H Q∨∃ i j,x=.str i∧y=.str j∧Q (.bl (!q_ (j.cps.toList < i.cps.toList))) H
section
variable {X:Cx}
theorem uC:OpR X (Lj .LtE) (fun x y H Q=>∃ i j,x=.str i∧y=.str j∧Q (.bl (!q_ (j.cps.toList < i.cps.toList))) H):=by
 intro f' s σ H x y v u Q I rx ry h;obtain ⟨i,j,rfl,rfl,q⟩:=h;obtain ⟨t,rfl⟩:=rx;obtain ⟨t',rfl⟩:=ry;exact PySem.P.le_str ⟨.bl _,H,I,rfl,q⟩
theorem DZ:OpR X (Lj .LtE) Js:=op_le.or uC
theorem D1:GOp X Js leX:=by
 intro dx dy x y H Q rx ry o;cases dx <;> cases dy <;> try exact (show False from o).elim
 · rename_i i j;exact .inl ⟨i,j,rx,ry,o _ H (.refl H) rfl⟩
 · rename_i i j;exact .inr ⟨i,j,rx,ry,o _ H (.refl H) rfl⟩
end
def HK (K:e_) (S:List Nat) (Cs:List k_) (CJ:k_):Bool:=excIn K CJ bmV "ValueError.__new__" && S.all fun c=>excIn K (Cs.getD c 0) bmV "ValueError.__new__" && xiB K (Cs.getD c 0) && mroIn K (Cs.getD c 0) (.ref CJ) == a_ c_ && mroIn K (Cs.getD c 0) (.ref (Cs.getD c 0)) == a_ c_ &&
 kitOne K (.ref (Cs.getD c 0)) (.type "ValueError") == a_ c_ && S.all fun d=>kitOne K (.ref (Cs.getD c 0)) (.ref (Cs.getD d 0)) == a_ (c == d)
structure XAllS (K:e_) (S:List Nat) (cls:Nat→k_) (CJ:k_):Prop where
 at_:∀ c∈S,nsIn K C_ (xnm c)=a_ (a_ (.ref (cls c)))∧excIn K (cls c) bmV "ValueError.__new__"=c_∧XI K (cls c)∧mroIn K (cls c) (.ref CJ)=a_ c_∧mroIn K (cls c) (.ref (cls c))=a_ c_∧kitOne K (.ref (cls c)) (.type "ValueError")=a_ c_∧∀ d∈S,kitOne K (.ref (cls c)) (.ref (cls d))=a_ (c == d)
 exJ:excIn K CJ bmV "ValueError.__new__"=c_
theorem xl {K:e_} {S:List Nat} {Cs:List k_} {CJ:k_} (hn:∀ c∈S,nsIn K C_ (xnm c)=a_ (a_ (.ref (Cs.getD c 0)))) (h:HK K S Cs CJ=c_):XAllS K S (fun c=>Cs.getD c 0) CJ:=by
 unfold HK at h;rw [n_] at h;refine ⟨fun c hc=>?_,h.1⟩;have h1:=Lk.mp h.2 c hc;simp only [n_,beq_iff_eq] at h1;exact ⟨hn c hc,h1.1.1.1.1.1,Hz h1.1.1.1.1.2,h1.1.1.1.2,h1.1.1.2,h1.1.2,fun d hd=>by
  have h2:=Lk.mp h1.2 d hd;simpa using h2⟩
section
variable {K:e_} {S:List Nat} {cls:Nat→k_} {CJ:k_} (x:XAllS K S cls CJ)
include x
theorem XAllS.xc (c:Nat) (h:c∈S):XC K c (cls c):=⟨(x.at_ c h).1,(x.at_ c h).2.1⟩
theorem XAllS.same {c:Nat} {C:k_} (h:c∈S) (q:nsIn K C_ (xnm c)=a_ (a_ (.ref C))):C=cls c:=by
 have z:=(x.at_ c h).1;rw [q] at z;cases z;rfl
theorem XAllS.xtO (d:Nat) (hd:d∈S):XT K (fun c=>if S.contains c then a_ (c == d) else ck) (.ref (cls d)):=fun c b hb C q=>by
 dsimp only at hb;split at hb
 · rename_i h;have h':c∈S:=by simpa using h
   cases hb;rw [x.same h' q];exact ⟨(x.at_ c h').2.2.1,(x.at_ c h').2.2.2.2.2.2 d hd⟩
 · cases hb
theorem XAllS.xtV:XT K (fun c=>if S.contains c then a_ c_ else ck) (.type "ValueError"):=fun c b hb C q=>by
 dsimp only at hb;split at hb
 · rename_i h;have h':c∈S:=by simpa using h
   cases hb;rw [x.same h' q];exact ⟨(x.at_ c h').2.2.1,(x.at_ c h').2.2.2.2.2.1⟩
 · cases hb
end
section
variable {X:Cx} {ex hx:F_} {f g:FnE} {J:Str} {CJ:k_} {np rp rp2 hpos pos:Pos}
end
end FD
namespace ST
open PySem PySem.SetTable
def stp (m i:Nat):Nat:=(i * 5 + 1) % (m + 1)
def it (m:Nat):Nat→Nat→Nat
 | 0,i=>i
 | k + 1,i=>it m k (stp m i)
def rP (m:Nat):Bool:=(s_ (m + 1)).all fun i=>(s_ (m + 1)).all fun j=>(s_ (m + 1)).any fun k=>it m k i == j
theorem Kc:rP 7=c_:=by decide +kernel
theorem HL:rP 31=c_:=by decide +kernel
theorem D2 {m:Nat} (h:rP m=c_) {i j:Nat} (hi:i≤m) (hj:j≤m):∃ k,k≤m∧it m k i=j:=by
 unfold rP at h;have h1:=Lk.mp h i (K6.mpr (by omega));have h2:=Lk.mp h1 j (K6.mpr (by omega));obtain ⟨k,hk,e⟩:=Mz.mp h2;exact ⟨k,by have:=K6.mp hk; omega,by simpa using e⟩
def lp (m:Nat):Nat→Nat×Nat→Nat×Nat
 | 0,x=>x
 | r + 1,x=>lp m r (leap m x.1 x.2)
theorem uD (m:Nat):∀ (a b:Nat) (x:Nat×Nat),lp m (a + b) x=lp m b (lp m a x)
 | 0,b,x=>by rw [OD]; rfl
 | a + 1,b,x=>by
  rw [Rc];show lp m (a + b) (leap m x.1 x.2)=lp m b (lp m a (leap m x.1 x.2));exact uD m a b _
theorem Au (m:Nat):∀ (r:Nat) (x:Nat×Nat),x.1≤m→(lp m r x).1≤m
 | 0,x,h=>h
 | r + 1,x,h=>Au m r _ (by
  show (x.1 * 5 + 1 + x.2 / 32) % (m + 1)≤m;exact Mf (NI _ (M9 m)))
theorem D3 (m:Nat):∀ (r:Nat) (x:Nat×Nat),(lp m r x).2=x.2 / 32 ^ r
 | 0,x=>by simp [lp]
 | r + 1,x=>by
  show (lp m r (leap m x.1 x.2)).2=_;rw [D3 m r];show x.2 / 32 / 32 ^ r=_;rw [Nat.div_div_eq_div_mul,Nat.pow_succ,Re]
theorem uE (m:Nat):∀ (r:Nat) (i:Nat),(lp m r (i,0)).1=it m r i
 | 0,i=>rfl
 | r + 1,i=>by
  show (lp m r (leap m i 0)).1=it m r (stp m i);have e:leap m i 0=(stp m i,0):=by unfold leap stp; simp
  rw [e];exact uE m r _
theorem uF {m:Nat} (c:rP m=c_) {i pt j:Nat} (hi:i≤m) (hp:pt < 2 ^ 64) (hj:j≤m):∃ r,r≤13 + m∧(lp m r (i,pt)).1=j:=by
 have h0:(lp m 13 (i,pt)).2=0:=by
  rw [D3];exact Nat.div_eq_of_lt (by
   show pt < 32 ^ 13; have:(32:Nat) ^ 13=2 ^ 65:=by decide
   omega)
 obtain ⟨k,hk,e⟩:=D2 c (Au m 13 (i,pt) hi) hj;refine ⟨13 + k,by omega,?_⟩;rw [uD];have e2:lp m 13 (i,pt)=((lp m 13 (i,pt)).1,0):=by rw [← h0]
 rw [e2,uE];exact e
def advN (t:SetTable):Nat→Probe→Probe
 | 0,p=>p
 | n + 1,p=>advN t n (t.advance p)
theorem eu (t:SetTable):∀ (a b:Nat) (p:Probe),advN t (a + b) p=advN t b (advN t a p)
 | 0,b,p=>by rw [OD]; rfl
 | a + 1,b,p=>by
  rw [Rc];exact eu t a b _
structure Vp (t:SetTable) (p:Probe):Prop where
 i:p.i≤t.mask
 pt:p.perturb < 2 ^ 64
 more:p.more≤9
 dm:p.dummy=ck
theorem kt (m i:Nat):Ob m i - i≤9:=by unfold Ob; split <;> omega
def lA (t:SetTable) (p:Probe):Probe:={ p with j:=(leap t.mask p.i p.perturb).1,more:=Ob t.mask (leap t.mask p.i p.perturb).1 - (leap t.mask p.i p.perturb).1,i:=(leap t.mask p.i p.perturb).1,perturb:=(leap t.mask p.i p.perturb).2 }
theorem l7 (t:SetTable) (p:Probe) (h:p.more=0):t.advance p=lA t p:=by
 unfold Rv lA;rw [if_neg (by omega)]
theorem l8 (t:SetTable) (p:Probe) (h:0 < p.more):t.advance p={ p with j:=p.j + 1,more:=p.more - 1 }:=by
 unfold Rv;rw [if_pos h]
theorem ku (t:SetTable):∀ (k:Nat) (p:Probe),p.more=k→advN t (k + 1) p=lA t p
 | 0,p,h=>l7 t p h
 | k + 1,p,h=>by
  show advN t (k + 1) (t.advance p)=_;rw [l8 t p (by omega),ku t k _ (by show p.more - 1=k; omega)];rfl
theorem uG (m i pt:Nat) (h:pt < 2 ^ 64):(leap m i pt).2 < 2 ^ 64:=QR (Nat.div_le_self _ _) h
theorem Vp.leap {t:SetTable} {p:Probe} (v:Vp t p):Vp t (lA t p):=⟨by
 show (p.i * 5 + 1 + p.perturb / 32) % (t.mask + 1)≤t.mask;exact Mf (NI _ (M9 t.mask)),(show (Ng t.mask p.i p.perturb).2 < 2 ^ 64 from uG _ _ _ v.pt),(show Ob t.mask (Ng t.mask p.i p.perturb).1 - (Ng t.mask p.i p.perturb).1≤9 from kt _ _),v.dm⟩
theorem Vp.adv {t:SetTable} {p:Probe} (v:Vp t p):Vp t (t.advance p):=by
 by_cases h:0 < p.more
 · rw [l8 t p h]; exact ⟨v.i,v.pt,by show p.more - 1≤9; have:=v.more; omega,v.dm⟩
 · rw [l7 t p (by omega)]; exact v.leap
theorem Vp.advN {t:SetTable}:∀ (n:Nat) {p:Probe},Vp t p→Vp t (advN t n p)
 | 0,p,v=>v
 | n + 1,p,v=>Vp.advN n v.adv
theorem qL (t:SetTable):∀ (r:Nat) (p:Probe),Vp t p→∃ n,n≤10 * r∧(advN t n p).i=(lp t.mask r (p.i,p.perturb)).1∧(r≠0→(advN t n p).j=(advN t n p).i)
 | 0,p,v=>⟨0,by omega,rfl,fun h=>absurd rfl h⟩
 | r + 1,p,v=>by
  obtain ⟨n,h1,h2,h3⟩:=qL t r (lA t p) v.leap;refine ⟨p.more + 1 + n,by have:=v.more; omega,?_,fun _=>?_⟩
  · rw [eu,ku t p.more p rfl,h2]; rfl
  · rw [eu,ku t p.more p rfl];by_cases hr:r=0
    · subst hr;have hn:n=0:=by omega
      subst hn;rfl
    · exact h3 hr
structure Tb (t:SetTable) (n:Nat):Prop where
 size:t.place.size=n
 dm:t.dummies=#[]
 cyc:rP t.mask=c_
 room:n≤t.mask
theorem uH (j:Nat):has #[] j=d_:=by unfold has; simp
theorem ii {t:SetTable} {n:Nat} (T:Tb t n) (j:Nat):t.slot j=.empty∨∃ i,t.slot j=.live i∧t.place[i]?=a_ j:=by
 unfold Sf;dsimp only;split
 · rename_i h;exact .inr ⟨_,rfl,by simpa using h⟩
 · rw [T.dm,uH];exact .inl rfl
theorem uI:∀ (m:Nat) (l:List Nat),l.length≤m→∃ j,j≤m∧j ∉ l
 | 0,l,h=>⟨0,uk _,by
  have:l=[]:=NO.mp (by omega);simp [this]⟩
 | m + 1,l,h=>by
  by_cases hm:(m + 1)∈l
  · obtain ⟨j,hj,hn⟩:=uI m (l.erase (m + 1)) (by rw [List.length_erase_of_mem hm]; omega);refine ⟨j,by omega,fun hl=>hn ?_⟩;exact (List.mem_erase_of_ne (by omega)).mpr hl
  · exact ⟨m + 1,uk _,hm⟩
theorem xn {t:SetTable} {n:Nat} (T:Tb t n):∃ j,j≤t.mask∧t.slot j=.empty:=by
 obtain ⟨j,hj,hn⟩:=uI t.mask t.place.toList (by simp [T.size,T.room]);refine ⟨j,hj,?_⟩;rcases ii T j with h | ⟨i,h,e⟩
 · exact h
 · exact absurd (Lz.mpr (N_ e)) hn
theorem HM {t:SetTable} {n:Nat} (T:Tb t n) {p:Probe} (v:Vp t p):∃ N,N < 10 * Om t.mask∧t.slot (advN t N p).j=.empty:=by
 obtain ⟨j,hj,he⟩:=xn T;obtain ⟨r,hr,e⟩:=uF T.cyc (Au t.mask 1 (p.i,p.perturb) v.i) (by
  show (leap t.mask p.i p.perturb).2 < 2 ^ 64;exact uG _ _ _ v.pt) hj (pt:=(lp t.mask 1 (p.i,p.perturb)).2)
 obtain ⟨N,h1,h2,h3⟩:=qL t (1 + r) p v;refine ⟨N,by unfold Om; omega,?_⟩;rw [h3 (by omega),h2,uD];rw [show lp t.mask 1 (p.i,p.perturb)=((lp t.mask 1 (p.i,p.perturb)).1,(lp t.mask 1 (p.i,p.perturb)).2) from rfl,e];exact he
theorem first {P:Nat→Prop} [DecidablePred P]:∀ (b:Nat),(∃ n,n < b∧P n)→∃ n,n < b∧P n∧∀ k,k < n→¬ P k
 | 0,⟨n,h,_⟩=>absurd h (Mu _)
 | b + 1,⟨n,h,hp⟩=>by
  by_cases q:∃ n,n < b∧P n
  · obtain ⟨n,h1,h2,h3⟩:=first b q
    exact ⟨n,by omega,h2,h3⟩
  · have hn:n=b:=by
     have:¬ n < b:=fun z=>q ⟨n,z,hp⟩;omega
    subst hn;exact ⟨n,by omega,hp,fun k hk z=>q ⟨k,hk,z⟩⟩
theorem D4 {t:SetTable} {n:Nat} (T:Tb t n) {p:Probe} (v:Vp t p):∃ N,N < 10 * Om t.mask∧t.slot (advN t N p).j=.empty∧∀ k,k < N→t.slot (advN t k p).j≠.empty :=
 first (P:=fun n=>t.slot (advN t n p).j=.empty) _ (HM T v)
theorem yT {t:SetTable} {n:Nat} (T:Tb t n) (hashAt:Nat→Int) (h:Int):∀ (N fuel:Nat) (p:Probe),Vp t p→N < fuel→t.slot (advN t N p).j=.empty→(∀ k,k < N→t.slot (advN t k p).j≠.empty) →
 Nl t hashAt h fuel p=a_ (.empty (advN t N p).j ck)∨∃ m i,m < N∧t.slot (advN t m p).j=.live i∧t.place[i]?=a_ (advN t m p).j∧hashAt i=h∧Nl t hashAt h fuel p=a_ (.candidate (advN t m p).j i (advN t (m + 1) p))
 | N,0,p,v,hf,_,_=>absurd hf (Mu _)
 | 0,fuel + 1,p,v,hf,he,_=>by
  refine .inl ?_;unfold Nl;rw [show t.slot p.j=.empty from he];show a_ (Met.empty p.j p.dummy)=_;rw [v.dm];rfl
 | N + 1,fuel + 1,p,v,hf,he,hn=>by
  rcases ii T p.j with h0 | ⟨i,h1,h2⟩
  · exact absurd h0 (hn 0 (by omega))
  · by_cases hh:hashAt i=h
    · refine .inr ⟨0,i,by omega,h1,h2,hh,?_⟩;unfold Nl;rw [h1];dsimp only;rw [if_pos (by simpa using hh)];rfl
    · have hg:Nl t hashAt h (fuel + 1) p=Nl t hashAt h fuel (t.advance p):=by
       conv=>lhs; unfold Nl
       rw [h1];dsimp only;rw [if_neg (by simpa using hh)]
      rcases yT T hashAt h N fuel (t.advance p) v.adv (by omega) he (fun k hk=>hn (k + 1) (by omega)) with q | ⟨m,i',q1,q2,q3,q4,q5⟩
      · exact .inl (by rw [hg,q]; rfl)
      · exact .inr ⟨m + 1,i',by omega,q2,q3,q4,by rw [hg,q5]; rfl⟩
theorem pC {t:SetTable} (h:Int):Vp t (t.probeStart h):=⟨by
 show bits h % (t.mask + 1)≤t.mask;exact Mf (NI _ (M9 t.mask)),by
 show bits h < 2 ^ 64;unfold bits;have h1:=MJ h (show (2 ^ 64:Int)≠0 by decide);have h2:=L6 h (show (0:Int) < 2 ^ 64 by decide);omega,kt _ _,rfl⟩
theorem nI {m:Nat} {owner:Array (Option Nat)}:∀ (fuel i pt:Nat),i≤m→(∃ r,r < fuel∧(owner.getD (lp m r (i,pt)).1 (a_ 0)).isNone=c_)→∃ j,Ma m owner fuel i pt=a_ j∧(owner.getD j (a_ 0)).isNone=c_
 | 0,i,pt,_,⟨r,h,_⟩=>absurd h (Mu _)
 | fuel + 1,i,pt,hi,⟨r,h,e⟩=>by
  unfold Ma;split
  · rename_i k hk;exact ⟨i + k,rfl,by simpa using RP hk⟩
  · rename_i hk;cases r with
    | zero =>
     have hm:0∈s_ (Ob m i + 1 - i):=K6.mpr (by unfold Ob; split <;> omega);have:=QT.mp hk 0 hm;exact absurd (show (owner.getD (i + 0) (a_ 0)).isNone=c_ from e) this
    | succ r =>
     exact nI fuel _ _ (by
      show (i * 5 + 1 + pt / 32) % (m + 1)≤m;exact Mf (NI _ (M9 m))) ⟨r,by omega,e⟩
theorem yU:∀ (l:List (Option Nat)) (j k:Nat),l[j]?=a_ ck→((l.set j (a_ k)).filterMap id).Perm (k :: l.filterMap id)
 | [],j,k,h=>by simp at h
 | x :: l,0,k,h=>by
  have:x=ck:=by simpa using h
  subst this;simp
 | x :: l,j + 1,k,h=>by
  have ih:=yU l j k (by simpa using h);cases x with
  | none=>simpa using ih
  | some y =>
   show List.Perm (y :: (l.set j (a_ k)).filterMap id) (k :: y :: l.filterMap id);exact (ih.cons y).trans (List.Perm.swap ..)
theorem uJ:∀ (l:List (Option Nat)),(l.filterMap id).length < l.length→∃ j,j < l.length∧l[j]?=a_ ck
 | [],h=>by simp at h
 | none :: l,h=>⟨0,by simp,rfl⟩
 | some y :: l,h=>by
  obtain ⟨j,h1,h2⟩:=uJ l (by simpa using h);exact ⟨j + 1,by simpa using h1,by simpa using h2⟩
def nJ (m:Nat) (acc:Option (Array (Option Nat)×Nat)) (h:Int):Option (Array (Option Nat)×Nat):=do
 let (owner,k) ← acc
 let j ← Ma m owner (Om m) (bits h % (m + 1)) (bits h)
 pure (owner.setIfInBounds j (a_ k),k + 1)
theorem Av (h:Int):bits h < 2 ^ 64:=by
 unfold bits;have h1:=MJ h (show (2 ^ 64:Int)≠0 by decide);have h2:=L6 h (show (0:Int) < 2 ^ 64 by decide);omega
theorem getD_none {owner:Array (Option Nat)} {j:Nat} (h:(owner.getD j (a_ 0)).isNone=c_):j < owner.size∧owner.toList[j]?=a_ ck:=by
 rw [LA] at h;cases q:owner[j]? with
 | none=>rw [q] at h; simp at h
 | some x =>
  rw [q] at h;have hx:x=ck:=by simpa using h
  subst hx;refine ⟨(LP.mp q).1,by rw [Ml]; exact q⟩
theorem uK {m:Nat} (c:rP m=c_):∀ (hs:List Int) (owner:Array (Option Nat)) (k:Nat),owner.size=m + 1→(owner.toList.filterMap id).Perm (s_ k)→k + hs.length≤m →
 ∃ o2,hs.foldl (nJ m) (a_ (owner,k))=a_ (o2,k + hs.length)∧o2.size=m + 1∧(o2.toList.filterMap id).Perm (s_ (k + hs.length))
 | [],owner,k,h1,h2,h3=>⟨owner,rfl,h1,h2⟩
 | h :: hs,owner,k,h1,h2,h3=>by
  have hk:k + (hs.length + 1)≤m:=by simpa using h3
  obtain ⟨j0,a1,a2⟩:=uJ owner.toList (by rw [h2.length_eq,O4]; simp only [Lf,h1]; omega);have hj0:j0≤m:=by simp only [Lf,h1] at a1; omega
  obtain ⟨r,b1,b2⟩:=uF c (i:=bits h % (m + 1)) (pt:=bits h) (Mf (NI _ (M9 m))) (Av h) hj0;obtain ⟨j,f1,f2⟩:=nI (m:=m) (owner:=owner) (Om m) (bits h % (m + 1)) (bits h) (Mf (NI _ (M9 m))) ⟨r,by unfold Om; omega,by
   rw [b2,LA];rw [Ml] at a2;rw [a2]; rfl⟩
  obtain ⟨g1,g2⟩:=getD_none f2;have e:nJ m (a_ (owner,k)) h=a_ (owner.setIfInBounds j (a_ k),k + 1):=by
   show (Ma m owner (Om m) (bits h % (m + 1)) (bits h)).bind (fun j=>a_ (owner.setIfInBounds j (a_ k),k + 1))=_;rw [f1]; rfl
  rw [Nc,e];obtain ⟨o2,c1,c2,c3⟩:=uK c hs (owner.setIfInBounds j (a_ k)) (k + 1) (by rw [Pe]; exact h1) (by
   rw [Array.toList_setIfInBounds];refine (yU _ _ _ g2).trans ((h2.cons k).trans ?_);rw [RM];exact (List.perm_append_singleton k (s_ k)).symm) (by omega)
  refine ⟨o2,?_,c2,?_⟩
  · rw [c1]; simp only [LR]; congr 2; omega
  · simp only [LR]; rw [show k + (hs.length + 1)=k + 1 + hs.length by omega]; exact c3
theorem kv {m:Nat} (c:rP m=c_) (hs:Array Int) (hl:hs.size≤m):∃ o2,R9 m hs=a_ o2∧o2.size=m + 1∧(o2.toList.filterMap id).Perm (s_ hs.size):=by
 obtain ⟨o2,c1,c2,c3⟩:=uK c hs.toList (MK (m + 1) ck) 0 (by simp) (by simp [List.filterMap_replicate]) (by simpa using hl);refine ⟨o2,?_,c2,by simpa using c3⟩;unfold R9;rw [← QW];have e:(PK (fun acc h=>do
  let (owner,k) ← acc
  let j ← Ma m owner (Om m) (bits h % (m + 1)) (bits h)
  pure (owner.setIfInBounds j (a_ k),k + 1)) (a_ (MK (m + 1) ck,0)) hs.toList:Option (Array (Option Nat)×Nat))=hs.toList.foldl (nJ m) (a_ (MK (m + 1) ck,0)):=rfl
 rw [e,c1];rfl
theorem qM:∀ (l:List (Option Nat)) (base:Nat),((s_ l.length).filterMap fun j=>(l.getD j ck).map (fun x=>(base + j,x))).map (·.2)=l.filterMap id
 | [],base=>rfl
 | x :: l,base=>by
  rw [LR,PJ,MS,OV];have ih:=qM l (base + 1);have e:(s_ l.length).filterMap ((fun j=>((x :: l).getD j ck).map (fun x=>(base + j,x))) ∘ Nat.succ)=(s_ l.length).filterMap fun j=>(l.getD j ck).map (fun x=>(base + 1 + j,x)):=by
   congr 1;funext j;show ((x :: l).getD (j + 1) ck).map _=_;simp only [List.getD_cons_succ];rw [show base + (j + 1)=base + 1 + j by omega]
  rw [e];cases x with
  | none=>simpa using ih
  | some y =>
   simp only [List.getD_cons_zero,NG,Lg];rw [ih];rfl
theorem Aw {m finger moves:Nat} {led plain:Bool} (c:rP m=c_) (hs:Array Int) (hl:hs.size≤m):∃ t order,laid m finger moves led plain hs=a_ (t,order)∧t.mask=m∧t.moves=moves∧t.led=led∧t.plain=plain∧Tb t hs.size∧order.toList.Perm (s_ hs.size):=by
 obtain ⟨o2,c1,c2,c3⟩:=kv c hs hl;have e:=qM o2.toList 0;have hlen:((s_ (m + 1)).filterMap fun j=>(o2.getD j ck).map (j,·))=((s_ o2.toList.length).filterMap fun j=>(o2.toList.getD j ck).map (fun x=>(0 + j,x))):=by
  rw [Lf,c2];congr 1;funext j;rw [OD,LA,List.getD_eq_getElem?_getD,Ml]
 refine ⟨_,_,by unfold laid; rw [c1]; rfl,rfl,rfl,rfl,rfl,⟨?_,rfl,c,hl⟩,?_⟩
 · simp only [xy,La];rw [hlen];have:=congrArg Oo e;rw [La] at this;rw [this,c3.length_eq,O4]
 · rw [Ny,hlen,e];exact c3
theorem iX {α:Type} (xs:Array α) (p:Nat) (x:α) (h:p≤xs.size):(insertAt xs p x).size=xs.size + 1:=by
 unfold insertAt;simp only [O8,Array.size_push,Array.size_extract];omega
theorem mf (xs:Array Nat) (j:Nat):below xs j≤xs.size:=by
 unfold below;have:∀ (fuel lo hi:Nat),lo≤hi→hi≤xs.size→Pi xs j fuel lo hi≤xs.size:=by
  intro fuel
  induction fuel with
  | zero=>intro lo hi h1 h2; unfold Pi; omega
  | succ fuel ih =>
   intro lo hi h1 h2;unfold Pi;split
   · rename_i hlt;dsimp only;split
     · exact ih _ _ (by omega) h2
     · exact ih _ _ (by omega) (by omega)
   · omega
 exact this _ _ _ (Mh _) (uk _)
theorem D6 {t:SetTable} {n:Nat} (T:Tb t n) (h:n + 1≤t.mask) (j:Nat):Tb (t.put j).1 (n + 1)∧(t.put j).2≤n∧(t.put j).1.mask=t.mask∧(t.put j).1.led=t.led∧(t.put j).1.moves=t.moves:=by
 unfold SetTable.put;refine ⟨⟨?_,?_,T.cyc,h⟩,?_,rfl,rfl,rfl⟩
 · show (insertAt t.place (below t.place j) j).size=n + 1;rw [iX _ _ _ (mf _ _),T.size]
 · show (if has t.dummies j then eraseAt t.dummies (below t.dummies j) else t.dummies)=#[];rw [T.dm,uH];rfl
 · show below t.place j≤n;rw [← T.size];exact mf _ _
section
variable {prog:r_} {w:E_} {A:G_} {E:g_→h_→Prop} {s:h_}
abbrev TK (prog:r_) (w:E_) (h:K5) (k:List Str) (a:k_):Prop:=IsTupleKey (strKind prog w) h k a
abbrev hsh (prog:r_) (w:E_) (k:List Str):Int:=tupleKeyHash (strKind prog w) k
theorem nK {k:List Str} {vs:List g_} (h:ItemsAre (strKind prog w) k vs):∀ v∈vs,∃ x t,v=.str x t:=by
 induction h with
 | nil=>intro v hv; simp at hv
 | @cons k' v' ks vs h1 _ ih =>
  intro v hv;rcases rl.mp hv with rfl | hv
  · obtain ⟨t,rfl⟩:=Qu h1;exact ⟨_,_,rfl⟩
  · exact ih v hv
theorem uL {k:List Str} {a:k_} {Q:Bool→h_→Prop} (hk:TK prog w s.heap k a) (h:Q d_ s):w_ (z_ prog w) A (ofAClassStatement 8 (.ref a)) Q E s:=by
 have hT:=hk.typeIs;obtain ⟨o,items,n,ho,_,hd,hi⟩:=hk;unfold ofAClassStatement;refine f_ (Pr hT ?_);show w_ _ _ ((if ("tuple" == "tuple")=c_ then pure c_ else isSubtype (.type "tuple") (.type "tuple")) >>= _) _ _ s;rw [if_pos (by decide)];refine f_ (m_ ?_);simp only [NE,KZ,if_false];refine f_ (Mq ho hd ?_);refine f_ ?_;show w_ _ _ (forIn items _ _) _ _ s;rw [← QV];refine Pf _ (fun rest r s'=>r.1=ck∧s'=s∧∀ v∈rest,∃ x t,v=No x t) _ ?_ ?_ _ _ ⟨rfl,rfl,nK hi⟩
 · rintro v rest r s' ⟨hr,rfl,hall⟩;obtain ⟨x,t,rfl⟩:=hall v o_;refine f_ (m_ ?_);simp only [KZ,if_false];exact m_ ⟨rfl,rfl,fun u hu'=>hall u (pi _ hu')⟩
 · rintro ⟨r1,r2⟩ s' ⟨hr,rfl,_⟩;simp only at hr;subst hr;exact m_ h
theorem yV {k:List Str} {b:k_} (hk:TK prog w s.heap k b) {l:List g_} (hl:∀ v∈l,∃ k' a,v=.ref a∧TK prog w s.heap k' a) {Q:Bool→h_→Prop} (h:Q d_ s):w_ (z_ prog w) A (searchCouldBeSeen (.ref b) l) Q E s:=by
 unfold searchCouldBeSeen;refine f_ ?_;refine Pf _ (fun rest r s'=>r.1=ck∧s'=s∧∀ v∈rest,∃ k' a,v=x_ a∧TK prog w s.heap k' a) _ ?_ ?_ _ _ ⟨rfl,rfl,hl⟩
 · rintro v rest r s' ⟨hr,rfl,hall⟩;obtain ⟨k',a,rfl,ha⟩:=hall v o_;have hrest:∀ v∈rest,∃ k' a,v=x_ a∧TK prog w s'.heap k' a:=fun u hu'=>hall u (pi _ hu');dsimp only;split
   · exact m_ ⟨rfl,rfl,hrest⟩
   · refine f_ (PV hk ?_);simp only [NE,KZ,if_false];refine f_ (PV ha ?_);simp only [NE,KZ,if_false];refine f_ (uL hk ?_);simp only [KZ,if_false];refine f_ (uL ha ?_);simp only [KZ,if_false];exact m_ ⟨rfl,rfl,hrest⟩
 · rintro ⟨r1,r2⟩ s' ⟨hr,rfl,_⟩;simp only at hr;subst hr;exact m_ h
theorem pD {k:List Str} {a:k_} {Q:Bool→h_→Prop} (hk:TK prog w s.heap k a) (h:∀ b,Q b s):w_ (z_ prog w) A (hashByValue 8 (.ref a)) Q E s:=by
 have hT:=hk.typeIs;obtain ⟨o,items,n,ho,_,hd,hi⟩:=hk;unfold hashByValue;refine f_ (wpAny_specialOf hT F.slot_tuple_hash.lookup ?_);dsimp only;refine f_ (Mq ho hd ?_);refine f_ ?_;show w_ _ _ (forIn items _ _) _ _ s;rw [← QV];refine Pf _ (fun rest r s'=>r.1=ck∧s'=s∧∀ v∈rest,∃ x t,v=No x t) _ ?_ ?_ _ _ ⟨rfl,rfl,nK hi⟩
 · rintro v rest r s' ⟨hr,rfl,hall⟩;obtain ⟨x,t,rfl⟩:=hall v o_;refine f_ (m_ ?_);simp only [N5,if_true];refine m_ ?_;exact m_ (h _)
 · rintro ⟨r1,r2⟩ s' ⟨hr,rfl,_⟩;simp only at hr;subst hr;exact m_ (h _)
def Ent (prog:r_) (w:E_) (h:K5) (ks:List (List Str)) (es:List (Int×g_)):Prop:=∀ e∈es,∃ k a,k∈ks∧e.2=.ref a∧TK prog w h k a
theorem jx {t:SetTable} {n:Nat} (T:Tb t n):t.fits n=c_:=by
 unfold SetTable.fits Sg;rw [T.size,T.dm];simp [T.room]
end
section
variable {prog:r_} {w:E_} {A:G_} {E:g_→h_→Prop} {s:h_}
abbrev byT (w:E_):Bool:=w.params.followText "set-order"
def SetT (prog:r_) (w:E_) (h:K5) (S:k_) (ks:List (List Str)) (vs:List g_) (n:Nat):Prop :=
 ∃ o es ep t,h.get? S=a_ o∧o.ExactSet∧o.data=.set es ep t∧es.size=n∧Tb t n∧((t.mask=7∧n≤4)∨(t.mask=31∧n≤18))∧Ent prog w h ks es.toList∧(es.toList.map (·.2)).Perm vs∧t.led=(!byT w)∧((∀ k∈ks,k≠[])→n≠0→t.plain=d_)
theorem TK.keeps {h h':K5} {k:List Str} {a S:k_} {o:Obj} {es ep t} (x:TK prog w h k a) (ho:h.get? S=a_ o) (hd:o.data=.set es ep t) (hs:Nq S h h'):TK prog w h' k a:=by
 obtain ⟨o',items,n,ho',hc,hd',hi⟩:=x;have hne:a≠S:=by
  rintro rfl;obtain rfl:o'=o:=Lc (ho'.symm.trans ho);rw [hd] at hd'; exact nomatch hd'
 exact ⟨o',items,n,(hs.2 a hne).trans ho',hc,hd',hi⟩
theorem Ent.keeps {h h':K5} {ks:List (List Str)} {l:List (Int×g_)} {S:k_} {o:Obj} {es ep t} (x:Ent prog w h ks l) (ho:h.get? S=a_ o) (hd:o.data=.set es ep t) (hs:Nq S h h'):Ent prog w h' ks l:=fun e he=>by
 obtain ⟨k,a,h1,h2,h3⟩:=x e he;exact ⟨k,a,h1,h2,h3.keeps ho hd hs⟩
theorem nM {h:K5} {S:k_} {o:Obj} {es es':Array (Int×g_)} {ep:Nat} {t t':SetTable} (ho:h.get? S=a_ o) (hd:o.data=.set es ep t):(h.update S (ON es' t')).get? S=a_ { o with data:=.set es' (ep + 1) t' }:=by
 have:=N7 (ON es' t') ho (by rw [putSet_of es' t' hd]; rfl);rw [putSet_of es' t' hd] at this; exact this
theorem Ent.insert {h:K5} {ks:List (List Str)} {es:Array (Int×g_)} {k:List Str} {b:k_} {p:Nat} {x:Int} (hE:Ent prog w h ks es.toList) (hb:TK prog w h k b):Ent prog w h (k :: ks) (D_ es p (x,.ref b)).toList:=fun e he=>by
 have he':=(Pz es p (x,x_ b)).mem_iff.mp he;rw [O7] at he';rcases K8.mp he' with q | q
 · obtain ⟨k',a,h1,h2,h3⟩:=hE e q;exact ⟨k',a,pi _ h1,h2,h3⟩
 · rw [Le] at q;subst q;exact ⟨k,b,o_,rfl,hb⟩
theorem uM {t:SetTable} {n:Nat} (T:Tb t n):t.fill=n:=by unfold Sg; rw [T.size,T.dm]; simp
theorem xo {α:Type} (es:Array α):(s_ es.size).filterMap (fun i=>es[i]?)=es.toList:=by
 apply O5;intro i;have:(s_ es.size).filterMap (fun i=>es[i]?)=(s_ es.size).pmap (fun i h=>es[i]) (fun i h=>K6.mp h):=by
  rw [List.pmap_eq_map_attach,← List.filterMap_eq_map]
  conv=>lhs; rw [← List.attach_map_subtype_val (s_ es.size)]
  rw [OV];congr 1;funext ⟨i,hi⟩;simp [K6.mp hi]
 rw [this];simp [List.getElem?_pmap,Qy];by_cases hi:i < es.size
 · simp [hi]
 · simp [hi]
end
end ST
namespace ST
open PySem PySem.SetTable PyProof.Rows
section
variable {prog:r_} {w:E_} {A:G_} {R:QL→h_→Prop} {I:k_} {fp wr:List k_} {G:Array OO→Array OO→Prop} {n:Nat} {P:Nat→g_→Prop} {St:Nat→h_→Prop}
theorem TK.moved {h h':K5} {k:List Str} {a:k_} (x:TK prog w h k a) (hm:∀ o,h.get? a=a_ o→h'.get? a=a_ o):TK prog w h' k a:=by
 obtain ⟨o',items,n,ho',hc,hd',hi⟩:=x;exact ⟨o',items,n,hm _ ho',hc,hd',hi⟩
theorem SetT.moved {h h':K5} {S:k_} {ks:List (List Str)} {vs:List g_} {n:Nat} (x:SetT prog w h S ks vs n) (hS:∀ o,h.get? S=a_ o→h'.get? S=a_ o) (hm:∀ k∈ks,∀ a,TK prog w h k a→TK prog w h' k a):SetT prog w h' S ks vs n:=by
 obtain ⟨o,es,ep,t,ho,hex,hd,hsz,T,hmk,hE,hr⟩:=x;exact ⟨o,es,ep,t,hS _ ho,hex,hd,hsz,T,hmk,fun e he=>let ⟨k,a,h1,h2,h3⟩:=hE e he; ⟨k,a,h1,h2,hm k h1 a h3⟩,hr⟩
end
section
variable {prog:r_} {w:E_} {A:G_} {E:g_→h_→Prop} {s:h_}
abbrev rQ (led:Bool):Obj:={ cls:=.type "set",dict:=ck,data:=.set #[] 0 (.fresh 0 0 led) }
end
end ST
namespace FD
open PySem PySem.Spec PyProof.Rows L2
def lB:List Dv→Option (List Str)
 | []=>a_ []
 | .str x :: r=>(lB r).map (x :: ·)
 | _=>ck
def kw:List Dv→Option (List (List Str))
 | []=>a_ []
 | .tup ds :: r=>match lB ds,kw r with
  | some k,a_ ks=>a_ (k :: ks)
  | _,_=>ck
 | _=>ck
section
variable {X:Cx} {f':List (k_×Obj)} {σ:L2.St} {H:Hp} {s:h_}
theorem lC {prog:r_} {w:E_}:∀ {ds:List Dv} {k:List Str} {ys:List V} {its:List g_},lB ds=a_ k→Reps X.K H ds ys→Vals ys its→PySem.ItemsAre (PySem.strKind prog w) k its
 | [],k,ys,its,h,r,v=>by
  cases h;cases (show ys=[] from r);cases v;exact .nil
 | .str x :: ds,k,ys,its,h,r,v=>by
  obtain ⟨y,us,rfl,r1,r2⟩:∃ v us,ys=v :: us∧Rep X.K H (.str x) v∧Reps X.K H ds us:=r;cases (show y=.str x from r1);obtain ⟨k',h1,rfl⟩:=Lw.mp (show (lB ds).map (x :: ·)=a_ k from h);cases v with
  | cons v1 v2 =>
   obtain ⟨t,rfl⟩:=v1;exact .cons (by show QE x (.str x t)=c_; simp [QE]) (lC h1 r2 v2)
 | .non :: ds,k,ys,its,h,r,v=>by cases h
 | .bl _ :: ds,k,ys,its,h,r,v=>by cases h
 | .int _ :: ds,k,ys,its,h,r,v=>by cases h
 | .tup _ :: ds,k,ys,its,h,r,v=>by cases h
 | .lst _ :: ds,k,ys,its,h,r,v=>by cases h
 | .scr _ :: ds,k,ys,its,h,r,v=>by cases h
 | .exn _ :: ds,k,ys,its,h,r,v=>by cases h
theorem HN (I:Inv X f' σ H s) {ds:List Dv} {k:List Str} {v:V} {u:g_} (h:lB ds=a_ k) (r:Rep X.K H (.tup ds) v) (q:RelV v u):∃ a,u=.ref a∧ST.TK X.prog X.w s.heap k a:=by
 obtain ⟨a,xs,rfl,hH,rs⟩:=r.tupE;cases (show u=x_ a from q);obtain ⟨its,rv,⟨o,e,c,n,d⟩,hz⟩:=I.tuple (SqT.of hH);exact ⟨a,rfl,o,its.toArray,_,e,c,d,by simpa using lC h rs rv⟩
theorem uN (I:Inv X f' σ H s):∀ {ds:List Dv} {ks:List (List Str)} {xs:List V} {its:List g_},kw ds=a_ ks→Reps X.K H ds xs→Vals xs its→ks.length=its.length∧∀ i,i < its.length→∃ a,its[i]?=a_ (.ref a)∧ST.TK X.prog X.w s.heap (ks.getD i []) a
 | [],ks,xs,its,h,r,v=>by
  cases h;cases (show xs=[] from r);cases v;exact ⟨rfl,fun i hi=>absurd hi (Mu _)⟩
 | .tup es :: ds,ks,xs,its,h,r,v=>by
  obtain ⟨y,us,rfl,r1,r2⟩:∃ v us,xs=v :: us∧Rep X.K H (.tup es) v∧Reps X.K H ds us:=r;unfold kw at h;split at h
  · rename_i k ks' h1 h2;cases h;cases v with
    | cons v1 v2 =>
     obtain ⟨a,rfl,ta⟩:=HN I h1 r1 v1;obtain ⟨q1,q2⟩:=uN I h2 r2 v2;refine ⟨by simp [q1],fun i hi=>?_⟩;cases i with
     | zero=>exact ⟨a,rfl,ta⟩
     | succ i =>
      obtain ⟨a',e1,e2⟩:=q2 i (by simpa using hi);exact ⟨a',by simpa using e1,by simpa using e2⟩
  · cases h
 | .non :: ds,ks,xs,its,h,r,v=>by cases h
 | .bl _ :: ds,ks,xs,its,h,r,v=>by cases h
 | .int _ :: ds,ks,xs,its,h,r,v=>by cases h
 | .str _ :: ds,ks,xs,its,h,r,v=>by cases h
 | .lst _ :: ds,ks,xs,its,h,r,v=>by cases h
 | .scr _ :: ds,ks,xs,its,h,r,v=>by cases h
 | .exn _ :: ds,ks,xs,its,h,r,v=>by cases h
end
section
variable {X:Cx} {p p2 pos pos2:Pos} {e:F_} {ga:FnA}
end
def oY:Dv→Dv→Option (Rs Dv)
 | .lst xs,.int n=>if 0≤n∧xs.length * n.toNat≤100000∧n≤100000 then a_ (.ok (.lst (u_ n.toNat xs).flatten)) else ck
 | x,y=>Jn x y
section
variable {X:Cx}
theorem qN {K:e_} {H:Hp} {ds:List Dv} {vs:List V} (h:Reps K H ds vs):∀ n:Nat,Reps K H (u_ n ds).flatten (u_ n vs).flatten
 | 0=>rfl
 | n + 1=>by
  rw [LV,LV,ML,ML];exact h.append (qN h n)
def D7:R2:=fun x y H Q=>Jf x y H Q∨(w5 x y H Q∨rI CMul (fun i j=>.int (i * j)) x y H Q)
theorem D8:OpR X (Mi .Mult) D7:=op_rep.or DJ
theorem Ea:GOp X D7 oY:=by
 intro dx dy x y H Q rx ry o;cases dx with
 | lst xs =>
  cases dy with
  | int n =>
   have o2:Out X H (if 0≤n∧xs.length * n.toNat≤100000∧n≤100000 then a_ (.ok (.lst (u_ n.toNat xs).flatten)) else ck) Q:=o;by_cases hc:0≤n∧xs.length * n.toNat≤100000∧n≤100000
   · rw [if_pos hc] at o2;obtain ⟨p,vs,rfl,h1,q1⟩:=rx.lstE;refine .inl ⟨p,n,vs,rfl,ry,h1,by omega,by omega,by rw [q1.length]; exact cA hc.2.1,fun l hl=>o2 _ _ (aE hl _) ⟨l,_,rfl,aA,Reps.mono (aE hl _) _ _ (qN q1 _)⟩⟩
   · rw [if_neg hc] at o2;exact o2.elim
  | _=>exact .inr (yQ _ _ x y H Q rx ry o)
 | _=>exact .inr (yQ _ _ x y H Q rx ry o)
end
def frs {α:Type} (P:α→Bool):Sem α→Bool
 | .pure a=>P a
 | .fresh _=>c_
 | .at _ k=>frs P (k ())
 | .rule _ k=>frs P (k ())
 | .point _ k=>frs P (k ())
 | _=>d_
structure FE1 (X:Cx) (e:F_) (f:FnE):Prop where
 h:∀ (f':List (k_×Obj)) (s:h_) (σ:L2.St) (H:Hp) (Q:VK),1≤s.toks→Inv X f' σ H s→tF X f σ H Q→w_ (z_ X.prog X.w) X.A (eval e X.env) (EP X f' σ Q) X.xe s
structure FT1 (X:Cx) (e:F_) (f:FnB):Prop where
 h:∀ (f':List (k_×Obj)) (s:h_) (σ:L2.St) (H:Hp) (Q:Bool→Hp→Prop),1≤s.toks→Inv X f' σ H s→tT X f σ H Q→w_ (z_ X.prog X.w) X.A (isTrue e X.env (eval e X.env)) (TP X f' σ Q) X.xe s
structure FW1 (X:Cx) (e:F_) (f:FnB):Prop where
 h:∀ (whole:Sem g_) (f':List (k_×Obj)) (s:h_) (σ:L2.St) (H:Hp) (Q:Bool→Hp→Prop),1≤s.toks→Inv X f' σ H s→tT X f σ H Q→w_ (z_ X.prog X.w) X.A (isTrue e X.env whole) (TP X f' σ Q) X.xe s
structure FS1 (X:Cx) (st:LY) (f:FnS):Prop where
 h:∀ (f':List (k_×Obj)) (s:h_) (σ:L2.St) (H:Hp) (D:sy),1≤s.toks→Inv X f' σ H s→tS X f D σ H→w_ (z_ X.prog X.w) X.A (exec st X.env) (SP X f' D) X.xe s
structure KT (X:Cx) (st:List LY) (f:FnS):Prop where
 h:∀ (f':List (k_×Obj)) (s:h_) (σ:L2.St) (H:Hp) (D:sy),1≤s.toks→Inv X f' σ H s→tS X f D σ H→w_ (z_ X.prog X.w) X.A (execs st X.env) (SP X f' D) X.xe s
structure FTg (X:Cx) (e:F_) (f:FnB):Prop where
 h:∀ (f':List (k_×Obj)) (s:h_) (σ:L2.St) (H:Hp) (Q:Bool→Hp→Prop),Inv X f' σ H s→tT X f σ H Q→w_ (z_ X.prog X.w) X.A (isTrue e X.env (eval e X.env)) (fun b s'=>(b=c_∨1≤s'.toks)∧TP X f' σ Q b s') X.xe s
structure FWg (X:Cx) (e:F_) (f:FnB):Prop where
 h:∀ (whole:Sem g_) (f':List (k_×Obj)) (s:h_) (σ:L2.St) (H:Hp) (Q:Bool→Hp→Prop),Inv X f' σ H s→tT X f σ H Q→w_ (z_ X.prog X.w) X.A (isTrue e X.env whole) (fun b s'=>(b=c_∨1≤s'.toks)∧TP X f' σ Q b s') X.xe s
def Eb:Flow→Bool
 | .next=>c_
 | _=>d_
structure FSg (X:Cx) (st:LY) (f:FnS):Prop where
 h:∀ (f':List (k_×Obj)) (s:h_) (σ:L2.St) (H:Hp) (D:sy),Inv X f' σ H s→tS X f D σ H→w_ (z_ X.prog X.w) X.A (exec st X.env) (fun fl s'=>(Eb fl=d_∨1≤s'.toks)∧SP X f' D fl s') X.xe s
section
variable {X:Cx} {a b o e:F_} {fa fo:FnE} {ga gb:FnB} {f g:FnS} {rest:List F_} {st:LY} {sts as bs:List LY} {pos apos cpos:Pos}
theorem FWg.ft (h:FWg X e ga):FTg X e ga:=⟨h.h _⟩
end
section
variable {prog:r_} {w:E_} {A:G_} {E:g_→h_→Prop} {s:h_}
theorem lD {iv tv:k_} {k:Nat} {vs:Array g_} {v:g_} {Q:g_→h_→Prop} (gi:s.heap.IsTupleIter iv tv k) (gt:s.heap.IsTuple tv vs) (gv:vs[k]?=a_ v)
 (q:∀ h',h'.IsTupleIter iv tv (k + 1)→Nq iv s.heap h'→Q v { s with heap:=h' }):w_ (z_ prog w) A (LF (.ref iv)) Q E s:=by
 obtain ⟨ob,o1,o2,o3⟩:=id gi; obtain ⟨tb,t1,_,m,t2⟩:=gt;unfold LF;refine f_ (L7 (name:=b_ "__next__") gi.typeIs MC (MU MC gi.typeIs OB ?_ (Ou _)));show w_ _ _ (RZ (.ref iv) 0 >>= _) _ _ s; refine f_ (LM o1 o3 (x:=.ref tv) rfl ?_);show w_ _ _ (if (x_ tv == K9)=c_ then _ else _) _ _ s; rw [if_neg (show ¬ ((x_ tv == K9)=c_) from p_)];show w_ _ _ (RZ (.ref iv) 1 >>= _) _ _ s; refine f_ (LM o1 o3 (x:=.int k 0) rfl ?_);show w_ _ _ (seqItems? (.ref tv) >>= _) _ _ s; refine f_ (Mq t1 t2 ?_); simp only [Rk,gv];refine f_ (wpAny_setField o1 o3 (by simp) (m_ ⟨v,rfl,m_ (q _ ⟨_,N7 _ o1 (Obj.isFreed_of_fields (QN o3 _)),(Obj.cls_mapFields ..).trans o2,by rw [QN o3]; simp [RW]⟩ (Nw ..))⟩))
theorem uO {iv tv:k_} {k:Nat} {vs:Array g_} {Q:g_→h_→Prop} (hh:A.handled=ck) (gi:s.heap.IsTupleIter iv tv k) (gt:s.heap.IsTuple tv vs) (gv:vs[k]?=ck)
 (q:∀ h' e,Heap.ExtBut iv s.heap h'→(∃ o,h'.get? e=a_ o∧o.cls=.type "StopIteration")→E (.ref e) { s with heap:=h' }):w_ (z_ prog w) A (LF (.ref iv)) Q E s:=by
 obtain ⟨ob,o1,o2,o3⟩:=id gi; obtain ⟨tb,t1,_,m,t2⟩:=gt;unfold LF;refine f_ (L7 (name:=b_ "__next__") gi.typeIs MC (MU MC gi.typeIs OB ?_ (Ou _)));show w_ _ _ (RZ (.ref iv) 0 >>= _) _ _ s; refine f_ (LM o1 o3 (x:=.ref tv) rfl ?_);show w_ _ _ (if (x_ tv == K9)=c_ then _ else _) _ _ s; rw [if_neg (show ¬ ((x_ tv == K9)=c_) from p_)];show w_ _ _ (RZ (.ref iv) 1 >>= _) _ _ s; refine f_ (LM o1 o3 (x:=.int k 0) rfl ?_);show w_ _ _ (seqItems? (.ref tv) >>= _) _ _ s; refine f_ (Mq t1 t2 ?_); simp only [Rk,gv];refine f_ (Ps (f_ (wpAny_setField o1 o3 (by simp) ?_)));show w_ _ _ (newExc (.type "StopIteration") [] >>= _) _ _ _; refine f_ ?_; simp only [newExc,newTuple]; refine f_ (Mt ?_ (by size_fits));refine f_ (m:=firstArgMember _ _) (wpAny_of_eq (a:=K9) (by first | rfl | (simp only [firstArgMember]; rfl)) ?_); refine Mt ?_ (by size_fits); simp only [raiseNew]
 refine f_ (wpAny_handled ?_); first | rw [show A.in1.handled=ck from hh] | rw [hh]
 exact f_ (m_ (wpAny_throw (q _ _ (((Nw ..).extBut.push _).push _) ⟨_,B_ _ rfl,rfl⟩)))
theorem uP {z TI TO i1 i2 l1 l2:k_} {k:Nat} {xs ys:Array g_} {x y a b:g_} {Q:Option g_→h_→Prop} (D:R5 z TI TO i1 i2 l1 l2)
 (hz:PR s.heap z TI TO .none) (hTI:Nv s.heap TI (.ref i1) (.ref i2)) (hTO:Nv s.heap TO a b)
 (j1:s.heap.IsTupleIter i1 l1 k) (j2:s.heap.IsTupleIter i2 l2 k) (m1:s.heap.IsTuple l1 xs) (m2:s.heap.IsTuple l2 ys) (hx:xs[k]?=a_ x) (hy:ys[k]?=a_ y)
 (q:∀ h',PR h' z TI TO (RW s.heap.objs.size)→Nv h' TO x y→h'.IsTupleIter i1 l1 (k + 1)→h'.IsTupleIter i2 l2 (k + 1)→Nv h' s.heap.objs.size x y→h'.objs.size=s.heap.objs.size + 1 →
   (∀ c o,c≠z→c≠TO→c≠i1→c≠i2→s.heap.get? c=a_ o→h'.get? c=a_ o)→Q (a_ (.ref s.heap.objs.size)) { s with heap:=h' }) :
 w_ (z_ prog w) A (P8 (.ref z)) Q E s:=by
 have ty:s.TypeIs (.ref z) "zip":=⟨_,hz,rfl⟩;unfold P8; refine f_ (O_ (L7 (name:=b_ "__next__") ty Ot (MU Ot ty F.entry_zip_next ?_ (F.args_zip_next_1 _))));show w_ _ _ (RZ (.ref z) 2 >>= _) _ _ s; refine f_ (LM hz rfl (x:=.bool d_) rfl ?_); show w_ _ _ (RZ (.ref z) 3 >>= _) _ _ s;refine f_ (LM hz rfl (x:=.ref TI) rfl ?_); refine f_ (Mq hTI rfl ?_); show w_ _ _ (L4 (.ref z) >>= _) _ _ s;refine f_ ?_; unfold L4; refine f_ (LM hz rfl (x:=.none) rfl (m_ ?_)); simp only [if_true]; refine f_ (Ps ?_);refine f_ (LM hz rfl (x:=.ref TO) rfl ?_); refine f_ (M1 hz (by simp) fun hA zA sA=>?_);have zA':PR hA z TI TO .ellipsis:=zA;refine f_ ?_; simp only [Oe,RL,RO,Qk]; refine f_ (f_ (O9 ?_));show w_ _ _ (LF (.ref i1) >>= _) _ _ _; refine f_ (lD (j1.extBut sA.extBut D.i1z) (m1.extBut sA.extBut D.l1z) hx fun hB jB sB=>m_ ?_);have tB:Nv hB TO a b:=sB.extBut _ _ D.TOi1 (sA.extBut _ _ D.TOz hTO);refine f_ (Mq tB rfl ?_); refine f_ (P7 tB fun hC tC sC=>?_);have tC':Nv hC TO x b:=tC;refine f_ (wpAny_letGo (m_ ?_)); refine f_ (f_ (O9 ?_)); show w_ _ _ (LF (.ref i2) >>= _) _ _ _;refine f_ (lD (((j2.extBut sA.extBut D.i2z).extBut sB.extBut D.i12.symm).extBut sC.extBut D.TOi2.symm) (((m2.extBut sA.extBut D.l2z).extBut sB.extBut D.l2i1).extBut sC.extBut D.l2TO) hy fun hD jD sD=>m_ ?_);have tD:Nv hD TO x b:=sD.extBut _ _ D.TOi2 tC';refine f_ (Mq tD rfl ?_); refine f_ (P7 tD fun hF tF sF=>?_);have tF':Nv hF TO x y:=tF;refine f_ (wpAny_letGo (m_ (m_ ?_))); refine f_ (Mq tF' rfl ?_); refine f_ (wpAny_newTuple ?_);have n5:hF.objs.size=s.heap.objs.size:=by rw [sF.1,sD.1,sC.1,sB.1,sA.1]
 have z5:PR hF z TI TO .ellipsis:=sF.extBut _ _ D.TOz.symm (sD.extBut _ _ D.i2z.symm (sC.extBut _ _ D.TOz.symm (sB.extBut _ _ D.i1z.symm zA')));have k5:∀ c o,c≠z→c≠TO→c≠i1→c≠i2→s.heap.get? c=a_ o→hF.get? c=a_ o:=fun c o c1 c2 c3 c4 g=>sF.extBut _ _ c2 (sD.extBut _ _ c4 (sC.extBut _ _ c2 (sB.extBut _ _ c3 (sA.extBut _ _ c1 g))));have p1:hF.IsTupleIter i1 l1 (k + 1):=((jB.extBut sC.extBut D.TOi1.symm).extBut sD.extBut D.i12).extBut sF.extBut D.TOi1.symm;have p2:hF.IsTupleIter i2 l2 (k + 1):=jD.extBut sF.extBut D.TOi2.symm;have nz:z < hF.objs.size:=t_ z5;show w_ _ _ (Nx (.ref z) (.ref hF.objs.size) >>= _) _ _ _; refine f_ ?_; unfold Nx;have z6:PR (hF.push { cls:=.type "tuple",data:=.seq #[x,y] }) z TI TO .ellipsis:=j_ _ z5;refine f_ (M1 z6 (by simp) fun hG zG sG=>?_);have zG':PR hG z TI TO (RW hF.objs.size):=zG;refine M1 zG' (by simp) fun hH zH sH=>?_;have zH':PR hH z TI TO (RW hF.objs.size):=zH;have up:∀ c o,c≠z→hF.get? c=a_ o→hH.get? c=a_ o:=fun c o c1 g=>sH.extBut _ _ c1 (sG.extBut _ _ c1 (j_ _ g));have pr:Nv hH hF.objs.size x y:=sH.extBut _ _ (N0 nz) (sG.extBut _ _ (N0 nz) (B_ _ rfl));have n8:hH.objs.size=hF.objs.size + 1:=by rw [sH.1,sG.1,Lv]
 rw [n5] at zH' pr n8;refine m_ ⟨_,rfl,m_ ?_⟩;show Q (a_ (.ref hF.objs.size)) _; rw [n5];exact q hH zH' (up _ _ D.TOz tF') (p1.at fun o g=>up _ o D.i1z g) (p2.at fun o g=>up _ o D.i2z g) pr n8 fun c o c1 c2 c3 c4 g=>up c o c1 (k5 c o c1 c2 c3 c4 g)
theorem xp {z TI TO i1 i2 l1 l2:k_} {k:Nat} {xs:Array g_} {a b:g_} {Q:Option g_→h_→Prop} (hh:A.handled=ck) (D:R5 z TI TO i1 i2 l1 l2)
 (hz:PR s.heap z TI TO .none) (hTI:Nv s.heap TI (.ref i1) (.ref i2)) (hTO:Nv s.heap TO a b)
 (j1:s.heap.IsTupleIter i1 l1 k) (m1:s.heap.IsTuple l1 xs) (hx:xs[k]?=ck)
 (q:∀ h',(∀ c o,c≠z→c≠TO→c≠i1→c≠i2→s.heap.get? c=a_ o→h'.get? c=a_ o)→Q ck { s with heap:=h' }):w_ (z_ prog w) A (P8 (.ref z)) Q E s:=by
 have ty:s.TypeIs (.ref z) "zip":=⟨_,hz,rfl⟩;unfold P8; refine f_ (O_ (L7 (name:=b_ "__next__") ty Ot (MU Ot ty F.entry_zip_next ?_ (F.args_zip_next_1 _))));show w_ _ _ (RZ (.ref z) 2 >>= _) _ _ s; refine f_ (LM hz rfl (x:=.bool d_) rfl ?_); show w_ _ _ (RZ (.ref z) 3 >>= _) _ _ s;refine f_ (LM hz rfl (x:=.ref TI) rfl ?_); refine f_ (Mq hTI rfl ?_); show w_ _ _ (L4 (.ref z) >>= _) _ _ s;refine f_ ?_; unfold L4; refine f_ (LM hz rfl (x:=.none) rfl (m_ ?_)); simp only [if_true]; refine f_ (Ps ?_);refine f_ (LM hz rfl (x:=.ref TO) rfl ?_); refine f_ (M1 hz (by simp) fun hA zA sA=>?_);have zA':PR hA z TI TO .ellipsis:=zA;refine f_ ?_; simp only [Oe,RL,RO,Qk]; refine f_ (f_ (O9 ?_));show w_ _ _ (LF (.ref i1) >>= _) _ _ _;refine f_ (uO hh (j1.extBut sA.extBut D.i1z) (m1.extBut sA.extBut D.l1z) hx fun hB e sB he=>?_);obtain ⟨oe,g1,g2⟩:=he;have zB:PR hB z TI TO .ellipsis:=sB _ _ D.i1z.symm zA';have ne:e≠z:=fun g=>by subst g; rw [zB] at g1; cases g1; simp at g2
 refine M1 zB (by simp) fun hC _ sC=>?_;refine f_ (wpAny_isInstance (T:="StopIteration") (b:=c_) ⟨oe,sC.extBut _ _ ne g1,g2⟩ isSubtype_stop (m_ (q hC fun c o c1 _ c3 _ g=>sC.extBut _ _ c1 (sB _ _ c3 (sA.extBut _ _ c1 g)))))
end
abbrev zq1 (h:K5) (l1:k_):K5:=h.push { cls:=.type "tuple_iterator",data:=.fields #[.ref l1,.int 0 0] }
abbrev zq2 (h:K5) (l1 l2:k_):K5:=(zq1 h l1).push { cls:=.type "tuple_iterator",data:=.fields #[.ref l2,.int 0 0] }
abbrev zq3 (h:K5) (l1 l2:k_):K5:=(zq2 h l1 l2).push { cls:=.type "tuple",data:=.seq #[.ref h.objs.size,.ref (zq1 h l1).objs.size] }
abbrev zq4 (h:K5) (l1 l2:k_):K5:=(zq3 h l1 l2).push { cls:=.type "tuple",data:=.seq #[.none,.none] }
abbrev zq5 (h:K5) (l1 l2:k_):K5:=(zq4 h l1 l2).push { cls:=.type "zip",data:=.fields #[.none,.bool d_,.bool d_,.ref (zq2 h l1 l2).objs.size,.ref (zq3 h l1 l2).objs.size] }
theorem xq (l1 l2:k_) (xs ys:Array g_) :
 Meets (Oi.«zip.__new__» ⟨[.type "zip",.ref l1,.ref l2],[]⟩) (fun _ R s=>s.heap.IsTuple l1 xs∧s.heap.IsTuple l2 ys∧R (.ok (.ret (.ref (zq4 s.heap l1 l2).objs.size))) { s with heap:=zq5 s.heap l1 l2 }) :=
 .of_wp fun prog w A R s h=>by
  obtain ⟨hp,g,d,tk,os⟩:=s; obtain ⟨m1,m2,h⟩:=h;have hsub:=sub_zip;have t1:Heap.IsTuple (Shared.heap ⟨hp,g,d,tk,os⟩) l1 xs:=m1;have t2:Heap.IsTuple (Shared.heap ⟨hp.push { cls:=.type "tuple_iterator",data:=.fields #[.ref l1,.int 0 0] },g,d,tk,os⟩) l2 ys:=Heap.IsTuple.push m2 _
  wp_walk using OH t1,OH t2
  exact ⟨_,rfl,h⟩
section
variable {prog:r_} {w:E_} {A:G_} {E:g_→h_→Prop} {s:h_}
theorem uQ {l1 l2:k_} {xs ys:Array g_} {Q:g_→h_→Prop} (m1:s.heap.IsTuple l1 xs) (m2:s.heap.IsTuple l2 ys)
 (q:∀ h',PR h' (s.heap.objs.size + 4) (s.heap.objs.size + 2) (s.heap.objs.size + 3) .none→Nv h' (s.heap.objs.size + 2) (.ref s.heap.objs.size) (.ref (s.heap.objs.size + 1)) →
   Nv h' (s.heap.objs.size + 3) .none .none→h'.IsTupleIter s.heap.objs.size l1 0→h'.IsTupleIter (s.heap.objs.size + 1) l2 0→h'.objs.size=s.heap.objs.size + 5 →
   (∀ c o,s.heap.get? c=a_ o→h'.get? c=a_ o)→Q (.ref (s.heap.objs.size + 4)) { s with heap:=h' }) :
 w_ (z_ prog w) A (call (.type "zip") [.ref l1,.ref l2]) Q E s:=by
 refine callType_new F.called_zip (by decide) (F.typeCall_zip_2 _ _) (F.newCall_zip_2 _ _) (fun obj=>F.args_object_init_3 obj _ _) F.entry_zip_new (xq l1 l2 xs ys) ⟨m1,m2,?_⟩;have n1:(zq1 s.heap l1).objs.size=s.heap.objs.size + 1:=Lv ..;have n2:(zq2 s.heap l1 l2).objs.size=s.heap.objs.size + 2:=by rw [Lv,n1]
 have n3:(zq3 s.heap l1 l2).objs.size=s.heap.objs.size + 3:=by rw [Lv,n2]
 have n4:(zq4 s.heap l1 l2).objs.size=s.heap.objs.size + 4:=by rw [Lv,n3]
 have n5:(zq5 s.heap l1 l2).objs.size=s.heap.objs.size + 5:=by rw [Lv,n4]
 have P:=@j_;have g5:(zq5 s.heap l1 l2).get? (zq4 s.heap l1 l2).objs.size=a_ _:=B_ _ rfl;have g4:(zq5 s.heap l1 l2).get? (zq3 s.heap l1 l2).objs.size=a_ _:=j_ _ (B_ _ rfl);have g3:(zq5 s.heap l1 l2).get? (zq2 s.heap l1 l2).objs.size=a_ _:=j_ _ (j_ _ (B_ _ rfl));have g2:(zq5 s.heap l1 l2).get? (zq1 s.heap l1).objs.size=a_ _:=j_ _ (j_ _ (j_ _ (B_ _ rfl)));have g1:(zq5 s.heap l1 l2).get? s.heap.objs.size=a_ _:=j_ _ (j_ _ (j_ _ (j_ _ (B_ _ rfl))));show _∧_;rw [n2,n3,n4] at g5; rw [n1,n2] at g3; rw [n3] at g4; rw [n1] at g2; rw [n4];exact ⟨⟨_,g5,rfl⟩,q _ g5 g3 g4 ⟨_,g1,rfl,rfl⟩ ⟨_,g2,rfl,rfl⟩ n5 fun c o g=>j_ _ (j_ _ (j_ _ (j_ _ (j_ _ g))))⟩
end
def Itz (a b:k_):It :=
 ⟨fun i H=>∃ xs ys x y,H a=a_ (.tup xs)∧H b=a_ (.tup ys)∧xs[i]?=a_ x∧ys[i]?=a_ y,
  fun i H v H'=>∃ p x y,v=.ref p∧H p=ck∧H'=upd H p (.tup [x,y])∧(∀ xs,H a=a_ (.tup xs)→xs[i]?=a_ x)∧(∀ ys,H b=a_ (.tup ys)→ys[i]?=a_ y),
  fun i H=>∃ xs ys,H a=a_ (.tup xs)∧H b=a_ (.tup ys)∧xs.length≤i⟩
structure ZSt (z TI TO i1 i2 a b:k_) (i:Nat) (h:K5):Prop where
 z:PR h z TI TO .none
 ti:Nv h TI (.ref i1) (.ref i2)
 to:∃ p q,Nv h TO p q
 j1:h.IsTupleIter i1 a i
 j2:h.IsTupleIter i2 b i
structure ZNe (z TI TO i1 i2:k_):Prop where
 n1:TI≠z
 n2:TO≠z
 n3:i1≠z
 n4:i2≠z
 n5:TI≠TO
 n6:TI≠i1
 n7:TI≠i2
 n8:TO≠i1
 n9:TO≠i2
 n10:i1≠i2
theorem HP {z TI TO i1 i2 c:k_} (h:c∈[z,TI,TO,i1,i2]):c=z∨c=TI∨c=TO∨c=i1∨c=i2:=by simpa using h
theorem xr {P:r_} {w:E_} {K:e_} {es:List F_} {k:Nat} {pos:Pos} (a b z TI TO i1 i2:k_) (N:ZNe z TI TO i1 i2):wt P w K (.Tuple es k pos) (Itz a b) [z,TI,TO,i1,i2] z (fun i h=>ZSt z TI TO i1 i2 a b i h) where
 mem:=by simp
 obj:=fun i h st c hc=>by
  obtain ⟨p,q,g3⟩:=st.to;rcases HP hc with rfl | rfl | rfl | rfl | rfl
  · exact ⟨_,st.z,fun v g=>by cases g⟩
  · exact ⟨_,st.ti,fun v g=>by cases g⟩
  · exact ⟨_,g3,fun v g=>by cases g⟩
  · obtain ⟨o,e,_,d⟩:=st.j1;exact ⟨o,e,fun v g=>by rw [d] at g; cases g⟩
  · obtain ⟨o,e,_,d⟩:=st.j2;exact ⟨o,e,fun v g=>by rw [d] at g; cases g⟩
 keep:=fun i h h' st kk=>by
  obtain ⟨p,q,g3⟩:=st.to;exact ⟨kk z (by simp) _ st.z,kk TI (by simp) _ st.ti,⟨p,q,kk TO (by simp) _ g3⟩,st.j1.at fun o e=>kk i1 (by simp) o e,st.j2.at fun o e=>kk i2 (by simp) o e⟩
 item:=by
  intro X hP hw hK hc i f' s σ H E I hf st hg;subst hP hw hK;obtain ⟨xs,ys,x,y,ha,hb,hx,hy⟩:=hg;obtain ⟨its,rv,p,_⟩:=I.tuple (SqT.of ha);obtain ⟨jts,sv,p',_⟩:=I.tuple (SqT.of hb);obtain ⟨u,hu,ru⟩:=rv.get hx;obtain ⟨v,hv,rw'⟩:=sv.get hy;obtain ⟨q1,q2,hTO⟩:=st.to;have F:∀ c∈[z,TI,TO,i1,i2],sW X f' H c:=hf;have fr:∀ c∈[z,TI,TO,i1,i2],H c=ck:=fun c m=>(hf c m).1;have an:∀ c∈[z,TI,TO,i1,i2],a≠c:=fun c m g=>by rw [g,fr c m] at ha; cases ha
  have bn:∀ c∈[z,TI,TO,i1,i2],b≠c:=fun c m g=>by rw [g,fr c m] at hb; cases hb
  have D:R5 z TI TO i1 i2 a b:=⟨N.n1,N.n2,N.n3,N.n4,N.n5,N.n6,N.n7,N.n8,N.n9,N.n10,an z (by simp),an TO (by simp),an i1 (by simp),an i2 (by simp),bn z (by simp),bn TO (by simp),bn i1 (by simp),bn i2 (by simp)⟩;refine uP D st.z st.ti hTO st.j1 st.j2 (show s.heap.IsTuple a its.toArray from p) (show s.heap.IsTuple b jts.toArray from p') (x:=u) (y:=v) (by simpa using hu) (by simpa using hv) fun h' a1 a2 a3 a4 a5 a6 kk=>?_;refine ⟨_,rfl,wpAny_letOwnedTupleGo_zip a1 fun h2 z2 sb2=>?_⟩;have hp:H s.heap.objs.size=ck:=I.hok.fresh (uk _);have zlt:z < s.heap.objs.size:=t_ st.z;have k2:∀ c o,c ∉ [z,TO,i1,i2]→s.heap.get? c=a_ o→h2.get? c=a_ o:=fun c o hc' q=>sb2.extBut c o (fun g=>hc' (by simp [g])) (kk c o (fun g=>hc' (by simp [g])) (fun g=>hc' (by simp [g])) (fun g=>hc' (by simp [g])) (fun g=>hc' (by simp [g])) q);have tp2:h2.get? s.heap.objs.size=a_ { cls:=.type "tuple",data:=.seq #[u,v] }:=sb2.extBut _ _ (N0 zlt) a5;have sub:∀ c,c∈[z,TO,i1,i2]→c∈[z,TI,TO,i1,i2]:=fun c m=>by
   have m':c=z∨c=TO∨c=i1∨c=i2:=by simpa using m
   rcases m' with rfl | rfl | rfl | rfl <;> simp
  have I1:Inv X f' σ (upd H s.heap.objs.size (.tup [x,y])) { s with heap:=h2 }:=by
   have nt:∀ c o,H c=a_ o→c ∉ [z,TO,i1,i2]:=fun c o q m=>by rw [fr c (sub c m)] at q; cases q
   refine I.step (g':=s.gens) (d':=s.drawn) (t':=s.toks) (ch:=[z,TO,i1,i2]) (fun c m=>?_) (fun c o _ _ hcb q _=>k2 c o hcb q) (fun c o _ _ hcb q _=>⟨o.slots,k2 c o hcb q⟩) (fun c o hcb q n=>?_) (fun c o hcb q=>⟨o,k2 c o hcb q⟩)
    (fun c zs q=>by rw [aB (ax q hp)]; exact q) (fun c o zs q=>by rw [aB (ax q hp)]; exact q) (fun c ps q=>⟨#[],by rw [aB (ax q hp),q]; simp⟩) (fun m hm=>?_) (fun c o2 q=>?_) I.bare
   · obtain ⟨f0,f1,f2,f3,f4,f5⟩:=hf c (sub c m);exact ⟨f3,f1,f4,f5⟩
   · rw [aB (K7 (t_ q))]; exact n
   · obtain ⟨o,es',ep,ho,r⟩:=hm;exact ⟨o,es',ep,k2 _ o (fun m=>(hf _ (sub _ m)).2.1 rfl) ho,r⟩
   · by_cases hcs:c=s.heap.objs.size
     · subst hcs;rw [aA] at q;cases q;exact ⟨by show 2≤sizeLine; decide,[u,v],.cons ru (.cons rw' .nil),⟨_,tp2,rfl,_,rfl⟩⟩
     · rw [aB hcs] at q;refine (I.hok c o2 q).stay (fun e v' hcv qq=>k2 e v' ?_ qq) (fun e qq=>by rw [aB (ax qq hp)]; exact qq) fun e zs qq=>by rw [aB (ax qq hp)]; exact qq
       rcases hcv with rfl | hcv
       · exact nt _ _ q
       · exact nt _ _ hcv
  refine ⟨.ref s.heap.objs.size,_,I1,rfl,⟨_,x,y,rfl,hp,rfl,fun zs hz'=>?_,fun zs hz'=>?_⟩,⟨z2,?_,⟨_,_,sb2.extBut _ _ N.n2 a2⟩,a3.at fun o q=>sb2.extBut _ _ N.n3 q,a4.at fun o q=>sb2.extBut _ _ N.n4 q⟩,fun c m=>?_⟩
  · rw [ha] at hz'; cases hz'; exact hx
  · rw [hb] at hz'; cases hz'; exact hy
  · exact sb2.extBut _ _ N.n1 (kk _ _ N.n1 N.n5 N.n6 N.n7 st.ti)
  · have lt:c < s.heap.objs.size:=by
     rcases HP m with rfl | rfl | rfl | rfl | rfl
     · exact zlt
     · exact t_ st.ti
     · exact t_ hTO
     · obtain ⟨_,e,_⟩:=st.j1; exact t_ e
     · obtain ⟨_,e,_⟩:=st.j2; exact t_ e
    rw [aB (K7 lt)]; exact fr c m
 done:=by
  intro X hP hw hK hc i f' s σ H E I hf st hg;subst hP hw hK;obtain ⟨xs,ys,ha,hb,hl⟩:=hg;obtain ⟨its,rv,p,_⟩:=I.tuple (SqT.of ha);obtain ⟨q1,q2,hTO⟩:=st.to;have fr:∀ c∈[z,TI,TO,i1,i2],H c=ck:=fun c m=>(hf c m).1;have an:∀ c∈[z,TI,TO,i1,i2],a≠c:=fun c m g=>by rw [g,fr c m] at ha; cases ha
  have bn:∀ c∈[z,TI,TO,i1,i2],b≠c:=fun c m g=>by rw [g,fr c m] at hb; cases hb
  have D:R5 z TI TO i1 i2 a b:=⟨N.n1,N.n2,N.n3,N.n4,N.n5,N.n6,N.n7,N.n8,N.n9,N.n10,an z (by simp),an TO (by simp),an i1 (by simp),an i2 (by simp),bn z (by simp),bn TO (by simp),bn i1 (by simp),bn i2 (by simp)⟩;have hlen:=rv.length;refine xp (I.ok.hd hc) D st.z st.ti hTO st.j1 (show s.heap.IsTuple a its.toArray from p) (by simp; omega) fun h' kk=>⟨rfl,?_⟩;have k2:∀ c o,c ∉ [z,TO,i1,i2]→s.heap.get? c=a_ o→h'.get? c=a_ o:=fun c o hc' q=>kk c o (fun g=>hc' (by simp [g])) (fun g=>hc' (by simp [g])) (fun g=>hc' (by simp [g])) (fun g=>hc' (by simp [g])) q;have sub:∀ c,c∈[z,TO,i1,i2]→c∈[z,TI,TO,i1,i2]:=fun c m=>by
   have m':c=z∨c=TO∨c=i1∨c=i2:=by simpa using m
   rcases m' with rfl | rfl | rfl | rfl <;> simp
  have nt:∀ c o,H c=a_ o→c ∉ [z,TO,i1,i2]:=fun c o q m=>by rw [fr c (sub c m)] at q; cases q
  refine I.step (g':=s.gens) (d':=s.drawn) (t':=s.toks) (ch:=[z,TO,i1,i2]) (fun c m=>?_) (fun c o _ _ hcb q _=>k2 c o hcb q) (fun c o _ _ hcb q _=>⟨o.slots,k2 c o hcb q⟩) (fun c o hcb q n=>n) (fun c o hcb q=>⟨o,k2 c o hcb q⟩)
   (fun c zs q=>q) (fun c o zs q=>q) (fun c ps q=>⟨#[],by rw [q]; simp⟩) (fun m hm=>?_) (fun c o2 q=>?_) I.bare
  · obtain ⟨f0,f1,f2,f3,f4,f5⟩:=hf c (sub c m);exact ⟨f3,f1,f4,f5⟩
  · obtain ⟨o,es',ep,ho,r⟩:=hm;exact ⟨o,es',ep,k2 _ o (fun m=>(hf _ (sub _ m)).2.1 rfl) ho,r⟩
  · refine (I.hok c o2 q).stay (fun e v' hcv qq=>k2 e v' ?_ qq) (fun e qq=>qq) fun e zs qq=>qq;rcases hcv with rfl | hcv
    · exact nt _ _ q
    · exact nt _ _ hcv
 self:=fun _ _ _ _ _ st h=>wpAny_pyIter_zip st.z h
def BO:List Dv→List Dv→List Dv
 | x :: xs,y :: ys=>.tup [x,y] :: BO xs ys
 | _,_=>[]
theorem iE:∀ (xs ys:List Dv),xs.length=ys.length→(BO xs ys).length=xs.length
 | [],[],_=>rfl
 | x :: xs,y :: ys,h=>by
  show (BO xs ys).length + 1=xs.length + 1;rw [iE xs ys (by simpa using h)]
 | [],_ :: _,h=>by simp at h
 | _ :: _,[],h=>by simp at h
theorem qO:∀ (xs ys:List Dv) (i:Nat) (x y:Dv),xs[i]?=a_ x→ys[i]?=a_ y→(BO xs ys)[i]?=a_ (.tup [x,y])
 | x :: xs,y :: ys,0,x',y',h,h'=>by simp at h h'; subst h h'; rfl
 | x :: xs,y :: ys,i + 1,x',y',h,h'=>qO xs ys i x' y' (by simpa using h) (by simpa using h')
 | [],_,_,_,_,h,_=>by simp at h
 | _ :: _,[],_,_,_,_,h'=>by simp at h'
theorem Ec {K:e_} {H:Hp} {a b:k_} {vs us:List V} {xs ys:List Dv} (ha:H a=a_ (.tup vs)) (hb:H b=a_ (.tup us)) (r:Reps K H xs vs) (r':Reps K H ys us) (hl:xs.length=ys.length):WkG K (Itz a b) (BO xs ys) H where
 go:=fun i H' e hi=>by
  rw [iE xs ys hl] at hi;have h1:i < vs.length:=by rw [r.length]; exact hi
  have h2:i < us.length:=by rw [r'.length,← hl]; exact hi
  exact ⟨vs,us,vs[i],us[i],e _ _ ha,e _ _ hb,by simp [h1],by simp [h2]⟩
 stop:=fun H' e=>⟨vs,us,e _ _ ha,e _ _ hb,by rw [r.length,iE xs ys hl]; exact uk _⟩
 yld:=fun i H' v H2 e hi y=>by
  obtain ⟨p,x,y,rfl,hp,rfl,y1,y2⟩:=y;obtain ⟨d,h1,h2⟩:=Reps.get (Reps.mono e _ _ r) (y1 vs (e _ _ ha));obtain ⟨d',h1',h2'⟩:=Reps.get (Reps.mono e _ _ r') (y2 us (e _ _ hb));exact ⟨aE hp _,_,qO xs ys i d d' h1 h1',⟨p,_,rfl,aA,⟨x,[y],rfl,Rep.mono (aE hp _) _ _ h2,y,[],rfl,Rep.mono (aE hp _) _ _ h2',rfl⟩⟩⟩
def BP:List Dv→Option (Rs (List Dv))
 | [.tup xs,.tup ys]=>if xs.length=ys.length then a_ (.ok (BO xs ys)) else ck
 | _=>ck
theorem Ax {X:Cx} {es:List F_} {k:Nat} {pt p pos:Pos} {l r:F_} {ga:FnA} (hg:Gl X "zip") (hm:X.mg "zip"=ck) (ha:FA X [l,r] ga) (hs:i_ [l,r] X.env=[(d_,eval l X.env),(d_,eval r X.env)]:=by kernel_rfl) (hs2:i_ [r] X.env=[(d_,eval r X.env)]:=by kernel_rfl):FIG X (.Tuple es k pt) (.Call (.Name "zip" p) [l,r] [] pos) (fun ρ=>bnd (ga ρ) BP):=by
 constructor;intro f' s σ H R I h;obtain ⟨ρ,E,o⟩:=h;have key:OutA X H (ga ρ) fun vs H'=>∃ ds,Reps X.K H' ds vs∧OutG X H' (BP ds) R:=by
  match hf:ga ρ,o with
  | some (.exc c),o=>exact o
  | some (.ok ds),o=>exact fun vs H' e rs=>⟨ds,rs,OutG.mono e o⟩
 refine Call_ (iR I hg hm (show LJ "zip"=a_ (.type "zip") by decide +kernel) (LL (thn (ha.h pos f' s σ H _ I ⟨ρ,E,key⟩) fun us s1 ⟨vs,H1,I1,r1,ds,rs,q1⟩=>?_) (by rw [hs,hs2]) (by rw [hs2]; rfl)));unfold BP at q1;split at q1
 · rename_i xs ys;split at q1
   · rename_i hl;obtain ⟨v,v',rfl,rv,rv'⟩:=wH rs;obtain ⟨a,ws,rfl,h1,h2⟩:=rv.tupE;obtain ⟨b,ws',rfl,h1',h2'⟩:=rv'.tupE;obtain ⟨u,u',rfl,ru,ru'⟩:=Vals.two r1;cases ru;cases ru';obtain ⟨its,rt,pl,hz⟩:=I1.tuple (SqT.of h1);obtain ⟨jts,rt',pl',hz'⟩:=I1.tuple (SqT.of h1');refine uQ (show s1.heap.IsTuple a its.toArray from pl) (show s1.heap.IsTuple b jts.toArray from pl') fun h' g1 g2 g3 g4 g5 g6 kk=>?_;refine wpAny_pyIter_zip g1 ?_;have I2:Inv X f' σ H1 { s1 with heap:=h' }:=I1.kept (t':=s1.toks) kk;have gt:∀ m n:Nat,m≠n→s1.heap.objs.size + m≠s1.heap.objs.size + n:=fun m n hmn e=>hmn (Qx e);have g0:∀ m:Nat,0≠m→s1.heap.objs.size≠s1.heap.objs.size + m:=fun m hm e=>hm (Qx (n:=s1.heap.objs.size) e);refine ⟨s1.heap.objs.size + 4,[s1.heap.objs.size + 4,s1.heap.objs.size + 2,s1.heap.objs.size + 3,s1.heap.objs.size,s1.heap.objs.size + 1],_,Itz a b,H1,rfl,I2,
      xr a b _ _ _ _ _ ⟨gt 2 4 (by decide),gt 3 4 (by decide),g0 4 (by decide),gt 1 4 (by decide),gt 2 3 (by decide),(g0 2 (by decide)).symm,gt 2 1 (by decide),(g0 3 (by decide)).symm,gt 3 1 (by decide),g0 1 (by decide)⟩,⟨g1,g2,⟨_,_,g3⟩,g4,g5⟩,fun c hc=>?_,q1 _ H1 (.refl H1) (Ec h1 h1' h2 h2' hl)⟩
     rcases HP hc with rfl | rfl | rfl | rfl | rfl
     · exact I1.fpOk (L9 _ _) (I1.hok.fresh (L9 _ _))
     · exact I1.fpOk (L9 _ _) (I1.hok.fresh (L9 _ _))
     · exact I1.fpOk (L9 _ _) (I1.hok.fresh (L9 _ _))
     · exact I1.fpOk (uk _) (I1.hok.fresh (uk _))
     · exact I1.fpOk (L9 _ _) (I1.hok.fresh (L9 _ _))
   · exact q1.elim
 · exact q1.elim
def ip (b:Dv→Ev→Option Ev) (js:List Nat) (body:FnS):List Dv→Ev→Option Fl
 | [],ρ=>a_ (.nx (fgt js ρ))
 | d :: ds,ρ=>match b d (fgt js ρ) with
  | none=>ck
  | some ρ1=>match body ρ1 with
   | some (.nx ρ')=>ip b js body ds ρ'
   | o=>o
def pE (b:Dv→Ev→Option Ev) (js:List Nat) (src:FnA) (body:FnS):FnS:=fun ρ=>bO (src ρ) fun ds=>ip b js body ds ρ
def tgG (X:Cx) (b:Dv→Ev→Option Ev):TG:=fun v σ H Q=>∃ d ρ ρ',Rep X.K H d v∧Envs X.K H σ ρ∧b d ρ=a_ ρ'∧∀ σ' H',Same H H'→Envs X.K H' σ' ρ'→Q σ' H'
theorem FG.pg {X:Cx} {tg:F_} {b:Dv→Ev→Option Ev} (h:FG X tg b):PG X tg (tgG X b):=fun f' s σ H v u Q I r ⟨d,ρ,ρ',rd,E,e,q⟩ =>
 thn (h.h f' s σ H v u d ρ ρ' I r rd E e) fun _ s' ⟨σ',H',I',e1,E'⟩=>⟨σ',H',I',q σ' H' e1 E'⟩
theorem Ay {X:Cx} {tg iter:F_} {body:List LY} {pos:Pos} {src:FnA} {fb:FnS} {b:Dv→Ev→Option Ev} (js:List Nat) (hp:OF (z_ X.prog X.w) X.A X.env X.xe) (hc:X.calm=c_) (hi:FIG X tg iter src) (hg:FG X tg b) (hb:FSs X body fb)
 (hs:∀ x,K_ iter X.env x=pure x:=by intro _; kernel_rfl):FS X (.For tg iter body [] pos) (pE b js src fb):=by
 refine pc (td hp hc hi.h hg.pg hb.h hs) fun D σ H ρ E o=>⟨ρ,E,?_⟩;unfold pE at o
 match hf:src ρ,o with
 | none,o=>exact o
 | some (.exc c),o=>exact o
 | some (.ok ds),o =>
  intro J H1 e1 wk;have o1:OutS X H1 (ip b js fb ds ρ) D:=OutS.mono e1 o;refine ⟨fun n m σ' H'=>m=ds.length - n∧n≤ds.length∧Same H1 H'∧∃ ρ',Envs X.K H' σ' ρ'∧OutS X H' (ip b js fb (ds.drop n) ρ') D,⟨ds.length,by simp,Mh _,.refl H1,ρ,E.mono e1,by simpa using o1⟩,?_⟩;rintro n m σ' H' ⟨rfl,hn,e2,ρ',E',o'⟩;by_cases hlt:n < ds.length
  · refine .inr ⟨wk.go n H' e2 hlt,fun σ2 H2=>Same H1 H2∧∃ ρ2,Envs X.K H2 σ2 ρ2∧OutS X H2 (ip b js fb (ds.drop (n + 1)) ρ2) D,fun σ2 H2 ⟨e3,ρ2,E2,o2⟩=>⟨ds.length - (n + 1),by omega,rfl,hlt,e3,ρ2,E2,o2⟩,fun x H2 y=>?_⟩;obtain ⟨e4,d,hd,rd⟩:=wk.yld n H' x H2 e2 hlt y;rw [iT hd] at o';unfold ip at o'
    match hb0:b d (fgt js ρ') with
    | none=>rw [hb0] at o'; exact o'.elim
    | some ρ1 =>
     rw [hb0] at o';refine ⟨d,fgt js ρ',ρ1,rd,(Envs.fgt js E').mono e4,hb0,fun σ3 H3 e5 E3=>?_⟩;show tS X fb _ _ _;refine ⟨ρ1,E3,?_⟩;have o2:=OutS.mono (e4.trans e5) o';dsimp only at o2
     match hb':fb ρ1 with
     | none=>rw [hb'] at o2; exact o2
     | some (.exc c)=>rw [hb'] at o2; exact o2
     | some (.rt r)=>rw [hb'] at o2; exact o2
     | some (.nx ρ2)=>rw [hb'] at o2; exact fun σ4 H4 e6 E4=>⟨((e2.trans e4).trans e5).trans e6,ρ2,E4,OutS.mono e6 o2⟩
  · have hn':n=ds.length:=by omega
    subst hn';rw [Og] at o';exact .inl ⟨wk.stop H' e2,o' σ' H' (.refl H') (Envs.fgt js E')⟩
def BQ:List Dv→Option (Rs Dv)
 | [.str x]=>a_ (.ok (.str x))
 | xs=>BN xs
section
variable {X:Cx} {p pos:Pos} {e:F_} {es:List F_} {ga:FnA}
theorem uR:CallR X (.type "str") (fun xs H Q=>(∃ i,xs=[.int i]∧i.natAbs.log2 < 1920∧Q (.str (QX i)) H)∨∃ x,xs=[.str x]∧Q (.str x) H):=by
 intro f' s σ H xs us Q I r h;rcases h with ⟨i,rfl,hz,q⟩ | ⟨x,rfl,q⟩
 · obtain ⟨u,rfl,t,rfl⟩:=eW r;exact QM hz ⟨.str _,H,I.tok _,⟨_,rfl⟩,q⟩
 · obtain ⟨u,rfl,t,rfl⟩:=eW r;exact PySem.P.str_of_str ⟨.str _,H,I,⟨_,rfl⟩,q⟩
theorem Az (hg:Gl X "str") (hm:X.mg "str"=ck) (ha:FA X (e :: es) ga) (he:i_ (e :: es) X.env=(d_,eval e X.env) :: i_ es X.env:=by kernel_rfl) (hpl:(Lr pos (i_ es X.env)).any (·.1)=d_:=by kernel_rfl):FE X (.Call (.Name "str" p) (e :: es) [] pos) (fB1 BQ ga) :=
 cY (gK uR hg hm (by decide +kernel) ha.h (by decide) (by decide) he hpl) fun σ H Q ρ E o=>⟨ρ,E,OutA.bind o fun ds vs H1 e1 rs o1=>by
  unfold BQ at o1;split at o1
  · rename_i x;obtain ⟨v,rfl,r⟩:=dZ rs;cases (show v=.str x from r);exact .inr ⟨x,rfl,o1 _ H1 (.refl H1) rfl⟩
  · unfold BN at o1;split at o1
    · rename_i i _;split at o1
      · rename_i hz;obtain ⟨v,rfl,r⟩:=dZ rs;cases (show v=.int i from r);exact .inl ⟨i,rfl,hz,o1 _ H1 (.refl H1) rfl⟩
      · exact o1.elim
    · exact o1.elim⟩
end
def qP (fi fe:FnE):gH:=fun ρ ds=>lz (fe ρ) fun d=>lz (fi ρ) fun k=>match k with
 | .int k=>if 0≤k∧k < ds.length then a_ (.nx ρ (ds.set k.toNat d)) else ck
 | _=>ck
theorem Reps.set {K:e_} {H:Hp} {d:Dv} {v:V} (rd:Rep K H d v):∀ {ds:List Dv} {vs:List V} (j:Nat),Reps K H ds vs→Reps K H (ds.set j d) (vs.set j v)
 | [],vs,j,r=>by cases (show vs=[] from r); exact r
 | d0 :: ds,vs,0,r=>by
  obtain ⟨v0,vs',rfl,r0,rt⟩:∃ v us',vs=v :: us'∧Rep K H d0 v∧Reps K H ds us':=r;exact ⟨v,vs',rfl,rd,rt⟩
 | d0 :: ds,vs,j + 1,r=>by
  obtain ⟨v0,vs',rfl,r0,rt⟩:∃ v us',vs=v :: us'∧Rep K H d0 v∧Reps K H ds us':=r;exact ⟨v0,vs'.set j v,rfl,r0,Reps.set rd j rt⟩
section
variable {X:Cx} {i:Nat} {e ix:F_} {fe fi:FnE} {pos ps:Pos}
theorem xt (hex:X.ex=[]) {x:Str} {apos:Pos} (hx:PE X (.Name x apos) (zo i)) (hi:FE X ix fi) (he:FE X e fe)
 (hs:Pb [.Subscript (.Name x apos) ix ps] e pos.line X.env=pure d_:=by kernel_rfl) (hw:Pc [.Subscript (.Name x apos) ix ps] e X.env=pure ck:=by kernel_rfl)
 (h1:(K4 [.Subscript (.Name x apos) ix ps] X.env).map (·.2)=[MN (.Subscript (.Name x apos) ix ps) X.env]:=by kernel_rfl)
 (ha:∀ v,MN (.Subscript (.Name x apos) ix ps) X.env v=(do let ov ← Nn [v] (eval (.Name x apos) X.env); let iv ← Nn [v,ov] (eval ix X.env); RU ps; Nn [v,ov,iv] (setItem ov iv v); release [v,ov,iv] []):=by intro _; kernel_rfl) :
 FO1 X i (.Assign [.Subscript (.Name x apos) ix ps] e pos) (qP fi fe):=⟨fun f' s σ Hf D I ⟨H,a,xs,ρ,ds,e1,ha',hia,E,r,o⟩=>by
 refine sV (pB hex he.h) (yr hx (pB hex hi.h) qr ha) hs hw h1 f' s σ Hf D I ⟨H,a,xs,e1,ha',ρ,E,?_⟩;unfold qP at o
 match hfe:fe ρ with
 | none=>rw [hfe] at o; exact o.elim
 | some (.exc _)=>rw [hfe] at o; exact o.elim
 | some (.ok d) =>
  rw [hfe] at o
  match hfi:fi ρ with
  | none=>dsimp only [lz] at o; rw [hfi] at o; exact o.elim
  | some (.exc _)=>dsimp only [lz] at o; rw [hfi] at o; exact o.elim
  | some (.ok k) =>
   dsimp only [lz] at o;rw [hfi] at o;dsimp only at o;intro v H' e' rd ha2;refine ⟨.ref a,hia,H',a,xs,rfl,ha2,ρ,E.mono e',?_⟩;show Out X H' (fi ρ) _;rw [hfi];intro w H2 e2 rk ha3;cases k <;> try exact (show False from o).elim
   rename_i k;dsimp only at o;split at o
   · rename_i hk;cases (show w=.int k from rk);have hl:=r.length;have hj:ixN xs.length k=a_ k.toNat:=by
      unfold ixN;rw [if_pos hk.1,if_pos (by omega)]
     refine ⟨a,xs,k,k.toNat,rfl,rfl,aA,hj,?_⟩;rw [oZ];exact o σ H2 (xs.set k.toNat v) (e'.trans e2) ha3 hia (E.mono (e'.trans e2)) (Reps.set (Rep.mono e2 _ _ rd) k.toNat (Reps.mono (e'.trans e2) _ _ r))
   · exact o.elim⟩
end
def Gx:List Dv→Option (Rs Dv)
 | [.str x]=>if x.length≤640 then (match RY x with | some n=>a_ (.ok (.int n)) | none=>ck) else ck
 | _=>ck
section
variable {X:Cx} {p pos:Pos} {e:F_} {es:List F_} {ga:FnA}
theorem uS:CallR X (.type "int") (fun xs H Q=>∃ x i,xs=[.str x]∧x.length≤640∧RY x=a_ i∧Q (.int i) H):=by
 intro f' s σ H xs us Q I r h;obtain ⟨x,i,rfl,hl,hx,q⟩:=h;obtain ⟨u,rfl,t,rfl⟩:=eW r;exact PySem.W.KIN.call_text hx hl ⟨.int _,H,I.tok _,⟨_,rfl⟩,q⟩
theorem xu (hg:Gl X "int") (hm:X.mg "int"=ck) (ha:FA X (e :: es) ga) (he:i_ (e :: es) X.env=(d_,eval e X.env) :: i_ es X.env:=by kernel_rfl) (hpl:(Lr pos (i_ es X.env)).any (·.1)=d_:=by kernel_rfl):FE X (.Call (.Name "int" p) (e :: es) [] pos) (fB1 Gx ga) :=
 cY (gK uS hg hm (by decide +kernel) ha.h (by decide) (by decide) he hpl) fun σ H Q ρ E o=>⟨ρ,E,OutA.bind o fun ds vs H1 e1 rs o1=>by
  unfold Gx at o1;split at o1
  · rename_i x;split at o1
    · rename_i hl;split at o1
      · rename_i n hn;obtain ⟨v,rfl,r⟩:=dZ rs;cases (show v=.str x from r);exact ⟨x,n,rfl,hl,hn,o1 _ H1 (.refl H1) rfl⟩
      · exact o1.elim
    · exact o1.elim
  · exact o1.elim⟩
end
section
variable {X:Cx}
end
section
variable {X:Cx}
end
end FD
namespace ST
open PySem PySem.SetTable
abbrev Rise (xs:Array Nat):Prop:=xs.toList.Pairwise (· < ·)
theorem Rise.lt {xs:Array Nat} (R:Rise xs) {i k:Nat} (hi:i < xs.size) (hk:k < xs.size) (h:i < k):xs[i] < xs[k]:=by
 have:=OY.mp R i k (by simpa using hi) (by simpa using hk) h;simpa using this
theorem Rise.le {xs:Array Nat} (R:Rise xs) {i k:Nat} (hi:i < xs.size) (hk:k < xs.size) (h:i≤k):xs[i]≤xs[k]:=by
 rcases Nat.lt_or_ge i k with h' | h'
 · exact N2 (R.lt hi hk h')
 · have:i=k:=by omega
   subst this;exact uk _
theorem mh {xs:Array Nat} (R:Rise xs) (j:Nat):∀ (fuel lo hi:Nat),lo≤hi→hi≤xs.size→hi - lo≤fuel→(∀ i (h:i < xs.size),i < lo→xs[i] < j)→(∀ i (h:i < xs.size),hi≤i→j≤xs[i]) →
 (∀ i (h:i < xs.size),i < Pi xs j fuel lo hi→xs[i] < j)∧(∀ i (h:i < xs.size),Pi xs j fuel lo hi≤i→j≤xs[i])
 | 0,lo,hi,h1,h2,h3,a,b=>by
  unfold Pi;have:lo=hi:=by omega
  subst this;exact ⟨a,b⟩
 | fuel + 1,lo,hi,h1,h2,h3,a,b=>by
  unfold Pi;split
  · rename_i hlt;have hm:(lo + hi) / 2 < xs.size:=by omega
    dsimp only;have hg:xs.getD ((lo + hi) / 2) j=xs[(lo + hi) / 2]:=by simp [Array.getD,hm]
    rw [hg];split
    · rename_i hc;exact mh R j fuel _ hi (by omega) h2 (by omega) (fun i h hi'=>QR (R.le h hm (by omega)) hc) b
    · rename_i hc;exact mh R j fuel lo _ (by omega) (by omega) (by omega) a fun i h hi'=>K0 (RB hc) (R.le hm h hi')
  · have:lo=hi:=by omega
    subst this;exact ⟨a,b⟩
theorem lE {xs:Array Nat} (R:Rise xs) (j:Nat):(∀ i (h:i < xs.size),i < below xs j→xs[i] < j)∧(∀ i (h:i < xs.size),below xs j≤i→j≤xs[i]) :=
 mh R j xs.size 0 xs.size (Mh _) (uk _) (by omega) (fun i h hi=>absurd hi (Mu _)) fun i h hi=>absurd h (by omega)
theorem xx {xs:Array Nat} (R:Rise xs) {i j:Nat} (h:xs[i]?=a_ j):below xs j=i:=by
 obtain ⟨hi,e⟩:=LP.mp h;obtain ⟨a,b⟩:=lE R j;rcases Rf (below xs j) i with q | q | q
 · have h1:=b (below xs j) (by omega) (uk _);have h2:=R.lt (by omega) hi q;omega
 · exact q
 · have h1:=a i hi q;omega
theorem nN {t:SetTable} (R:Rise t.place) {i j:Nat} (h:t.place[i]?=a_ j):t.slot j=.live i:=by
 unfold Sf;dsimp only;rw [xx R h,h];simp
theorem pF {t:SetTable} {n:Nat} (T:Tb t n) (R:Rise t.place) {j:Nat}:t.slot j≠.empty↔j∈t.place.toList:=by
 constructor
 · intro h;rcases ii T j with q | ⟨i,_,e⟩
   · exact absurd q h
   · exact Lz.mpr (N_ e)
 · intro h;obtain ⟨i,hi,e⟩:=Nz h;have:t.place[i]?=a_ j:=by
    rw [← Ml,Lb hi,e]
   rw [nN R this];intro z;cases z
def tm (m:Nat):SetTable:={ mask:=m,place:=#[],dummies:=#[],finger:=0,led:=c_,moves:=0,plain:=c_ }
theorem nO (t:SetTable):∀ (n:Nat) (p:Probe),advN t n p=advN (tm t.mask) n p
 | 0,p=>rfl
 | n + 1,p=>nO t n _
def pos (m:Nat) (h:Int) (n:Nat):Nat:=(advN (tm m) n ((tm m).probeStart h)).j
theorem qQ (t:SetTable) (h:Int) (n:Nat):(advN t n (t.probeStart h)).j=pos t.mask h n:=by
 rw [nO]; rfl
def Pth (m:Nat) (l:List Nat) (h:Int) (j:Nat):Prop:=∃ N,N < 10 * Om m∧pos m h N=j∧∀ x,x < N→pos m h x∈l
theorem Pth.mono {m:Nat} {l l':List Nat} {h:Int} {j:Nat} (p:Pth m l h j) (hs:∀ x∈l,x∈l'):Pth m l' h j:=by
 obtain ⟨N,h1,h2,h3⟩:=p;exact ⟨N,h1,h2,fun x hx=>hs _ (h3 x hx)⟩
def asc (t:SetTable) (es:Array (Int×g_)):List (Nat×(Int×g_)):=t.place.toList.zip es.toList
def Pa (t:SetTable) (es:Array (Int×g_)):Prop:=∀ je∈asc t es,Pth t.mask t.place.toList je.2.1 je.1
theorem qR {α:Type} (xs:Array α) (p:Nat) (x:α) (h:p≤xs.size):(D_ xs p x).toList=xs.toList.take p ++ x :: xs.toList.drop p:=by
 rw [SetTable.toList_insertAt]
theorem AA {α β:Type} (a:List α) (b:List β) (p:Nat) (x:α) (y:β) (hl:a.length=b.length):(a.take p ++ x :: a.drop p).zip (b.take p ++ y :: b.drop p)=(a.zip b).take p ++ (x,y) :: (a.zip b).drop p:=by
 rw [List.zip_append (by simp [hl]),QS];simp only [List.zip_eq_zipWith,List.take_zipWith,List.drop_zipWith]
theorem uT {α:Type} (l:List α) (p:Nat) (x y:α):y∈l.take p ++ x :: l.drop p↔y=x∨y∈l:=by
 rw [K8,rl];constructor
 · rintro (h | h | h)
   · exact .inr (List.mem_of_mem_take h)
   · exact .inl h
   · exact .inr (Qi h)
 · rintro (h | h)
   · exact .inr (.inl h)
   · rw [← N9 p l,K8] at h;rcases h with h | h
     · exact .inl h
     · exact .inr (.inr h)
theorem xz {t:SetTable} {n:Nat} (T:Tb t n) (R:Rise t.place) {es:Array (Int×g_)} (hs:es.size=n) {j:Nat} (hj:t.slot j=.empty) (e:Int×g_) :
 Rise (t.put j).1.place∧(∀ x,x∈(t.put j).1.place.toList↔x=j∨x∈t.place.toList)∧∀ x,x∈asc (t.put j).1 (D_ es (t.put j).2 e)↔x=(j,e)∨x∈asc t es:=by
 have hn:j ∉ t.place.toList:=fun h=>(pF T R).mpr h hj;have hp:(t.put j).2=below t.place j:=rfl;have hle:=mf t.place j;have e1:(t.put j).1.place.toList=t.place.toList.take (below t.place j) ++ j :: t.place.toList.drop (below t.place j):=qR _ _ _ hle;have e2:(D_ es (t.put j).2 e).toList=es.toList.take (below t.place j) ++ e :: es.toList.drop (below t.place j):=qR _ _ _ (by rw [hp,hs,← T.size]; exact hle);obtain ⟨a,b⟩:=lE R j;refine ⟨?_,fun x=>by rw [e1]; exact uT _ _ _ _,fun x=>?_⟩
 · show (t.put j).1.place.toList.Pairwise (· < ·);rw [e1,Qh,List.pairwise_cons];have lo:∀ x∈t.place.toList.take (below t.place j),x < j:=by
    intro x hx;obtain ⟨i,hi,e⟩:=Nz hx;rw [List.getElem_take] at e;have h1:i < below t.place j∧i < t.place.size:=by simp only [Of,Lf] at hi; omega
    have:=a i h1.2 h1.1;rw [← e];simpa using this
   have hi':∀ x∈t.place.toList.drop (below t.place j),j < x:=by
    intro x hx;have hm:=Qi hx;obtain ⟨i,hi,e⟩:=Nz hx;rw [List.getElem_drop] at e;have h1:below t.place j + i < t.place.size:=by simp only [Nr,Lf] at hi; omega
    have:=b _ h1 (L9 _ _);have h2:j≤x:=by rw [← e]; simpa using this
    have:j≠x:=fun z=>hn (z ▸ hm);omega
   exact ⟨R.sublist (Rh _ _),⟨hi',R.sublist (List.drop_sublist _ _)⟩,fun x hx y hy=>by
    rcases rl.mp hy with rfl | hy
    · exact lo x hx
    · exact PF (lo x hx) (hi' y hy)⟩
 · unfold asc;rw [e1,e2,AA _ _ _ _ _ (by simp [T.size,hs])];exact uT _ _ _ _
theorem qS (t:SetTable):∀ (k:Nat) (p:Probe),k≤p.more→(advN t k p).j=p.j + k
 | 0,p,_=>rfl
 | k + 1,p,h=>by
  show (advN t k (t.advance p)).j=_;rw [l8 t p (by omega),qS t k _ (by show k≤p.more - 1; omega)];show p.j + 1 + k=p.j + (k + 1);omega
theorem rR {P:Nat→Bool}:∀ {n k:Nat},(s_ n).find? P=a_ k→k < n∧P k=c_∧∀ x,x < k→P x=d_:=by
 intro n k h;have h1:=RP h;have h2:=K6.mp (List.mem_of_find?_eq_some h);refine ⟨h2,h1,fun x hx=>?_⟩;rw [List.find?_eq_some_iff_append] at h;obtain ⟨_,as,bs,e,hn⟩:=h;have hk:as.length=k:=by
  have:=congrArg (fun l=>l[as.length]?) e;simp only [LO (uk _),Nat.sub_self,Pq] at this;rw [K2] at this;obtain ⟨q,r⟩:=this;simpa using r
 have hxm:x∈as:=by
  have this:(s_ n)[x]?=(as ++ k :: bs)[x]?:=by rw [e]
  rw [LS (by omega),Qy (by omega)] at this;exact LN this.symm
 have:=hn x hxm;simpa using this
theorem nP {m:Nat} {owner:Array (Option Nat)}:∀ (fuel:Nat) (p:Probe) (j:Nat),p.j=p.i→p.more=Ob m p.i - p.i→Ma m owner fuel p.i p.perturb=a_ j →
 (owner.getD j (a_ 0)).isNone=c_∧∃ N,N < 10 * fuel∧(advN (tm m) N p).j=j∧∀ x,x < N→(owner.getD (advN (tm m) x p).j (a_ 0)).isNone=d_
 | 0,p,j,_,_,h=>by unfold Ma at h; cases h
 | fuel + 1,p,j,hj,hm,h=>by
  have hr:=kt m p.i;unfold Ma at h;have hlen:Ob m p.i + 1 - p.i=p.more + 1:=by
   rw [hm];have:p.i≤Ob m p.i:=by unfold Ob; split <;> omega
   omega
  rw [hlen] at h;split at h
  · rename_i k hk;cases h;obtain ⟨q1,q2,q3⟩:=rR hk;refine ⟨q2,k,by omega,by rw [qS _ _ _ (by omega),hj],fun x hx=>?_⟩;rw [qS _ _ _ (by omega),hj];exact q3 x hx
  · rename_i hk;have hall:∀ x,x≤p.more→(owner.getD (p.i + x) (a_ 0)).isNone=d_:=by
     intro x hx;have:=QT.mp hk x (K6.mpr (by omega));rw [Bool.not_eq_true] at this;exact this
    obtain ⟨r1,N,r2,r3,r4⟩:=nP fuel (lA (tm m) p) j rfl rfl h;refine ⟨r1,p.more + 1 + N,by omega,by rw [eu,ku _ _ _ rfl]; exact r3,fun x hx=>?_⟩;by_cases hc:x≤p.more
    · rw [qS _ _ _ hc,hj];exact hall x hc
    · obtain ⟨y,rfl⟩:∃ y,x=p.more + 1 + y:=⟨x - (p.more + 1),by omega⟩;rw [eu,ku _ _ _ rfl];exact r4 y (by omega)
def AB (m:Nat) (owner:Array (Option Nat)) (hs:Nat→Option Int):Prop:=∀ j x,owner[j]?=a_ (a_ x)→∃ h,hs x=a_ h∧∃ N,N < 10 * Om m∧pos m h N=j∧∀ y,y < N→(owner.getD (pos m h y) (a_ 0)).isNone=d_∧pos m h y≤m
theorem Ed (m:Nat) (h:Int):∀ n,pos m h n≤m:=by
 have key:∀ (n:Nat) (p:Probe),p.i≤m→p.j + p.more≤m→(advN (tm m) n p).j≤m:=by
  intro n
  induction n with
  | zero=>intro p _ h2; show p.j≤m; omega
  | succ n ih =>
   intro p h1 h2;show (advN (tm m) n ((tm m).advance p)).j≤m;by_cases hc:0 < p.more
   · rw [l8 _ p hc];exact ih _ h1 (by show p.j + 1 + (p.more - 1)≤m; omega)
   · rw [l7 _ p (by omega)];have hl:(Ng m p.i p.perturb).1≤m:=by
      show (p.i * 5 + 1 + p.perturb / 32) % (m + 1)≤m;exact Mf (NI _ (M9 m))
     refine ih _ hl ?_;show (Ng m p.i p.perturb).1 + (Ob m (Ng m p.i p.perturb).1 - (Ng m p.i p.perturb).1)≤m;unfold Ob;split <;> omega
 intro n;have hb:bits h % (m + 1)≤m:=Mf (NI _ (M9 m));refine key n _ hb ?_;show bits h % (m + 1) + (Ob m (bits h % (m + 1)) - bits h % (m + 1))≤m;unfold Ob;split <;> omega
theorem nQ {m:Nat} {hf:Nat→Option Int}:∀ (hs:List Int) (owner o2:Array (Option Nat)) (k k2:Nat),owner.size=m + 1→(∀ i (h:i < hs.length),hf (k + i)=a_ hs[i])→AB m owner hf→hs.foldl (nJ m) (a_ (owner,k))=a_ (o2,k2)→AB m o2 hf
 | [],owner,o2,k,k2,_,_,hP,e=>by cases e; exact hP
 | h :: hs,owner,o2,k,k2,hz,hh,hP,e=>by
  rw [Nc] at e;have hnone:∀ (l:List Int),l.foldl (nJ m) ck=ck:=fun l=>by
   induction l with
   | nil=>rfl
   | cons a l ih=>exact ih
  have hst:nJ m (a_ (owner,k)) h=(Ma m owner (Om m) (bits h % (m + 1)) (bits h)).bind (fun j=>a_ (owner.setIfInBounds j (a_ k),k + 1)):=rfl;cases hfr:Ma m owner (Om m) (bits h % (m + 1)) (bits h) with
  | none=>rw [hst,hfr] at e; rw [show (ck:Option Nat).bind (fun j=>a_ (owner.setIfInBounds j (a_ k),k + 1))=ck from rfl,hnone] at e; cases e
  | some j =>
   rw [hst,hfr] at e;obtain ⟨f1,N,f2,f3,f4⟩:=nP (m:=m) (owner:=owner) (Om m) ((tm m).probeStart h) j rfl rfl hfr;obtain ⟨g1,g2⟩:=getD_none f1;refine nQ hs (owner.setIfInBounds j (a_ k)) o2 (k + 1) k2 (by rw [Pe]; exact hz) (fun i hi=>by
    have:=hh (i + 1) (by simpa using hi);rw [show k + 1 + i=k + (i + 1) by omega];simpa using this) ?_ e
   have keep:∀ x,(owner.getD x (a_ 0)).isNone=d_→((owner.setIfInBounds j (a_ k)).getD x (a_ 0)).isNone=d_:=by
    intro x hx;rw [LA] at hx ⊢;rw [Ox];split
    · first
       | rfl
       | (split <;> rfl)
    · exact hx
   intro j' x hx;rw [Ox] at hx;split at hx
   · rename_i hjj;subst hjj;have hx:(a_ (a_ k):Option (Option Nat))=a_ (a_ x):=by
      first
       | exact hx
       | (rw [if_pos g1] at hx; exact hx)
     cases hx;have h0:=hh 0 (by simp);refine ⟨h,by simpa using h0,N,f2,f3,fun y hy=>⟨keep _ (f4 y hy),Ed m h y⟩⟩
   · obtain ⟨h',a1,N',a2,a3,a4⟩:=hP j' x hx;exact ⟨h',a1,N',a2,a3,fun y hy=>⟨keep _ (a4 y hy).1,(a4 y hy).2⟩⟩
theorem mi {m:Nat} (hs:Array Int) {o2:Array (Option Nat)} (e:R9 m hs=a_ o2):AB m o2 fun i=>hs[i]?:=by
 unfold R9 at e;rw [← QW] at e;have e1:(PK (fun acc h=>do
  let (owner,k) ← acc
  let j ← Ma m owner (Om m) (bits h % (m + 1)) (bits h)
  pure (owner.setIfInBounds j (a_ k),k + 1)) (a_ (MK (m + 1) ck,0)) hs.toList:Option (Array (Option Nat)×Nat))=hs.toList.foldl (nJ m) (a_ (MK (m + 1) ck,0)):=rfl
 rw [e1] at e;cases hf:hs.toList.foldl (nJ m) (a_ (MK (m + 1) ck,0)) with
 | none=>rw [hf] at e; cases e
 | some q =>
  rw [hf] at e;cases e;exact nQ hs.toList (MK (m + 1) ck) q.1 0 q.2 (by simp) (fun i hi=>by
   have hi':i < hs.size:=by simpa using hi
   simp [hi']) (fun j x hx=>by
    rw [Array.getElem?_replicate] at hx;split at hx <;> cases hx) hf
theorem uU {m finger moves:Nat} {led plain:Bool} (c:rP m=c_) (es:Array (Int×g_)) (hl:es.size≤m) {t:SetTable} {order:Array Nat} (e:laid m finger moves led plain (es.map (·.1))=a_ (t,order)) :
 Rise t.place∧(∀ je∈asc t (order.filterMap (fun i=>es[i]?)),je.2∈es.toList)∧Pa t (order.filterMap (fun i=>es[i]?)):=by
 obtain ⟨o2,c1,c2,c3⟩:=kv c (es.map (·.1)) (by simpa using hl);have hp:=mi (es.map (·.1)) c1;unfold laid at e;rw [c1] at e;cases e;have hlive:∀ jk∈(s_ (m + 1)).filterMap fun j=>(o2.getD j ck).map (j,·),o2[jk.1]?=a_ (a_ jk.2):=by
  intro jk hjk;obtain ⟨j,hj,q⟩:=Mm.mp hjk;rw [Lw] at q;obtain ⟨x,hx,rfl⟩:=q;have hj':=K6.mp hj;rw [LA] at hx;cases hg:o2[j]? with
  | none=>rw [hg] at hx; cases hx
  | some y=>rw [hg] at hx; have:y=a_ x:=hx; rw [← this]
 have hsome:∀ jk∈(s_ (m + 1)).filterMap fun j=>(o2.getD j ck).map (j,·),∃ e,es[jk.2]?=a_ e:=by
  intro jk hjk;obtain ⟨h,h1,_⟩:=hp _ _ (hlive jk hjk);dsimp only at h1;rw [QU,Lw] at h1;obtain ⟨e,he,_⟩:=h1;exact ⟨e,he⟩
 have hin:∀ y,(o2.getD y (a_ 0)).isNone=d_→y≤m→y∈((s_ (m + 1)).filterMap fun j=>(o2.getD j ck).map (j,·)).map (·.1):=by
  intro y hy hle;have hlt:y < o2.size:=by omega
  rw [LA,LU hlt] at hy;cases hv:o2[y] with
  | none=>rw [hv] at hy; simp at hy
  | some x =>
   refine Lp.mpr ⟨(y,x),Mm.mpr ⟨y,K6.mpr (by omega),?_⟩,rfl⟩;rw [LA,LU hlt,hv];rfl
 generalize hL:((s_ (m + 1)).filterMap fun j=>(o2.getD j ck).map (j,·))=L at *;have hasc:∀ (l:List (Nat×Nat)),(∀ jk∈l,∃ e,es[jk.2]?=a_ e)→(l.map (·.1)).zip ((l.map (·.2)).filterMap fun i=>es[i]?)=l.filterMap fun jk=>(es[jk.2]?).map (jk.1,·):=by
  intro l
  induction l with
  | nil=>intro _; rfl
  | cons a l ih =>
   intro h;obtain ⟨e,he⟩:=h a o_;simp only [Lg,MS,he,QS,NG];rw [ih fun b hb=>h b (pi _ hb)]
 have easc:asc { mask:=m,place:=(L.map (·.1)).toArray,dummies:=#[],finger:=finger,led:=led,moves:=moves,plain:=plain } (((L.map (·.2)).toArray).filterMap (fun i=>es[i]?))=L.filterMap fun jk=>(es[jk.2]?).map (jk.1,·):=by
  unfold asc;rw [PM];exact hasc L hsome
 refine ⟨?_,fun je hje=>?_,fun je hje=>?_⟩
 · show (L.map (·.1)).toArray.toList.Pairwise (· < ·);rw [Ny,← hL,List.pairwise_map];refine List.Pairwise.filterMap _ (R:=(· < ·)) ?_ List.pairwise_lt_range;intro a a' hlt b hb b' hb';obtain ⟨x,_,rfl⟩:=Lw.mp hb;obtain ⟨x',_,rfl⟩:=Lw.mp hb';exact hlt
 · rw [easc] at hje;obtain ⟨jk,_,q⟩:=Mm.mp hje;obtain ⟨e,he,rfl⟩:=Lw.mp q;exact Lz.mpr (N_ he)
 · rw [easc] at hje;obtain ⟨jk,hjk,q⟩:=Mm.mp hje;obtain ⟨e,he,rfl⟩:=Lw.mp q;obtain ⟨h,h1,N,h2,h3,h4⟩:=hp _ _ (hlive jk hjk);dsimp only at h1;rw [QU,he] at h1;cases h1;refine ⟨N,h2,h3,fun x hx=>?_⟩;show pos m e.1 x∈(L.map (·.1)).toArray.toList;rw [Ny];exact hin _ (h4 x hx).1 (h4 x hx).2
theorem qT (m:Nat):∀ (a b i:Nat),it m (a + b) i=it m b (it m a i)
 | 0,b,i=>by rw [OD]; rfl
 | a + 1,b,i=>by rw [Rc]; exact qT m a b (stp m i)
def orb (m:Nat):Nat→Nat→List Nat
 | 0,_=>[]
 | n + 1,i=>i :: orb m n (stp m i)
theorem yW (m:Nat):∀ (n i j:Nat),j∈orb m n i→∃ k,k < n∧it m k i=j
 | 0,_,_,h=>by simp [orb] at h
 | n + 1,i,j,h=>by
  rcases rl.mp h with rfl | h
  · exact ⟨0,by omega,rfl⟩
  · obtain ⟨k,h1,h2⟩:=yW m n _ j h;exact ⟨k + 1,by omega,h2⟩
theorem AC:((s_ 128).all fun j=>(orb 127 128 0).contains j)=c_:=by decide +kernel
theorem xA:it 127 128 0=0:=by decide +kernel
theorem Ee:rP 127=c_:=by
 have hit:∀ j,j < 128→∃ k,k < 128∧it 127 k 0=j:=fun j hj=>by
  have:=Lk.mp AC j (K6.mpr hj);exact yW 127 128 0 j (by simpa using this)
 unfold rP;refine Lk.mpr fun i hi=>Lk.mpr fun j hj=>Mz.mpr ?_;obtain ⟨a,ha,ea⟩:=hit i (K6.mp hi);obtain ⟨b,hb,eb⟩:=hit j (K6.mp hj);by_cases hc:a≤b
 · refine ⟨b - a,K6.mpr (by omega),?_⟩;rw [← ea,← qT,show a + (b - a)=b by omega,eb];simp
 · refine ⟨128 - a + b,K6.mpr (by omega),?_⟩;rw [← ea,← qT,show a + (128 - a + b)=128 + b by omega,qT,xA,eb];simp
theorem yX {t:SetTable} {n:Nat} (T:Tb t n) (hashAt:Nat→Int) (h:Int):∀ (N fuel:Nat) (p:Probe) (i0:Nat),Vp t p→N < fuel→t.slot (advN t N p).j=.live i0→(∀ k,k < N→t.slot (advN t k p).j≠.empty) →
 (∃ m i,m≤N∧t.slot (advN t m p).j=.live i∧t.place[i]?=a_ (advN t m p).j∧hashAt i=h∧Nl t hashAt h fuel p=a_ (.candidate (advN t m p).j i (advN t (m + 1) p)))∨hashAt i0≠h
 | N,0,p,i0,v,hf,_,_=>absurd hf (Mu _)
 | N,fuel + 1,p,i0,v,hf,he,hn=>by
  have hne:t.slot p.j≠.empty:=by
   cases N with
   | zero=>rw [show t.slot p.j=.live i0 from he]; intro z; cases z
   | succ N=>exact hn 0 (by omega)
  rcases ii T p.j with h0 | ⟨i,h1,h2⟩
  · exact absurd h0 hne
  · by_cases hh:hashAt i=h
    · refine .inl ⟨0,i,by omega,h1,h2,hh,?_⟩;unfold Nl;rw [h1];dsimp only;rw [if_pos (by simpa using hh)];rfl
    · have hg:Nl t hashAt h (fuel + 1) p=Nl t hashAt h fuel (t.advance p):=by
       conv=>lhs; unfold Nl
       rw [h1];dsimp only;rw [if_neg (by simpa using hh)]
      cases N with
      | zero =>
       have:i=i0:=by
        have e:t.slot p.j=.live i0:=he;rw [h1] at e;cases e; rfl
       subst this;exact .inr hh
      | succ N =>
       rcases yX T hashAt h N fuel (t.advance p) i0 v.adv (by omega) he (fun k hk=>hn (k + 1) (by omega)) with ⟨m,i',q1,q2,q3,q4,q5⟩ | q
       · exact .inl ⟨m + 1,i',by omega,q2,q3,q4,by rw [hg,q5]; rfl⟩
       · exact .inr q
section
variable {prog:r_} {w:E_} {A:G_} {E:g_→h_→Prop} {s:h_}
theorem pG {S b:k_} {o:Obj} {es:Array (Int×g_)} {ep:Nat} {t:SetTable} {ks:List (List Str)} {k:List Str} {h:Int} {adding:Bool} {Q:SetFound→h_→Prop} (hu:A.units < cLine)
 (ho:s.heap.get? S=a_ o) (hd:o.data=.set es ep t) (T:Tb t es.size) (hm:t.mask % 2=1) (hE:Ent prog w s.heap ks es.toList) (hx:TK prog w s.heap k b) (hk:k ∉ ks) :
 ∀ (N fuel:Nat) (st:Option Probe),(∀ p,st=a_ p→Vp t p)→N < fuel→t.slot (advN t N (st.getD (t.probeStart h))).j=.empty→(∀ m,m < N→t.slot (advN t m (st.getD (t.probeStart h))).j≠.empty)→N < 10 * Om t.mask →
  Q (.free (advN t N (st.getD (t.probeStart h))).j d_) s→w_ (z_ prog w) A (MM S (.ref b) h adding fuel st) Q E s:=by
 intro N
 induction N using Nat.strongRecOn with
 | _ N ih =>
  intro fuel st hv hf he hn hN hQ;cases fuel with
  | zero=>exact absurd hf (Mu _)
  | succ fuel =>
   have hfit:=jx T;have v:Vp t (st.getD (t.probeStart h)):=by
    cases st with
    | none=>exact pC h
    | some p=>exact hv p rfl
   unfold MM;refine f_ (LW ho hd hfit ?_);dsimp only;have hgw:t.gaveWay=d_:=by unfold Ru; rw [hm]; rfl
   rw [hgw];simp only [KZ,if_false];unfold R8;rcases yT T _ h N _ (st.getD (t.probeStart h)) v hN he hn with q | ⟨m,i,hmN,q1,q2,q3,q5⟩
   · rw [q];dsimp only;exact m_ hQ
   · rw [q5];dsimp only;have hi:i < es.size:=by
      have:=(LP.mp q2).1;rw [T.size] at this;exact this
     obtain ⟨k',a,hk',ea,ta⟩:=hE es[i] (Lz.mpr (Rm hi));have hg:es[i]?=a_ (es[i].1,.ref a):=by rw [LU hi,← ea]
     have rest:w_ (z_ prog w) A (do
      let a_ (_,y):=es[i]? | O0 "internal:set-entry"
      let equal ← Nn [y] (eqBool y (.ref b))
      let (es',_,t') ← setState S
      if (adding && equal)=c_ then return R_ ck
      let a_ same:=t'.sameMemory t.moves t.mask | O0 "set.changed-during-lookup:is-the-new-block-at-the-old-address"
      let still ← match (if same then t'.slot (advN t m (st.getD (t.probeStart h))).j else .empty) with
       | .live i'=>match es'[i']? with
        | some (_,y')=>do pure (if ← RX y' y then a_ i' else ck)
        | none=>pure ck
       | _=>pure ck
      match still with
      | none=>rule "set.search.anew"; MM S (.ref b) h adding fuel ck
      | some i'=>if equal then return .there (a_ i') else MM S (.ref b) h adding fuel (a_ (advN t (m + 1) (st.getD (t.probeStart h))))) Q E s:=by
      rw [hg];dsimp only;refine f_ (LH (wpAny_eqBool_tuple hu ta hx ?_));have hne:q_ (k'=k)=d_:=decide_eq_false fun z=>hk (z ▸ hk');rw [hne];refine f_ (LW ho hd hfit ?_);dsimp only;rw [OW];simp only [KZ,if_false];have hsm:t.sameMemory t.moves t.mask=a_ c_:=by unfold Qv; simp
      rw [hsm];dsimp only;rw [if_pos rfl,q1];dsimp only;rw [hg];dsimp only;have hsame:RX (x_ a) (x_ a)=pure c_:=by
       unfold RX;dsimp only;rw [if_pos (by simp)]
      rw [hsame];refine f_ (f_ (m_ (m_ ?_)));rw [if_pos rfl];refine ih (N - (m + 1)) (by omega) fuel (a_ (advN t (m + 1) (st.getD (t.probeStart h)))) (fun p hp=>by cases hp; exact Vp.advN (m + 1) v) (by omega) ?_ ?_ (by omega) (by
       show Q (.free (advN t (N - (m + 1)) (advN t (m + 1) (st.getD (t.probeStart h)))).j d_) s;rw [← eu,show m + 1 + (N - (m + 1))=N by omega];exact hQ)
      · show t.slot (advN t (N - (m + 1)) (advN t (m + 1) (st.getD (t.probeStart h)))).j=.empty;rw [← eu,show m + 1 + (N - (m + 1))=N by omega];exact he
      · intro x hx';show t.slot (advN t x (advN t (m + 1) (st.getD (t.probeStart h)))).j≠.empty;rw [← eu];exact hn _ (by omega)
     by_cases hled:t.led=c_
     · rw [hled];simp only [NE,KZ,if_false];exact rest
     · have hled':t.led=d_:=by simpa using hled
       rw [hled'];simp only [N5,if_true];refine f_ (yV hx (fun v hv=>?_) ?_)
       · obtain ⟨e,he',rfl⟩:=Lp.mp hv;have hem:e∈es.toList:=by
          have:=Lz.mp he';rw [RE] at this;exact Lz.mpr this.1
         obtain ⟨k2,a2,_,e2,t2⟩:=hE e hem;exact ⟨k2,a2,e2,t2⟩
       · simp only [KZ,if_false];exact rest
theorem rS {S b a0:k_} {i0:Nat} {o:Obj} {es:Array (Int×g_)} {ep:Nat} {t:SetTable} {ks:List (List Str)} {k:List Str} {Q:SetFound→h_→Prop} (hu:A.units < cLine)
 (ho:s.heap.get? S=a_ o) (hd:o.data=.set es ep t) (T:Tb t es.size) (hm:t.mask % 2=1) (hE:Ent prog w s.heap ks es.toList) (hx:TK prog w s.heap k b) (hi0:es[i0]?=a_ (hsh prog w k,.ref a0)) (h0:TK prog w s.heap k a0) :
 ∀ (N fuel:Nat) (st:Option Probe),(∀ p,st=a_ p→Vp t p)→N < fuel→t.slot (advN t N (st.getD (t.probeStart (hsh prog w k)))).j=.live i0→(∀ m,m < N→t.slot (advN t m (st.getD (t.probeStart (hsh prog w k)))).j≠.empty)→N < 10 * Om t.mask →
  Q (.there ck) s→w_ (z_ prog w) A (MM S (.ref b) (hsh prog w k) c_ fuel st) Q E s:=by
 intro N
 induction N using Nat.strongRecOn with
 | _ N ih =>
  intro fuel st hv hf he hn hN hQ;cases fuel with
  | zero=>exact absurd hf (Mu _)
  | succ fuel =>
   have hfit:=jx T;have v:Vp t (st.getD (t.probeStart (hsh prog w k))):=by
    cases st with
    | none=>exact pC (hsh prog w k)
    | some p=>exact hv p rfl
   unfold MM;refine f_ (LW ho hd hfit ?_);dsimp only;have hgw:t.gaveWay=d_:=by unfold Ru; rw [hm]; rfl
   rw [hgw];simp only [KZ,if_false];unfold R8;rcases yX T _ (hsh prog w k) N _ (st.getD (t.probeStart (hsh prog w k))) i0 v hN he hn with ⟨m,i,hmN,q1,q2,q3,q5⟩ | q
   · rw [q5];dsimp only;have hi:i < es.size:=by
      have:=(LP.mp q2).1;rw [T.size] at this;exact this
     obtain ⟨k',a,hc,hg,ta⟩:∃ k' a,(k'=k∨m < N)∧es[i]?=a_ (es[i].1,.ref a)∧TK prog w s.heap k' a:=by
      by_cases hii:i=i0
      · subst hii;refine ⟨k,a0,.inl rfl,?_,h0⟩;rw [hi0];rw [LU hi] at hi0;rw [Lc hi0]
      · obtain ⟨k',a,_,ea,ta⟩:=hE es[i] (Lz.mpr (Rm hi));refine ⟨k',a,.inr ?_,by rw [LU hi,← ea],ta⟩;rcases Nat.lt_or_ge m N with z | z
        · exact z
        · have:m=N:=by omega
          subst this;rw [q1] at he;cases he;exact absurd rfl hii
     have rest:w_ (z_ prog w) A (do
      let a_ (_,y):=es[i]? | O0 "internal:set-entry"
      let equal ← Nn [y] (eqBool y (.ref b))
      let (es',_,t') ← setState S
      if (c_ && equal)=c_ then return R_ ck
      let a_ same:=t'.sameMemory t.moves t.mask | O0 "set.changed-during-lookup:is-the-new-block-at-the-old-address"
      let still ← match (if same then t'.slot (advN t m (st.getD (t.probeStart (hsh prog w k)))).j else .empty) with
       | .live i'=>match es'[i']? with
        | some (_,y')=>do pure (if ← RX y' y then a_ i' else ck)
        | none=>pure ck
       | _=>pure ck
      match still with
      | none=>rule "set.search.anew"; MM S (.ref b) (hsh prog w k) c_ fuel ck
      | some i'=>if equal then return .there (a_ i') else MM S (.ref b) (hsh prog w k) c_ fuel (a_ (advN t (m + 1) (st.getD (t.probeStart (hsh prog w k)))))) Q E s:=by
      rw [hg];dsimp only;refine f_ (LH (wpAny_eqBool_tuple hu ta hx ?_));by_cases hkk:k'=k
      · rw [decide_eq_true hkk];refine f_ (LW ho hd hfit ?_);dsimp only;rw [Bool.and_true];simp only [if_true];exact m_ hQ
      have hmN':m < N:=by
       rcases hc with z | z
       · exact absurd z hkk
       · exact z
      rw [decide_eq_false hkk];refine f_ (LW ho hd hfit ?_);dsimp only;rw [OW];simp only [KZ,if_false];have hsm:t.sameMemory t.moves t.mask=a_ c_:=by unfold Qv; simp
      rw [hsm];dsimp only;rw [if_pos rfl,q1];dsimp only;rw [hg];dsimp only;have hsame:RX (x_ a) (x_ a)=pure c_:=by
       unfold RX;dsimp only;rw [if_pos (by simp)]
      rw [hsame];refine f_ (f_ (m_ (m_ ?_)));rw [if_pos rfl];refine ih (N - (m + 1)) (by omega) fuel (a_ (advN t (m + 1) (st.getD (t.probeStart (hsh prog w k))))) (fun p hp=>by cases hp; exact Vp.advN (m + 1) v) (by omega) ?_ ?_ (by omega) hQ
      · show t.slot (advN t (N - (m + 1)) (advN t (m + 1) (st.getD (t.probeStart (hsh prog w k))))).j=.live i0;rw [← eu,show m + 1 + (N - (m + 1))=N by omega];exact he
      · intro x hx';show t.slot (advN t x (advN t (m + 1) (st.getD (t.probeStart (hsh prog w k))))).j≠.empty;rw [← eu];exact hn _ (by omega)
     by_cases hled:t.led=c_
     · rw [hled];simp only [NE,KZ,if_false];exact rest
     · have hled':t.led=d_:=by simpa using hled
       rw [hled'];simp only [N5,if_true];refine f_ (yV hx (fun v hv=>?_) ?_)
       · obtain ⟨e,he',rfl⟩:=Lp.mp hv;have hem:e∈es.toList:=by
          have:=Lz.mp he';rw [RE] at this;exact Lz.mpr this.1
         obtain ⟨k2,a2,_,e2,t2⟩:=hE e hem;exact ⟨k2,a2,e2,t2⟩
       · simp only [KZ,if_false];exact rest
   · exact absurd (show (es[i0]?.map (·.1)).getD 0=hsh prog w k by rw [hi0]; rfl) q
def SetD (prog:r_) (w:E_) (h:K5) (S:k_) (ks:List (List Str)) (n:Nat):Prop :=
 ∃ o es ep t,h.get? S=a_ o∧o.ExactSet∧o.data=.set es ep t∧es.size=n∧Tb t n∧((t.mask=7∧n≤4)∨(t.mask=31∧n≤18)∨(t.mask=127∧n≤20))∧Ent prog w h ks es.toList∧Rise t.place∧Pa t es∧∀ k∈ks,∃ a,(hsh prog w k,x_ a)∈es.toList∧TK prog w h k a
theorem AD {S b:k_} {ks:List (List Str)} {n:Nat} {k:List Str} {Q:Bool→h_→Prop} (hu:A.units < cLine) (hS:SetD prog w s.heap S ks n) (hx:TK prog w s.heap k b) (hk:k∈ks)
 (h:Q d_ s):w_ (z_ prog w) A (Pu S (.ref b) (hsh prog w k)) Q E s:=by
 obtain ⟨o,es,ep,t,ho,hex,hd,hsz,T,hm,hE,R,hP,hA⟩:=hS;have hfit:=jx T;have hfit':t.fits es.size=c_:=by rw [hsz]; exact hfit
 have hodd:t.mask % 2=1:=by rcases hm with ⟨e,_⟩ | ⟨e,_⟩ | ⟨e,_⟩ <;> rw [e]
 obtain ⟨a0,hmem,h0⟩:=hA k hk;obtain ⟨i0,hi0,e0⟩:=Nz hmem;have hi1:i0 < es.size:=by simpa using hi0
 have hge:es[i0]?=a_ (hsh prog w k,x_ a0):=by
  rw [← Ml,Lb hi0,e0]
 have hpl:i0 < t.place.size:=by rw [T.size,← hsz]; exact hi1
 have hma:(t.place[i0],(hsh prog w k,x_ a0))∈asc t es:=by
  unfold asc;refine LN (i:=i0) ?_;rw [List.getElem?_zip_eq_some];exact ⟨by simp [hpl],by rw [Ml]; exact hge⟩
 obtain ⟨N,h1,h2,h3⟩:=hP _ hma;have hmk:t.mask≤127:=by rcases hm with ⟨e,_⟩ | ⟨e,_⟩ | ⟨e,_⟩ <;> omega
 unfold Pu setAddHashedIn;refine LH (f_ (LW ho hd hfit' ?_));dsimp only;have hbs:byScan (x_ b) es=d_:=by unfold byScan; rfl
 rw [hbs];simp only [KZ,if_false];unfold setSearch;refine f_ (rS (ks:=ks) (a0:=a0) (i0:=i0) hu ho hd (by rw [hsz]; exact T) hodd hE hx hge h0 N 100000 ck (fun p hp=>by cases hp) (by unfold Om at h1; omega) ?_ ?_ h1 ?_)
 · show t.slot (advN t N (t.probeStart (hsh prog w k))).j=.live i0;rw [qQ,h2];exact nN R (by rw [LU hpl])
 · intro m hmN;show t.slot (advN t m (t.probeStart (hsh prog w k))).j≠.empty;rw [qQ];exact (pF T R).mpr (h3 m hmN)
 · exact m_ h
theorem kx {n:Nat} (h:n≤20):n≤sizeLine:=by rw [NK]; omega
theorem AE {S b:k_} {ks:List (List Str)} {n:Nat} {k:List Str} {Q:Bool→h_→Prop} (hu:A.units < cLine) (hS:SetD prog w s.heap S ks n) (hx:TK prog w s.heap k b) (hk:k ∉ ks) (hn:n + 1≤20)
 (h:∀ h',Nq S s.heap h'→SetD prog w h' S (k :: ks) (n + 1)→Q c_ { s with heap:=h' }):w_ (z_ prog w) A (Pu S (.ref b) (hsh prog w k)) Q E s:=by
 obtain ⟨o,es,ep,t,ho,hex,hd,hsz,T,hm,hE,R,hP,hA⟩:=hS;have hfit:=jx T;have hfit':t.fits es.size=c_:=by rw [hsz]; exact hfit
 have hodd:t.mask % 2=1:=by rcases hm with ⟨e,_⟩ | ⟨e,_⟩ | ⟨e,_⟩ <;> rw [e]
 have hroom:n + 1≤t.mask:=by rcases hm with ⟨e,q⟩ | ⟨e,q⟩ | ⟨e,q⟩ <;> omega
 unfold Pu setAddHashedIn;refine LH (f_ (LW ho hd hfit' ?_));dsimp only;have hbs:byScan (x_ b) es=d_:=by unfold byScan; rfl
 rw [hbs];simp only [KZ,if_false];unfold setSearch;obtain ⟨N,h1,h2,h3⟩:=D4 T (pC (t:=t) (hsh prog w k));have hmk:t.mask≤127:=by rcases hm with ⟨e,_⟩ | ⟨e,_⟩ | ⟨e,_⟩ <;> omega
 refine f_ (pG (ks:=ks) hu ho hd (by rw [hsz]; exact T) hodd hE hx hk N 100000 ck (fun p hp=>by cases hp) (by unfold Om at h1; omega) h2 h3 h1 ?_);dsimp only;refine f_ (LW ho hd hfit' ?_);dsimp only;generalize hjj:(advN t N ((ck:Option Probe).getD (t.probeStart (hsh prog w k)))).j=j;have hje:t.slot j=.empty:=by rw [← hjj]; exact h2
 have hjp:pos t.mask (hsh prog w k) N=j:=by rw [← qQ]; exact hjj
 obtain ⟨R2,hpl2,hasc2⟩:=xz T R hsz hje (hsh prog w k,x_ b);have hway:Pth t.mask (t.put j).1.place.toList (hsh prog w k) j:=⟨N,h1,hjp,fun x hx=>by
  rw [hpl2];refine .inr ((pF T R).mp ?_);rw [← qQ];exact h3 x hx⟩
 have hP2:Pa (t.put j).1 (D_ es (t.put j).2 (hsh prog w k,x_ b)):=fun je hje'=>by
  rcases (hasc2 je).mp hje' with rfl | hq
  · exact hway
  · exact (hP je hq).mono fun x hx=>(hpl2 x).mpr (.inr hx)
 have hA2:∀ k'∈k :: ks,∃ a,(hsh prog w k',x_ a)∈(D_ es (t.put j).2 (hsh prog w k,x_ b)).toList∧TK prog w s.heap k' a:=by
  intro k' hk';have hmm:∀ e,e∈(D_ es (t.put j).2 (hsh prog w k,x_ b)).toList↔e∈(es.push (hsh prog w k,x_ b)).toList:=fun e=>(Pz es (t.put j).2 (hsh prog w k,x_ b)).mem_iff;rcases rl.mp hk' with rfl | hk'
  · exact ⟨b,(hmm _).mpr (by rw [O7]; simp),hx⟩
  · obtain ⟨a,q1,q2⟩:=hA k' hk';exact ⟨a,(hmm _).mpr (by rw [O7]; exact y_ _ q1),q2⟩
 obtain ⟨P1,P2,P3,P4,P5⟩:=D6 T hroom j;have go:∀ bv:Bool,w_ (z_ prog w) A (do
  storeSet S (D_ es (t.put j).2 (hsh prog w k,.ref b)) (if bv then (t.put j).1 else { (t.put j).1 with plain:=d_ })
  if (!d_ && (if bv then (t.put j).1 else { (t.put j).1 with plain:=d_ }).tooFull)=c_ then setRelay S (OM (es.size + 1))
  return c_) Q E s:=by
  intro bv;have T2:∃ t2,(if bv then (t.put j).1 else { (t.put j).1 with plain:=d_ })=t2∧Tb t2 (n + 1)∧t2.mask=t.mask∧Rise t2.place∧Pa t2 (D_ es (t.put j).2 (hsh prog w k,x_ b)):=by
   cases bv with
   | true=>exact ⟨_,rfl,P1,P3,R2,hP2⟩
   | false=>exact ⟨_,rfl,⟨P1.size,P1.dm,P1.cyc,P1.room⟩,P3,R2,hP2⟩
  obtain ⟨t2,e2,T2,M2,R2',hP2'⟩:=T2;rw [e2];have hsz2:(D_ es (t.put j).2 (hsh prog w k,x_ b)).size=n + 1:=by
   rw [iX _ _ _ (by rw [hsz]; exact P2),hsz]
  refine f_ (wpAny_storeSet_of ho hd ?_ (by rw [hsz2]; exact kx hn));have hsb:=Nw s.heap S (ON (D_ es (t.put j).2 (hsh prog w k,x_ b)) t2);have hg:=nM (es':=D_ es (t.put j).2 (hsh prog w k,x_ b)) (t':=t2) ho hd;have hE2:Ent prog w (s.heap.update S (ON (D_ es (t.put j).2 (hsh prog w k,x_ b)) t2)) (k :: ks) (D_ es (t.put j).2 (hsh prog w k,x_ b)).toList:=(hE.insert hx).keeps ho hd hsb;by_cases hf:t2.tooFull=c_
  · rw [hf];simp only [N5,Bool.and_self,if_true];have hfl:t2.fill * 5 ≥ t2.mask * 3:=by unfold Rt at hf; simpa using hf
    rw [uM T2,M2] at hfl;have h5:∃ m',sizeAbove (OM (n + 1)) - 1=m'∧rP m'=c_∧n + 1≤m'∧¬ (sizeAbove (OM (n + 1)) > sizeLine)∧((m'=31∧n + 1≤18)∨(m'=127∧n + 1≤20)):=by
     rcases hm with ⟨e,q⟩ | ⟨e,q⟩ | ⟨e,q⟩
     · rw [e] at hfl;have h4:n=4:=by omega
       subst h4;exact ⟨31,by decide,HL,by omega,by rw [NK]; decide,.inl ⟨rfl,by omega⟩⟩
     · rw [e] at hfl;have h4:n=18:=by omega
       subst h4;exact ⟨127,by decide,Ee,by omega,by rw [NK]; decide,.inr ⟨rfl,by omega⟩⟩
     · rw [e] at hfl;omega
    obtain ⟨m',s1,s2,s3,s4,s5⟩:=h5;unfold setRelay;refine f_ (f_ (LW hg rfl (by rw [hsz2]; exact jx T2) ?_));dsimp only;rw [hsz];rw [if_neg s4];have hrl:t2.relaid ((D_ es (t.put j).2 (hsh prog w k,x_ b)).map (·.1)) (OM (n + 1))=laid m' t2.finger (t2.movedTo m') t2.led t2.plain ((D_ es (t.put j).2 (hsh prog w k,x_ b)).map (·.1)):=by
     unfold SetTable.relaid;rw [s1]
    obtain ⟨t3,order,r1,r2,r3,r4,r5,r6,r7⟩:=Aw (finger:=t2.finger) (moves:=t2.movedTo m') (led:=t2.led) (plain:=t2.plain) s2 ((D_ es (t.put j).2 (hsh prog w k,x_ b)).map (·.1)) (by rw [Sb,hsz2]; omega);rw [hrl,r1];obtain ⟨L1,L2,L3⟩:=uU s2 (D_ es (t.put j).2 (hsh prog w k,x_ b)) (by rw [hsz2]; omega) r1;rw [Sb,hsz2] at r6 r7;have hperm:(order.filterMap (fun i=>(D_ es (t.put j).2 (hsh prog w k,x_ b))[i]?)).toList.Perm (D_ es (t.put j).2 (hsh prog w k,x_ b)).toList:=by
     rw [PM];refine (r7.filterMap _).trans ?_;rw [← hsz2,xo]
    have hsz3:(order.filterMap (fun i=>(D_ es (t.put j).2 (hsh prog w k,x_ b))[i]?)).size=n + 1:=by
     rw [← Lf,hperm.length_eq,Lf,hsz2]
    show w_ (z_ prog w) A ((if ((order.filterMap (fun i=>(D_ es (t.put j).2 (hsh prog w k,x_ b))[i]?)).size != (D_ es (t.put j).2 (hsh prog w k,x_ b)).size)=c_ then (O0 "internal:set-table-lost-an-element":Sem _) else pure (order.filterMap (fun i=>(D_ es (t.put j).2 (hsh prog w k,x_ b))[i]?),t3)) >>= fun x=>storeSet S x.1 x.2) _ _ _;rw [if_neg (by rw [hsz3,hsz2]; simp)];refine f_ (m_ ?_);refine wpAny_storeSet_of hg rfl ?_ (by rw [hsz3]; exact kx hn);have hsb2:=Nw (s.heap.update S (ON (D_ es (t.put j).2 (hsh prog w k,x_ b)) t2)) S (ON (order.filterMap (fun i=>(D_ es (t.put j).2 (hsh prog w k,x_ b))[i]?)) t3);refine m_ (h _ (hsb.trans hsb2) ⟨_,_,_,t3,nM hg rfl,hex,rfl,hsz3,r6,(by rw [r2]; exact .inr s5),?_,L1,L3,fun k' hk'=>?_⟩)
    · have hE3:=hE2.keeps hg rfl hsb2;exact fun e he=>hE3 e (hperm.mem_iff.mp he)
    · obtain ⟨a,q1,q2⟩:=hA2 k' hk';exact ⟨a,hperm.mem_iff.mpr q1,(q2.keeps ho hd hsb).keeps hg rfl hsb2⟩
  · have hf':t2.tooFull=d_:=by simpa using hf
    rw [hf'];simp only [N5,OW,KZ,if_false];have hfl:¬ (t2.fill * 5 ≥ t2.mask * 3):=by unfold Rt at hf'; simpa using hf'
    rw [uM T2,M2] at hfl;refine m_ (h _ hsb ⟨_,_,_,t2,hg,hex,rfl,hsz2,T2,?_,hE2,R2',hP2',fun k' hk'=>let ⟨a,q1,q2⟩:=hA2 k' hk'; ⟨a,q1,q2.keeps ho hd hsb⟩⟩);rw [M2];rcases hm with ⟨e,q⟩ | ⟨e,q⟩ | ⟨e,q⟩
    · exact .inl ⟨e,by omega⟩
    · exact .inr (.inl ⟨e,by omega⟩)
    · exact .inr (.inr ⟨e,hn⟩)
 cases hpl:(t.put j).1.plain with
 | true =>
  simp only [if_true];refine f_ (pD hx fun bv=>?_);exact go bv
 | false =>
  simp only [KZ,if_false];refine f_ (m_ ?_);exact go c_
end
end ST
namespace ST
open PySem PySem.SetTable PyProof.Rows
def rT {α:Type} [DecidableEq α] (acc:List α) (k:α):List α:=if k∈acc then acc else k :: acc
def ddk {α:Type} [DecidableEq α] (ks:List α):List α:=ks.foldl rT []
theorem xB {α:Type} [DecidableEq α] (acc:List α) (k:α):(rT acc k).length≤acc.length + 1:=by unfold rT; split <;> simp
theorem gr {α:Type} [DecidableEq α]:∀ (ks acc:List α),(ks.foldl rT acc).length≤acc.length + ks.length
 | [],acc=>uk _
 | k :: ks,acc=>by
  have h1:=gr ks (rT acc k);have h2:=xB acc k;rw [Nc,LR];omega
theorem ddk_le {α:Type} [DecidableEq α] (ks:List α):(ddk ks).length≤ks.length:=by
 have:=gr ks [];unfold ddk;simpa using this
theorem jT {α:Type} [DecidableEq α]:∀ (ks acc:List α),(ks.foldl rT acc).length=acc.length + ks.length↔(ks.Nodup∧∀ k∈ks,k ∉ acc)
 | [],acc=>by simp
 | k :: ks,acc=>by
  rw [Nc,LR];by_cases h:k∈acc
  · have h1:=gr ks acc;have e:rT acc k=acc:=by unfold rT; rw [if_pos h]
    rw [e];constructor
    · intro q; omega
    · intro q; exact absurd h (q.2 k o_)
  · have e:rT acc k=k :: acc:=by unfold rT; rw [if_neg h]
    have ih:=jT ks (k :: acc);rw [e];rw [LR] at ih;rw [show acc.length + (ks.length + 1)=acc.length + 1 + ks.length by omega,ih,Nb];constructor
    · rintro ⟨h1,h2⟩;refine ⟨⟨fun hm=>h2 k hm o_,h1⟩,fun x hx=>?_⟩;rcases rl.mp hx with rfl | hx
      · exact h
      · exact fun z=>h2 x hx (pi _ z)
    · rintro ⟨⟨h1,h2⟩,h3⟩;refine ⟨h2,fun x hx z=>?_⟩;rcases rl.mp z with rfl | z
      · exact h1 hx
      · exact h3 x (pi _ hx) z
theorem ddk_eq {α:Type} [DecidableEq α] (ks:List α):(ddk ks).length=ks.length↔ks.Nodup:=by
 have:=jT ks [];unfold ddk;simpa using this
section
variable {prog:r_} {w:E_} {A:G_} {R:QL→h_→Prop} {I:k_} {fp wr:List k_} {G:Array OO→Array OO→Prop} {n:Nat} {P:Nat→g_→Prop} {St:Nat→h_→Prop}
theorem SetD.moved {h h':K5} {S:k_} {ks:List (List Str)} {n:Nat} (x:SetD prog w h S ks n) (hS:∀ o,h.get? S=a_ o→h'.get? S=a_ o) (hm:∀ k a,TK prog w h k a→TK prog w h' k a):SetD prog w h' S ks n:=by
 obtain ⟨o,es,ep,t,ho,hex,hd,hsz,T,hmk,hE,R,hP,hA⟩:=x;exact ⟨o,es,ep,t,hS _ ho,hex,hd,hsz,T,hmk,fun e he=>let ⟨k,a,h1,h2,h3⟩:=hE e he; ⟨k,a,h1,h2,hm k a h3⟩,R,hP,fun k hk=>let ⟨a,q1,q2⟩:=hA k hk; ⟨a,q1,hm k a q2⟩⟩
theorem HQ (W:WalksS prog w A.in1 I fp wr G n P St) (S:k_) (hSf:S ∉ fp) (hu:A.in1.units < cLine) (hwr:wr=[I]) (hI:∀ i s,St i s→∃ o vs,s.heap.get? I=a_ o∧o.data=.fields vs)
 (adr:Nat→k_) (key:Nat→List Str) (hval:∀ i v,P i v→v=.ref (adr i)) (hn:n≤20) :
 ∀ (k i:Nat) (s:h_),n - i=k→i≤n→St i s→(∀ j,j < n→TK prog w s.heap (key j) (adr j)) →
  SetD prog w s.heap S (ddk ((s_ i).map key)) (ddk ((s_ i).map key)).length →
  (∀ s',Moved (S :: wr) G s s'→SetD prog w s'.heap S (ddk ((s_ n).map key)) (ddk ((s_ n).map key)).length→R (.ok (.ret .none)) s') →
  NV (z_ prog w) A (.builtin "set.update.loop" ⟨[.ref S,.ref I],[]⟩) R s:=by
 have hSw:S ∉ wr:=fun h=>hSf (W.sub _ h);have hsub:∀ b∈wr,b∈S :: wr:=fun b hb=>pi _ hb;have notI:∀ {i:Nat} {s:h_} {k:List Str} {a:k_},St i s→TK prog w s.heap k a→a ∉ wr:=fun {i s k a} hst x hm=>by
  rw [hwr,Le] at hm;subst hm;obtain ⟨o',items,n,ho',hc,hd',hi⟩:=x;obtain ⟨o,vs,ho,hd⟩:=hI _ _ hst;rw [ho] at ho';cases ho';rw [hd] at hd';cases hd'
 intro k
 induction k with
 | zero =>
  intro i s hk hi hst hT hS hR;have hin:i=n:=by omega
  subst hin;refine Os Pn ?_;rw [Qe MY _];show w_ _ A.in1 (P8 (.ref I) >>= _) _ _ s;refine f_ (W.done s _ _ hst fun s' hm=>?_);show w_ _ A.in1 (ret K9) _ _ s';exact m_ (hR s' (hm.mono hsub) (hS.moved (fun o ho=>hm.heap S _ hSw ho) fun k' a x=>x.moved fun o ho=>hm.heap a _ (notI hst x) ho))
 | succ k ih =>
  intro i s hk hi hst hT hS hR;have hlt:i < n:=by omega
  refine Os Pn ?_;rw [Qe MY _];show w_ _ A.in1 (P8 (.ref I) >>= _) _ _ s;refine f_ (W.item i s _ _ hlt hst fun v s' hP hst' hm=>?_);have hv:=hval i v hP;subst hv;have hT':∀ j,j < n→TK prog w s'.heap (key j) (adr j):=fun j hj=>(hT j hj).moved fun o ho=>hm.heap _ _ (notI hst (hT j hj)) ho;have hS':SetD prog w s'.heap S (ddk ((s_ i).map key)) (ddk ((s_ i).map key)).length:=hS.moved (fun o ho=>hm.heap S _ hSw ho) fun k' a x=>x.moved fun o ho=>hm.heap a _ (notI hst x) ho;show w_ _ A.in1 (Nn [x_ (adr i)] (setAdd S (.ref (adr i))) >>= _) _ _ s';refine f_ (LH ?_);unfold setAdd;refine LH ?_;refine f_ (wpAny_pyHash_tuple hu (hT' i hlt) ?_);have estep:ddk ((s_ (i + 1)).map key)=rT (ddk ((s_ i).map key)) (key i):=by
   unfold ddk;rw [RM,Ow,List.foldl_append];rfl
  have hle:(ddk ((s_ i).map key)).length≤i:=by
   have:=ddk_le ((s_ i).map key);simpa using this
  by_cases hold:key i∈ddk ((s_ i).map key)
  · refine AD (s:={ s' with toks:=s'.toks + ((key i).length + 1) }) hu hS' (hT' i hlt) hold ?_;have hS3:SetD prog w s'.heap S (ddk ((s_ (i + 1)).map key)) (ddk ((s_ (i + 1)).map key)).length:=by
     rw [estep];unfold rT;rw [if_pos hold];exact hS'
    refine m_ ⟨plainId_quiet MY _,ih (i + 1) _ (by omega) hlt (W.frame _ s' _ _ hst' (by simp) fun b hb o e=>e) hT' hS3 fun s'' hm'' hS''=>?_⟩;exact hR s'' (Moved.trans W.gtrans ((hm.mono hsub).then_heap (by simp) fun b o hb e=>e) hm'') hS''
  · refine AE (s:={ s' with toks:=s'.toks + ((key i).length + 1) }) hu hS' (hT' i hlt) hold (by omega) fun h' hsb hS2=>?_;obtain ⟨oS,esS,epS,tS,hoS,_,hdS,_⟩:=hS';have hS3:SetD prog w h' S (ddk ((s_ (i + 1)).map key)) (ddk ((s_ (i + 1)).map key)).length:=by
     rw [estep];unfold rT;rw [if_neg hold];exact hS2
    refine m_ ⟨plainId_quiet MY _,ih (i + 1) _ (by omega) hlt (W.frame _ s' _ _ hst' (by simp) fun b hb o e=>?_) (fun j hj=>(hT' j hj).keeps hoS hdS hsb) hS3 fun s'' hm'' hS''=>?_⟩
    · rw [hsb.2 b (fun h:b=S=>hSf (by rw [← h]; exact hb))]; exact e
    · refine hR s'' (Moved.trans W.gtrans ((hm.mono hsub).then_heap (by simp) fun b o hb e=>?_) hm'') hS'';rw [hsb.2 b (fun h:b=S=>hb (by rw [h]; exact o_))]; exact e
end
section
variable {prog:r_} {w:E_} {A:G_} {E:g_→h_→Prop} {s:h_}
theorem xD {h:K5} {S:k_} {led:Bool} (e:h.get? S=a_ (rQ led)):SetD prog w h S [] 0 :=
 ⟨_,#[],0,_,e,⟨rfl,rfl,rfl⟩,rfl,rfl,⟨rfl,rfl,Kc,Mh _⟩,.inl ⟨rfl,by omega⟩,fun e he=>by simp at he,N4,fun je hje=>(by simp [asc,SetTable.fresh] at hje),fun k hk=>(by simp at hk)⟩
theorem Ef {led:Bool} {l:k_} {items:Array g_} {key:Nat→List Str} {adr:Nat→k_} {R:QL→h_→Prop} (hh:A.handled=ck) (hu:A.units + 8 < cLine) (hl:s.heap.IsList l items)
 (hk:∀ i,i < items.size→items[i]?=a_ (.ref (adr i))∧TK prog w s.heap (key i) (adr i)) (hn:items.size≤20)
 (hR:∀ (h':K5) (tk:Nat),SetD prog w h' s.heap.objs.size (ddk ((s_ items.size).map key)) (ddk ((s_ items.size).map key)).length→(∀ b o,b < s.heap.objs.size→s.heap.get? b=a_ o→h'.get? b=a_ o)→R (.ok (.ret .none)) { s with heap:=h',toks:=tk }) :
 NV (z_ prog w) A (.call (.builtin "set.__init__") ⟨[.ref s.heap.objs.size,.ref l],[]⟩) R { s with heap:=s.heap.push (rQ led) }:=by
 have hS:(s.heap.push (rQ led)).get? s.heap.objs.size=a_ (rQ led):=B_ _ rfl;have hT:Se { s with heap:=s.heap.push (rQ led) } (.ref s.heap.objs.size) "set":=⟨_,hS,rfl⟩;refine Ol M7.init.plain F.entry_set_init (check_set_init_1 hT ?_);obtain ⟨ol,hol,hcl,nl,hdl⟩:=hl;obtain ⟨ocls,odict,odata,oslots⟩:=ol;simp only at hcl hdl;subst hcl; subst hdl;have hol':(s.heap.push (rQ led)).get? l=a_ { cls:=.type "list",dict:=odict,data:=.seq items nl,slots:=oslots }:=j_ _ hol;have s1:=F.sub_list_set;have s2:=F.sub_list_frozenset;have s3:(v_ "list" == v_ "dict")=d_:=by decide
 have hl1:(s.heap.push (rQ led)).IsList l items:=⟨_,hol',rfl,nl,rfl⟩;unfold Oi.«set.__init__» noKeywords RK;generalize hPI:pyIter=PI
 wp_walk
 subst hPI;refine NT hl1 (f_ (wpAny_runValue ?_));have hlS:l < s.heap.objs.size:=t_ hol;have hneI:l≠(s.heap.push (rQ led)).objs.size:=by rw [Lv]; exact K7 (Rg hlS)
 have hSf:s.heap.objs.size ∉ [(s.heap.push (rQ led)).objs.size,l]:=by
  rw [Lv];simp only [rl,I_,or_false,not_or];exact ⟨K7 (RA _),N0 hlS⟩
 have up:∀ {k:List Str} {a:k_},TK prog w s.heap k a→TK prog w ((s.heap.push (rQ led)).push { cls:=.type "list_iterator",data:=.fields #[.ref l,.int 0 0] }) k a:=fun x=>x.moved fun o e=>j_ _ (j_ _ e);refine HQ ((R6 (by simp [hh]) _ l hneI items).toS) s.heap.objs.size hSf (by show A.units + 1 + 1 < cLine; omega) rfl (fun i s' st=>by
  obtain ⟨⟨o,ho,_,hd⟩,_⟩:=st;exact ⟨o,_,ho,hd⟩) adr key (fun i v hv=>?_) hn (items.size - 0) 0 _ (by omega) (Mh _) ⟨⟨_,B_ _ rfl,rfl,rfl⟩,(hl1.push _)⟩ (fun j hj=>up (hk j hj).2) ?_ ?_
 · have hi:i < items.size:=(LP.mp hv).1;have:=(hk i hi).1;rw [this] at hv;exact (Lc hv).symm
 · exact xD (led:=led) (j_ _ hS)
 · intro s' hm hS';obtain ⟨h',g',d',tk',os'⟩:=s';have eg:g'=s.gens:=hm.gens;have ed:d'=s.drawn:=hm.drawn;have eo:os'=s.os:=hm.os;subst eg; subst ed; subst eo;show w_ _ _ _ _ _ _;refine m_ ?_;show w_ _ _ (ret K9) _ _ _;refine m_ (hR h' tk' hS' fun b o hb e=>?_);have hb1:b≠s.heap.objs.size:=K7 hb;have hb2:b≠(s.heap.push (rQ led)).objs.size:=by rw [Lv]; exact K7 (Rg hb)
   exact hm.heap b o (by simp only [rl,I_,or_false,not_or]; exact ⟨hb1,hb2⟩) (j_ _ (j_ _ e))
theorem call_set_U {l:k_} {items:Array g_} {key:Nat→List Str} {adr:Nat→k_} {Q:g_→h_→Prop} (hh:A.handled=ck) (hu:A.units + 16 < cLine) (hl:s.heap.IsList l items)
 (hk:∀ i,i < items.size→items[i]?=a_ (.ref (adr i))∧TK prog w s.heap (key i) (adr i)) (hn:items.size≤20)
 (h:∀ (h':K5) (tk:Nat),SetD prog w h' s.heap.objs.size (ddk ((s_ items.size).map key)) (ddk ((s_ items.size).map key)).length→(∀ b o,b < s.heap.objs.size→s.heap.get? b=a_ o→h'.get? b=a_ o)→Q (.ref s.heap.objs.size) { s with heap:=h',toks:=tk }) :
 w_ (z_ prog w) A (call (.type "set") [.ref l]) Q E s:=by
 obtain ⟨c,tl,hmro⟩:=M7.mro;have hmade:=M7.made;have hsub:=M7.sub;refine Pt (codeAny_of_tree ?_);show w_ _ _ (callAny (.type "set") _) _ _ _;refine m_ ⟨QO _ (by decide +kernel),Os F.entry_type_call ?_⟩;rw [Around.under_plain (weight_type_call_type "set" [.ref l] []) rfl];have h1:=M7.notType;have h2:=M7.canCreate;have hct:=F.typeCall_set_1 (.ref l)
 repeat (any_goals (first | assumption | wp_step))
 refine NU (code_set_new_1 (.ref l) (E:=E) (Q₁:=fun obj s₁=>∃ led:Bool,obj=.ref s.heap.objs.size∧s₁={ s with heap:=s.heap.push (rQ led) }) fun led=>⟨led,rfl,rfl⟩) fun r s₁ hr=>?_;cases r with
 | error e=>exact hr
 | ok fl =>
  cases fl with
  | ret obj =>
   obtain ⟨led,rfl,rfl⟩:=hr;have hT:Se { s with heap:=s.heap.push (rQ led) } (.ref s.heap.objs.size) "set":=⟨_,B_ _ rfl,rfl⟩;have hli:=M7.init.lookup;have hbi:=M7.init.bind (.ref s.heap.objs.size)
   repeat (any_goals (first | assumption | wp_step))
   refine NU (Ef (R:=wants (fun r s₂=>r=.none∧∃ h' tk,s₂={ s with heap:=h',toks:=tk }∧SetD prog w h' s.heap.objs.size (ddk ((s_ items.size).map key)) (ddk ((s_ items.size).map key)).length ∧
    (∀ b o,b < s.heap.objs.size→s.heap.get? b=a_ o→h'.get? b=a_ o)) E) (by simp [hh]) (by show A.units + 1 + 8 < cLine; omega) hl hk hn fun h' tk q1 q2=>⟨rfl,h',tk,rfl,q1,q2⟩) fun r₂ s₂ hr₂=>?_
   cases r₂ with
   | error e=>exact hr₂
   | ok fl₂ =>
    cases fl₂ with
    | ret r =>
     obtain ⟨rfl,h',tk,rfl,hS',hk'⟩:=hr₂
     repeat (any_goals (first | assumption | wp_step))
     exact h _ _ hS' hk'
    | _=>exact hr₂.elim
  | _=>exact hr.elim
theorem len_U {S:k_} {ks:List (List Str)} {n:Nat} {Q:g_→h_→Prop} (hS:SetD prog w s.heap S ks n) (hn:n≤20) (h:∀ t tk,Q (.int n t) { s with toks:=tk }):w_ (z_ prog w) A (call (.builtin "len") [.ref S]) Q E s:=by
 obtain ⟨o,es,ep,t,ho,hex,hd,hsz,T,hm,hE,_⟩:=hS;subst hsz;exact call_len_set ho hex hd (jx T) (Int.lt_of_le_of_lt (show ((es.size:Nat):Int)≤20 by omega) (by decide)) (h _ _)
end
end ST
namespace FD
open PySem PySem.Spec PyProof.Rows L2
def ky:List Dv→Option (Rs Dv)
 | [.lst ds]=>match kw ds with
  | some ks=>if ks.length≤20 then a_ (.ok (.int (ST.ddk ks).length)) else ck
  | none=>ck
 | _=>ck
theorem rV {α:Type} (ks:List α) (d:α) (n:Nat) (h:n=ks.length):(s_ n).map (fun i=>ks.getD i d)=ks:=by
 subst h;apply O5;intro i;by_cases hi:i < ks.length
 · simp [hi]
 · simp [hi]
section
variable {X:Cx} {p p2 pos pos2:Pos} {e:F_} {ga:FnA}
theorem rW (hu:X.A.units + 64 < cLine) (hc:X.calm=c_) (hg:Gl X "len") (hm:X.mg "len"=ck) (hg2:Gl X "set") (hm2:X.mg "set"=ck) (ha:FA X [e] ga)
 (he:i_ [.Call (.Name "set" p2) [e] [] pos2] X.env=(d_,eval (.Call (.Name "set" p2) [e] [] pos2) X.env) :: i_ [] X.env:=by kernel_rfl) (hpl:(Lr pos (i_ [] X.env)).any (·.1)=d_:=by kernel_rfl)
 (he2:i_ [e] X.env=(d_,eval e X.env) :: i_ [] X.env:=by kernel_rfl) (hpl2:(Lr pos2 (i_ [] X.env)).any (·.1)=d_:=by kernel_rfl) :
 FE X (.Call (.Name "len" p) [.Call (.Name "set" p2) [e] [] pos2] [] pos) (fB1 ky ga):=⟨fun f' s σ H Q I ⟨ρ,E,o⟩=>by
 refine MB (iR I hg hm R1 ?_ (by decide) (by decide));refine Oc ?_ he hpl;rw [he];show w_ _ _ (spliced ((d_,eval (.Call (.Name "set" p2) [e] [] pos2) X.env) :: Lr pos (i_ [] X.env))) _ _ s;refine QP ?_;refine MB (iR I hg2 hm2 (u:=.type "set") (by decide +kernel) ?_ (by decide) (by decide));refine LL (thn (ha.h pos2 f' s σ H _ I ⟨ρ,E,OutA.bind o fun ds vs H1 e1 rs o1=>(show ∃ ds,Reps X.K H1 ds vs∧Out X H1 (ky ds) Q from ⟨ds,rs,o1⟩)⟩) fun us s1 ⟨vs,H1,I1,r1,ds,rs,o1⟩=>?_) he2 hpl2;unfold ky at o1;split at o1
 · rename_i es;obtain ⟨v,rfl,r⟩:=dZ rs;obtain ⟨l,xs,rfl,hl,rx⟩:=r.lstE;obtain ⟨u,rfl,ru⟩:=eW r1;cases (show u=x_ l from ru);split at o1
   · rename_i ks hks;split at o1
     · rename_i hnd;obtain ⟨z,its,n,rv,hz,eh⟩:=I1.lstM hl;obtain ⟨q1,q2⟩:=uN I1 hks rx rv;have hsz:its.toArray.size=ks.length:=by simp [q1]
       refine ST.call_set_U (items:=its.toArray) (key:=fun i=>ks.getD i []) (adr:=fun i=>match its[i]? with | some (.ref a)=>a | _=>0) (I1.ok.hd hc) (by omega) ⟨_,eh,rfl,n,rfl⟩ (fun i hi=>?_) (by rw [hsz]; exact hnd) fun h' tk hS hkp=>?_
       · obtain ⟨a,e1,e2⟩:=q2 i (by simpa using hi);simp only [List.getElem?_toArray,e1];exact ⟨trivial,e2⟩
       · refine Q9 ?_;rw [rV ks [] _ hsz] at hS;refine ST.len_U hS (K0 (ST.ddk_le ks) hnd) fun t tk2=>⟨.int ((ST.ddk ks).length:Nat),H1,?_,⟨t,rfl⟩,o1 _ H1 (.refl H1) rfl⟩;exact I1.kept (t':=tk2) fun b u q=>hkp b u (t_ q) q
     · exact o1.elim
   · exact o1.elim
 · exact o1.elim⟩
end
section
variable {prog:r_} {w:E_} {A:G_} {E:g_→h_→Prop} {s:h_}
end
section
variable {prog:r_} {w:E_} {A:G_} {E:g_→h_→Prop} {s:h_}
end
structure ZMt (z TI TO i1 i2 a b:k_) (i:Nat) (h:K5):Prop where
 z:PR h z TI TO .none
 ti:Nv h TI (.ref i1) (.ref i2)
 to:∃ p q,Nv h TO p q
 j1:h.IsTupleIter i1 a i
 j2:h.IsListIter i2 b i
def tC (X:Cx) (i:Nat) (fc:FnE):TS:=fun D σ H=>∃ ρ,Envs X.K H σ ρ∧match fc ρ with
 | none=>False
 | some (.exc c)=>XW X c H
 | some (.ok d)=>∃ ys,d=.lst ys∧∀ H5 p vs,Same H H5→H5 p=ck→Reps X.K H5 ys vs→D.nx (σ.set i (a_ (.ref p))) (upd H5 p (.lst vs))
def rY (i:Nat) (fc:FnE) (f:gH):FnS:=fun ρ=>bO (fc ρ) fun d=>match d with
 | .lst ds=>(match f (ρ.set i ck) ds with
  | some (.nx ρ' ds')=>a_ (.nx (ρ'.set i (a_ (.lst ds'))))
  | some (.rt d)=>a_ (.rt d)
  | none=>ck)
 | _=>ck
section
variable {X:Cx} {i:Nat} {st:LY} {sts:List LY} {f:gH} {fc:FnE}
theorem xE {x:Str} (hi:X.N[i]?=a_ x) (h1:PS X st (tC X i fc)) (hr:FOs X i sts f):FSs X (st :: sts) (rY i fc f):=⟨fun f' s σ H D I ⟨ρ,E,o⟩=>by
 refine j6 h1 hr.h f' s σ H D I ⟨ρ,E,?_⟩;unfold rY at o
 match hgr:fc ρ with
 | none=>rw [hgr] at o; exact o.elim
 | some (.exc _)=>rw [hgr] at o; exact o
 | some (.ok d) =>
  rw [hgr] at o;cases d with
  | lst ds =>
   have o2:OutS X H (match f (ρ.set i ck) ds with
    | some (.nx ρ' ds')=>a_ (.nx (ρ'.set i (a_ (.lst ds'))))
    | some (.rt d)=>a_ (.rt d)
    | none=>ck) D:=o
   refine ⟨ds,rfl,fun H1 p vs e1 hp rs=>?_⟩;have hil:i < σ.length:=by rw [I.len]; exact (K2.mp hi).1
   refine ⟨H1,p,vs,ρ.set i ck,ds,rfl,hp,K1 hil,?_,rs,?_⟩
   · have E1:=(E.mono e1).fgt1 i;refine ⟨by rw [Lu]; exact E1.len,fun j d hj=>?_⟩;by_cases hij:i=j
     · subst hij;by_cases hl2:i < ρ.length
       · rw [K1 hl2] at hj; cases hj
       · rw [Mj (by rw [Lu]; omega)] at hj; cases hj
     · obtain ⟨v,q1,q2⟩:=E1.at' j d hj;exact ⟨v,by rw [J_ hij]; exact q1,q2⟩
   · match hfr:f (ρ.set i ck) ds with
     | none=>rw [hfr] at o2; exact o2.elim
     | some (.rt d)=>rw [hfr] at o2; exact fun v H' e' r'=>o2 v H' (e1.trans e') r'
     | some (.nx ρ' ds') =>
      rw [hfr] at o2;exact fun σ' H' xs' e' ha' hi' E' r'=>o2 σ' _ ((e1.trans e').trans (fX ha')) (eZ ha' hi' E' r')
  | _=>exact (show False from o).elim⟩
theorem uV {n:Nat} {cs:List (Str×Nat)} {src:FnA} {b:Dv→Ev→Option Ev} {tst:Option FnB} {fe:FnE} (ρ:Ev) (d:Dv) (h:bB n cs src b tst fe ρ=a_ (.ok d)):∃ ys,d=.lst ys:=by
 rcases Gm h with ⟨c,e1,e2⟩ | ⟨ds,ys,e1,e2,l1,l2,e3⟩
 · cases e2
 · cases e3; exact ⟨ys,rfl⟩
end
structure KU {α:Type} (le:α→α→Bool):Prop where
 t:∀ a b,le a b=d_→le b a=c_
 tr:∀ a b c,le a b=c_→le b c=c_→le a c=c_
 an:∀ a b,le a b=c_→le b a=c_→a=b
def jU:List Dv→Option (List Int)
 | []=>a_ []
 | .int i :: r=>(jU r).map (i :: ·)
 | _=>ck
section
variable {X:Cx} {f':List (k_×Obj)} {σ:L2.St} {H:Hp} {s:h_}
theorem qU {K:e_}:∀ {ds:List Dv} {ns:List Int} {ys:List V} {its:List g_},jU ds=a_ ns→Reps K H ds ys→Vals ys its→Qr its ns
 | [],ns,ys,its,h,r,v=>by
  cases h;cases (show ys=[] from r);cases v;exact .nil
 | .int i :: ds,ns,ys,its,h,r,v=>by
  obtain ⟨y,us,rfl,r1,r2⟩:∃ v us,ys=v :: us∧Rep K H (.int i) v∧Reps K H ds us:=r;cases (show y=.int i from r1);obtain ⟨k',h1,rfl⟩:=Lw.mp (show (jU ds).map (i :: ·)=a_ ns from h);cases v with
  | cons v1 v2 =>
   obtain ⟨t,rfl⟩:=v1;exact .cons i t (qU h1 r2 v2)
 | .non :: ds,_,_,_,h,_,_=>by cases h
 | .bl _ :: ds,_,_,_,h,_,_=>by cases h
 | .str _ :: ds,_,_,_,h,_,_=>by cases h
 | .tup _ :: ds,_,_,_,h,_,_=>by cases h
 | .lst _ :: ds,_,_,_,h,_,_=>by cases h
 | .scr _ :: ds,_,_,_,h,_,_=>by cases h
 | .exn _ :: ds,_,_,_,h,_,_=>by cases h
theorem iS:∀ {its:List g_} {ns:List Int},Qr its ns→Vals (ns.map V.int) its
 | _,_,.nil=>.nil
 | _,_,.cons n t h=>.cons ⟨t,rfl⟩ (iS h)
end
section
variable {X:Cx} {p pos:Pos} {e:F_} {es:List F_} {ga:FnA}
end
def mxL:Int→List Int→Int
 | m,[]=>m
 | m,n :: l=>mxL (if n > m then n else m) l
theorem uW:∀ (l:List Int) (m:Int),m≤mxL m l∧(∀ a∈l,a≤mxL m l)∧(mxL m l=m∨mxL m l∈l)
 | [],m=>⟨Int.le_refl _,by simp,.inl rfl⟩
 | n :: l,m=>by
  obtain ⟨h1,h2,h3⟩:=uW l (if n > m then n else m);have e:mxL m (n :: l)=mxL (if n > m then n else m) l:=rfl;rw [e];generalize hM:mxL (if n > m then n else m) l=M at *;by_cases hc:n > m
  · rw [if_pos hc] at h1 h3;refine ⟨by omega,fun a ha=>?_,?_⟩
    · rcases rl.mp ha with rfl | ha
      · exact h1
      · exact h2 a ha
    · rcases h3 with h3 | h3
      · exact .inr (by rw [h3]; exact o_)
      · exact .inr (pi _ h3)
  · rw [if_neg hc] at h1 h3;refine ⟨h1,fun a ha=>?_,?_⟩
    · rcases rl.mp ha with rfl | ha
      · omega
      · exact h2 a ha
    · rcases h3 with h3 | h3
      · exact .inl h3
      · exact .inr (pi _ h3)
theorem AF {n:Int} {l:List Int} {M:Int} (h1:M∈n :: l) (h2:∀ a∈n :: l,a≤M):M=mxL n l:=by
 obtain ⟨g1,g2,g3⟩:=uW l n;have ge:mxL n l≤M:=by
  rcases g3 with g3 | g3
  · rw [g3]; exact h2 n o_
  · exact h2 _ (pi _ g3)
 have le:M≤mxL n l:=by
  rcases rl.mp h1 with rfl | h1
  · exact g1
  · exact g2 M h1
 omega
def Eg:List Dv→Option (Rs Dv)
 | [.lst ds]=>match jU ds with
  | some (n :: ns)=>a_ (.ok (.int (mxL n ns)))
  | _=>ck
 | _=>ck
section
variable {X:Cx} {p pos:Pos} {e:F_} {es:List F_} {ga:FnA}
theorem uX:CallR X (.builtin "max") (fun xs H Q=>∃ a ws ds n ns,xs=[.ref a]∧H a=a_ (.lst ws)∧Reps X.K H ds ws∧jU ds=a_ (n :: ns)∧X.calm=c_∧Q (.int (mxL n ns)) H):=by
 intro f' s σ H xs us Q I r h;obtain ⟨a,ws,ds,n,ns,rfl,h1,h2,hi,hc,q⟩:=h;obtain ⟨u,rfl,ru⟩:=eW r;cases ru;obtain ⟨z,its,ep,rv,hl,e⟩:=I.lstM h1;have hI:=qU hi h2 rv;obtain ⟨ys,ey⟩:=hI.allInts.items;have hns:n :: ns=ys.toList.map (·.1):=by rw [← hI.numsOf,← nums_intItems,← ey]
 have hsz:0 < ys.size:=by
  have:=congrArg Oo hns;simp at this;omega
 have hL:s.heap.IsList a (intItems ys):=by
  rw [← ey];exact ⟨_,e,rfl,ep,rfl⟩
 refine max_intList (I.ok.hd hc) hL hsz fun v h' tk hv hk=>?_;obtain ⟨t,rfl⟩:=intItems_at hv;obtain ⟨g1,g2⟩:=argBest_gt (numAt ys) (ys.size - 1);have hM:numAt ys (argBest (fun i j=>q_ (numAt ys i > numAt ys j)) (ys.size - 1))=mxL n ns:=by
  refine AF ?_ fun b hb=>?_
  · rw [hns,numAt_eq]; exact getD_mem (by rw [La,Lf]; omega)
  · rw [hns] at hb;obtain ⟨j,hj,rfl⟩:=mem_getD hb;rw [La,Lf] at hj;rw [← numAt_eq]; exact g2 j (by omega)
 refine ⟨.int (mxL n ns),H,I.kept (t':=tk) hk,⟨t,by rw [hM]⟩,q⟩
theorem AG (hc:X.calm=c_) (hg:Gl X "max") (hm:X.mg "max"=ck) (ha:FA X (e :: es) ga) (he:i_ (e :: es) X.env=(d_,eval e X.env) :: i_ es X.env:=by kernel_rfl) (hpl:(Lr pos (i_ es X.env)).any (·.1)=d_:=by kernel_rfl):FE X (.Call (.Name "max" p) (e :: es) [] pos) (fB1 Eg ga) :=
 cY (eM uX hg hm PZ ha.h (by decide) (by decide) he hpl) fun σ H Q ρ E o=>⟨ρ,E,OutA.bind o fun ds vs H1 e1 rs o1=>by
  unfold Eg at o1;split at o1
  · rename_i xs;obtain ⟨v,rfl,r⟩:=dZ rs;obtain ⟨a,ws,rfl,h1,h2⟩:=r.lstE;split at o1
    · rename_i n ns hb;exact ⟨a,ws,xs,n,ns,rfl,h1,h2,hb,hc,o1 _ H1 (.refl H1) rfl⟩
    · exact o1.elim
  · exact o1.elim⟩
end
def AH:List Dv→Option (Rs Dv)
 | [.lst xs]=>(match fG xs with | some bs=>a_ (.ok (.bl (bs.any id))) | none=>ck)
 | _=>ck
section
variable {X:Cx} {p pos:Pos} {e:F_} {es:List F_} {ga:FnA}
theorem uY:CallR X (.builtin "any") (fun xs H Q=>∃ a vs bs ds,xs=[.ref a]∧H a=a_ (.lst vs)∧Reps X.K H ds vs∧fG ds=a_ bs∧X.calm=c_∧Q (.bl (bs.any id)) H):=by
 intro f' s σ H xs us Q I r h;obtain ⟨a,vs,bs,ds,rfl,h1,h2,h3,hc,q⟩:=h;obtain ⟨u,rfl,ru⟩:=eW r;cases ru;obtain ⟨z,its,n,rv,hl,e⟩:=I.lstM h1;have eb:=lV h2 rv h3;subst eb;have hL:s.heap.IsList a (bs.map Lo).toArray:=⟨_,e,rfl,_,rfl⟩;have hlt:a < s.heap.objs.size:=t_ e;refine call_any_walk (NT hL ?_);refine ⟨s.heap.objs.size,[s.heap.objs.size,a],[s.heap.objs.size],(bs.map Lo).toArray.size,_,_,fun i=>(bs[i]?).getD c_,rfl,R6 (A:=X.A.in1) (I.ok.hd hc) _ a (K7 hlt) (bs.map Lo).toArray,
  ⟨⟨_,B_ _ rfl,rfl,rfl⟩,hL.push _⟩,fun i v s' Q' E' hP hQ=>?_,fun h' tk hk=>?_⟩
 · have hP':(bs.map Lo)[i]?=a_ v:=by simpa using hP
   rw [Lx] at hP';cases hb:bs[i]? with
   | none=>rw [hb] at hP'; cases hP'
   | some b =>
    rw [hb] at hP';cases hP';have hQ2:Q' ((bs[i]?).getD c_) s':=hQ;rw [hb] at hQ2;exact Ms hQ2
 · have e2:((s_ (bs.map Lo).toArray.size).any fun i=>(bs[i]?).getD c_)=bs.any id:=by
    rw [xy,La];rw [Ln];simp only [Mz,K6,id];constructor
    · rintro ⟨i,hi,hh⟩;simp only [Lb hi,Ry] at hh;exact ⟨_,Nt hi,hh⟩
    · rintro ⟨b,hb,hh⟩;obtain ⟨i,hi,rfl⟩:=Qj.mp hb;exact ⟨i,hi,by simpa [hi] using hh⟩
   rw [e2];exact ⟨.bl (bs.any id),H,I.kept (t':=tk) fun b o q=>hk b o (by simp; exact K7 (t_ q)) (j_ _ q),rfl,q⟩
theorem Eh (hc:X.calm=c_) (hg:Gl X "any") (hm:X.mg "any"=ck) (ha:FA X (e :: es) ga) (he:i_ (e :: es) X.env=(d_,eval e X.env) :: i_ es X.env:=by kernel_rfl) (hpl:(Lr pos (i_ es X.env)).any (·.1)=d_:=by kernel_rfl):FE X (.Call (.Name "any" p) (e :: es) [] pos) (fB1 AH ga) :=
 cY (eM uY hg hm (by decide +kernel) ha.h (by decide) (by decide) he hpl) fun σ H Q ρ E o=>⟨ρ,E,OutA.bind o fun ds vs H1 e1 rs o1=>by
  unfold AH at o1;split at o1
  · rename_i xs;split at o1
    · rename_i bs hb;obtain ⟨v,rfl,r⟩:=dZ rs;obtain ⟨a,ws,rfl,h1,h2⟩:=r.lstE;exact ⟨a,ws,bs,xs,rfl,h1,h2,hb,hc,o1 _ H1 (.refl H1) rfl⟩
    · exact o1.elim
  · exact o1.elim⟩
end
section
variable {prog:r_} {w:E_} {A:G_} {E:g_→h_→Prop} {s:h_}
end
section
variable {prog:r_} {w:E_} {A:G_} {E:g_→h_→Prop} {s:h_}
end
theorem yY {tst:Option FnB} {elt:FnE} {cap:Ev}:∀ ds:List Dv,tZ tst elt cap ds=iW (gN 0) tst elt cap ds
 | []=>rfl
 | d :: ds=>by
  unfold tZ iW;rw [yY ds];rfl
theorem AI (cs:List (Str×Nat)) (src:FnA) (tst:Option FnB) (fe:FnE):cq cs src tst fe=bB 1 cs src (gN 0) tst fe:=by
 funext ρ;show bnd (src ρ) _=bnd (src ρ) _;congr 1;funext ds;rw [yY];rfl
theorem AJ {X:Cx} {st:LY} {i:Nat} {fc:FnE} (h:PS X st (tC X i fc)) (hl:∀ ρ d,fc ρ=a_ (.ok d)→∃ ys,d=.lst ys):FS X st (aL i fc):=⟨fun f' s σ H D I ⟨ρ,E,o⟩=>by
 refine h f' s σ H D I ⟨ρ,E,?_⟩;unfold aL at o
 match hf:fc ρ with
 | none=>rw [hf] at o; exact o.elim
 | some (.exc c)=>rw [hf] at o; exact o
 | some (.ok d) =>
  rw [hf] at o;obtain ⟨ys,rfl⟩:=hl ρ d hf;exact ⟨ys,rfl,fun H5 p vs e5 hp rs=>o _ _ (e5.trans (aE hp _)) ((E.mono (e5.trans (aE hp _))).set ⟨p,vs,rfl,aA,Reps.mono (aE hp _) _ _ rs⟩)⟩⟩
end FD
namespace ST
open PySem PySem.SetTable PyProof.Rows
def SetS (prog:r_) (w:E_) (h:K5) (S:k_) (ks:List Str):Prop :=
 ∃ o es ep t,h.get? S=a_ o∧o.ExactSet∧o.data=.set es ep t∧t.fits es.size=c_∧ks.length≤60∧t.led=(!byT w)∧(es.size≠0→t.plain=d_)∧ElemsOf (PySem.strKind prog w) es.toList∧(∀ e∈es.toList,∃ x t,e.2=.str x t)∧(es.toList.map fun e=>strOf e.2).Perm ks
section
variable {prog:r_} {w:E_} {A:G_} {E:g_→h_→Prop} {s:h_}
end
section
variable {prog:r_} {w:E_} {A:G_} {R:QL→h_→Prop} {I:k_} {fp wr:List k_} {G:Array OO→Array OO→Prop} {n:Nat} {P:Nat→g_→Prop} {St:Nat→h_→Prop}
theorem SetS.moved {h h':K5} {S:k_} {ks:List Str} (x:SetS prog w h S ks) (hS:∀ o,h.get? S=a_ o→h'.get? S=a_ o):SetS prog w h' S ks:=by
 obtain ⟨o,es,ep,t,ho,r⟩:=x;exact ⟨o,es,ep,t,hS _ ho,r⟩
end
section
variable {prog:r_} {w:E_} {A:G_} {E:g_→h_→Prop} {s:h_}
end
section
variable {prog:r_} {w:E_} {A:G_} {E:g_→h_→Prop}
variable {s:h_}
structure Rd (w:E_) (h:K5) (S:k_) (es:Array (Int×g_)) (ep:Nat) (t:SetTable):Prop where
 o:∃ o,h.get? S=a_ o∧o.ExactSet∧o.data=.set es ep t
 f:t.fits es.size=c_
 l:t.led=(!byT w)
 p:es.size≠0→t.plain=d_
theorem Rd.moved {h h':K5} {S:k_} {es:Array (Int×g_)} {ep:Nat} {t:SetTable} (r:Rd w h S es ep t) (k:∀ o,h.get? S=a_ o→h'.get? S=a_ o):Rd w h' S es ep t:=by
 obtain ⟨⟨o,ho,hr⟩,h1,h2,h3⟩:=r;exact ⟨⟨o,k _ ho,hr⟩,h1,h2,h3⟩
end
section
variable {prog:r_} {w:E_} {A:G_} {E:g_→h_→Prop} {s:h_}
structure Wk (prog:r_) (w:E_) (S I:k_) (h:K5) (h':K5) (es:Array (Int×g_)) (vs:List g_) (fp:List k_) (St:Nat→K5→Prop):Prop where
 W:∀ A:G_,A.handled=ck→Walks prog w A I fp [I] vs.length (fun i v=>vs[i]?=a_ v) St
 st:St 0 h'
 pm:vs.Perm (es.toList.map (·.2))
 up:∀ b o,h.get? b=a_ o→h'.get? b=a_ o
 nw:h.objs.size≤I
 fp:∀ b∈fp,(b=S∨h.objs.size≤b)∧b < h'.objs.size
end
section
variable {prog:r_} {w:E_} {A:G_} {E:g_→h_→Prop} {s:h_}
theorem SetS.rd {h:K5} {S:k_} {ks:List Str} (x:SetS prog w h S ks):∃ es ep t,Rd w h S es ep t∧es.size≤60∧(∀ e∈es.toList,∃ x t,e.2=.str x t)∧(es.toList.map fun e=>strOf e.2).Perm ks:=by
 obtain ⟨o,es,ep,t,ho,hex,hd,hf,hk,hl,hp,hel,hs,hm⟩:=x;refine ⟨es,ep,t,⟨⟨o,ho,hex,hd⟩,hf,hl,hp⟩,?_,hs,hm⟩;have:=hm.length_eq;simp at this;omega
end
end ST
namespace FD
open PySem PySem.Spec PyProof.Rows L2
section
variable {X:Cx} {p p2 pos pos2:Pos} {e:F_} {ga:FnA}
end
end FD
namespace TS
open PySem PyProof.Rows
section logic
variable {M:QF} {A:G_} {E:g_→h_→Prop} {J:h_→Prop} {σ α β:Type}
end logic
structure Od (blt:Nat→Nat→Bool):Prop where
 ir:∀ a,blt a a=d_
 tr:∀ a b c,blt a b=c_→blt b c=c_→blt a c=c_
 nt:∀ a b c,blt a c=c_→blt a b=c_∨blt b c=c_
def Lex (blt:Nat→Nat→Bool) (a b:Nat):Prop:=blt a b=c_∨(blt b a=d_∧a < b)
section order
variable {blt:Nat→Nat→Bool}
theorem Od.le (O:Od blt) {a b c:Nat} (h1:blt b a=d_) (h2:blt c b=d_):blt c a=d_:=by
 cases h:blt c a with
 | false=>rfl
 | true =>
  rcases O.nt _ b _ h with q | q
  · rw [q] at h2; cases h2
  · rw [q] at h1; cases h1
theorem Od.lt_le (O:Od blt) {a b c:Nat} (h1:blt a b=c_) (h2:blt c b=d_):blt a c=c_:=by
 rcases O.nt _ c _ h1 with q | q
 · exact q
 · rw [q] at h2; cases h2
theorem Od.le_lt (O:Od blt) {a b c:Nat} (h1:blt b a=d_) (h2:blt b c=c_):blt a c=c_:=by
 rcases O.nt _ a _ h2 with q | q
 · rw [q] at h1; cases h1
 · exact q
theorem Od.as (O:Od blt) {a b:Nat} (h:blt a b=c_):blt b a=d_:=by
 cases h':blt b a with
 | false=>rfl
 | true=>have:=O.tr _ _ _ h h'; rw [O.ir] at this; cases this
theorem Lex.tr (O:Od blt) {a b c:Nat} (h1:Lex blt a b) (h2:Lex blt b c):Lex blt a c:=by
 rcases h1 with h1 | ⟨h1,i1⟩
 · rcases h2 with h2 | ⟨h2,i2⟩
   · exact .inl (O.tr _ _ _ h1 h2)
   · exact .inl (O.lt_le h1 h2)
 · rcases h2 with h2 | ⟨h2,i2⟩
   · exact .inl (O.le_lt h1 h2)
   · exact .inr ⟨O.le h1 h2,by omega⟩
theorem Lex.of_le {a b:Nat} (h:blt b a=d_) (i:a < b):Lex blt a b:=.inr ⟨h,i⟩
end order
structure SB (a₀:Array Sj) (kd:Ra) (p:Nat→Nat) (st:SortSt):Prop where
 sz:(arrOf st).size=a₀.size
 at':∀ k,k < a₀.size→(arrOf st)[k]?=a₀[p k]?
 lt:∀ k,k < a₀.size→p k < a₀.size
 inj:∀ a b,a < a₀.size→b < a₀.size→p a=p b→a=b
 kind:kindOf st=kd
 failed:failedOf st=ck
 pend:Rx st=#[]
def mir (p:Nat→Nat) (i j k:Nat):Nat:=if i≤k∧k < j then p (i + j - 1 - k) else p k
section state
variable {a₀:Array Sj} {kd:Ra} {p:Nat→Nat} {st:SortSt}
end state
section
variable {M:QF} {A:G_} {E:g_→h_→Prop} {J:h_→Prop} {a₀:Array Sj} {kd:Ra} {blt:Nat→Nat→Bool} {p:Nat→Nat} {st:SortSt}
structure Up (blt:Nat→Nat→Bool) (p:Nat→Nat) (n N:Nat):Prop where
 so:∀ a b,a < b→b < n→Lex blt (p a) (p b)
 lo:∀ a,a < n→p a < n
 re:∀ a,n≤a→a < N→p a=a
theorem Up.next (O:Od blt) {n N:Nat} (U:Up blt p n N) (h1:1≤n) (hn:n < N) (h:blt (p n) (p (n - 1))=d_):Up blt p (n + 1) N where
 so:=fun a b hab hb=>by
  by_cases hbn:b < n
  · exact U.so a b hab hbn
  · have hb':b=n:=by omega
    subst hb';have last:Lex blt (p (b - 1)) (p b):=.of_le h (by rw [U.re b (uk _) hn]; exact U.lo _ (by omega));by_cases ha:a=b - 1
    · subst ha; exact last
    · exact (U.so a (b - 1) (by omega) (by omega)).tr O last
 lo:=fun a ha=>by
  by_cases han:a < n
  · have:=U.lo a han; omega
  · have:a=n:=by omega
    subst this;rw [U.re a (uk _) hn];omega
 re:=fun a ha hN=>U.re a (by omega) hN
structure Dn (blt:Nat→Nat→Bool) (p:Nat→Nat) (n N:Nat):Prop where
 so:∀ a b,a < b→b < n→Lex blt (p b) (p a)
 lo:∀ a,a < n→p a < n
 re:∀ a,n≤a→a < N→p a=a
structure Dq (blt:Nat→Nat→Bool) (p:Nat→Nat) (c n N:Nat):Prop where
 cn:c < n
 d1:∀ a b,a < b→b < c→Lex blt (p b) (p a)
 d2:∀ a b,a < c→c≤b→b < n→blt (p b) (p a)=c_
 d3:∀ a b,c≤a→a < b→b < n→blt (p a) (p b)=d_∧blt (p b) (p a)=d_∧p a < p b
 lo:∀ a,a < n→p a < n
 re:∀ a,n≤a→a < N→p a=a
theorem Dq.turn {c n N:Nat} (D:Dq blt p c n N):Dn blt (mir p c n) n N where
 so:=fun a b hab hb=>by
  unfold mir;by_cases hbc:c≤b
  · rw [if_pos ⟨hbc,hb⟩];by_cases hac:c≤a
    · rw [if_pos ⟨hac,by omega⟩];have:=D.d3 (c + n - 1 - b) (c + n - 1 - a) (by omega) (by omega) (by omega);exact .inr ⟨this.2.1,this.2.2⟩
    · rw [if_neg (by omega)];exact .inl (D.d2 a _ (by omega) (by omega) (by omega))
  · rw [if_neg (by omega),if_neg (by omega)];exact D.d1 a b hab (by omega)
 lo:=fun a ha=>by
  unfold mir;split
  · exact D.lo _ (by omega)
  · exact D.lo _ ha
 re:=fun a ha hN=>by
  unfold mir;rw [if_neg (by omega)];exact D.re a ha hN
theorem Dq.one {n N:Nat} (D:Dq blt p (n - 1) n N):Dn blt p n N where
 so:=fun a b hab hb=>by
  by_cases hbc:b < n - 1
  · exact D.d1 a b hab hbc
  · exact .inl (D.d2 a b (by omega) (by omega) hb)
 lo:=D.lo
 re:=D.re
theorem Dn.turn {n N:Nat} (D:Dn blt p n N):Up blt (mir p 0 n) n N where
 so:=fun a b hab hb=>by
  unfold mir;rw [if_pos ⟨Mh _,by omega⟩,if_pos ⟨Mh _,hb⟩];exact D.so _ _ (by omega) (by omega)
 lo:=fun a ha=>by
  unfold mir;rw [if_pos ⟨Mh _,ha⟩];exact D.lo _ (by omega)
 re:=fun a ha hN=>by
  unfold mir;rw [if_neg (by omega)];exact D.re a ha hN
theorem Dn.next (O:Od blt) {n N:Nat} (D:Dn blt p n N) (h1:1≤n) (hn:n < N) (h:blt (p n) (p (n - 1))=c_):Dq blt p n (n + 1) N where
 cn:=by omega
 d1:=D.so
 d2:=fun a b ha hb hb'=>by
  have:b=n:=by omega
  subst this;by_cases e:a=b - 1
  · subst e; exact h
  · rcases D.so a (b - 1) (by omega) (by omega) with q | ⟨q,_⟩
    · exact O.tr _ _ _ h q
    · exact O.lt_le h q
 d3:=fun a b ha hab hb=>by omega
 lo:=fun a ha=>by
  by_cases han:a < n
  · have:=D.lo a han; omega
  · have:a=n:=by omega
    subst this;rw [D.re a (uk _) hn];omega
 re:=fun a ha hN=>D.re a (by omega) hN
theorem Dq.next (O:Od blt) {c n N:Nat} (D:Dq blt p c n N) (hn:n < N) (h1:blt (p n) (p (n - 1))=d_) (h2:blt (p (n - 1)) (p n)=d_):Dq blt p c (n + 1) N where
 cn:=by have:=D.cn; omega
 d1:=D.d1
 d2:=fun a b ha hb hb'=>by
  by_cases hbn:b < n
  · exact D.d2 a b ha hb hbn
  · have:b=n:=by omega
    subst this;exact O.le_lt h2 (D.d2 a (b - 1) ha (by have:=D.cn; omega) (by omega))
 d3:=fun a b ha hab hb=>by
  by_cases hbn:b < n
  · exact D.d3 a b ha hab hbn
  · have:b=n:=by omega
    subst this;have hlt:p a < p b:=by
     have:=D.lo a (by omega);rw [D.re b (uk _) hn];exact this
    by_cases e:a=b - 1
    · subst e; exact ⟨h2,h1,hlt⟩
    · obtain ⟨q1,q2,_⟩:=D.d3 a (b - 1) ha (by omega) (by omega);exact ⟨O.le h2 q1,O.le q2 h1,hlt⟩
 lo:=fun a ha=>by
  by_cases han:a < n
  · have:=D.lo a han; omega
  · have:a=n:=by omega
    subst this;rw [D.re a (uk _) hn];omega
 re:=fun a ha hN=>D.re a (by omega) hN
end
section
variable {M:QF} {A:G_} {E:g_→h_→Prop} {J:h_→Prop} {a₀:Array Sj} {kd:Ra} {blt:Nat→Nat→Bool} {p:Nat→Nat} {st:SortSt}
structure Ke (a₀:Array Sj) (blt:Nat→Nat→Bool) (p:Nat→Nat) (xs:Array Sj):Prop where
 sz:xs.size=a₀.size
 at':∀ k,k < a₀.size→xs[k]?=a₀[p k]?
 lt:∀ k,k < a₀.size→p k < a₀.size
 inj:∀ a b,a < a₀.size→b < a₀.size→p a=p b→a=b
 so:∀ a b,a < b→b < a₀.size→Lex blt (p a) (p b)
def Dne (a₀:Array Sj) (blt:Nat→Nat→Bool) (st:SortSt):Prop:=∃ p,Ke a₀ blt p (arrOf st)∧failedOf st=ck∧Rx st=#[(0,a₀.size,0)]
theorem SB.done (B:SB a₀ kd p st) (U:Up blt p a₀.size a₀.size):Dne a₀ blt (setPending st ((Rx st).push (0,a₀.size,0))) :=
 ⟨p,⟨B.sz,B.at',B.lt,B.inj,U.so⟩,B.failed,by show (Rx st).push _=_; rw [B.pend]; rfl⟩
end
section
variable {prog:r_} {w:E_} {A:G_} {E:g_→h_→Prop} {s:h_} {blt:Nat→Nat→Bool} {Kd:Ra→Prop}
end
end TS
namespace TS
open PySem PySem.Spec PyProof.Rows L2
def Ei (h:K5) (A:G_) (z:Bool) (p q:g_) (e l:Bool):Prop:=∀ (prog:r_) (w:E_) (E:g_→h_→Prop) (s:h_),s.heap=h →
 (∀ Q:Bool→h_→Prop,Q e s→w_ (z_ prog w) A (eqBool p q) Q E s)∧(∀ (b:Bool) (Q:Bool→h_→Prop),(b=c_→z=c_)→Q l s→w_ (z_ prog w) A (oneLt' b p q) Q E s)
inductive AK (h:K5) (A:G_):Bool→List (g_×g_)→List (Bool×Bool)→Prop
 | nil {z:Bool}:AK h A z [] []
 | cons {z:Bool} {p q:g_} {e l:Bool} {ps:List (g_×g_)} {rs:List (Bool×Bool)}:Ei h A z p q e l→AK h A d_ ps rs→AK h A z ((p,q) :: ps) ((e,l) :: rs)
section
variable {prog:r_} {w:E_} {A:G_} {E:g_→h_→Prop} {s:h_}
inductive uZ (h:K5):List g_→List g_→Prop
 | nil:uZ h [] []
 | cons {a:k_} {xs:Array g_} {f:g_} {vs fs:List g_}:h.IsTuple a xs→xs[0]?=a_ f→uZ h vs fs→uZ h (.ref a :: vs) (f :: fs)
end
def Ej (p q:g_) (e l:Bool):Prop:=∀ (prog:r_) (w:E_) (A:G_) (E:g_→h_→Prop) (s:h_),
 (∀ Q:Bool→h_→Prop,Q e s→w_ (z_ prog w) A (eqBool p q) Q E s)∧(∀ Q:g_→h_→Prop,Q (.bool l) s→w_ (z_ prog w) A (richCompare .Lt p q) Q E s)
inductive u0:List (g_×g_)→List (Bool×Bool)→Prop
 | nil:u0 [] []
 | cons {p q:g_} {e l:Bool} {ps:List (g_×g_)} {rs:List (Bool×Bool)}:Ej p q e l→u0 ps rs→u0 ((p,q) :: ps) ((e,l) :: rs)
section
open PySem.SeqAt
open PySem.AutoSeq1 (wpAny_loadPart')
open PySem.MeetsSeq PySem.MeetsSeq2 PySem.MeetsSeq3
end
end TS
namespace TS
open PySem PyProof.Rows FD
theorem Lex.as {blt:Nat→Nat→Bool} (O:Od blt) {a b:Nat} (h:Lex blt a b) (h':Lex blt b a):False:=by
 have:=h.tr O h';rcases this with q | q
 · rw [O.ir] at q; cases q
 · omega
section
variable {prog:r_} {w:E_} {A:G_} {E:g_→h_→Prop} {s:h_}
end
section
variable {prog:r_} {w:E_} {A:G_} {E:g_→h_→Prop} {s:h_} {blt:Nat→Nat→Bool}
end
end TS
namespace FD
open PySem PySem.Spec PyProof.Rows L2 TS
section
variable {X:Cx} {f':List (k_×Obj)} {σ:L2.St} {H:Hp} {s:h_}
end
section
variable {X:Cx} {f':List (k_×Obj)} {σ:L2.St} {H:Hp} {s:h_}
end
section
variable {X:Cx} {p pos:Pos} {e:F_} {es:List F_} {ga:FnA}
end
end FD
namespace FD
open PySem PySem.Spec PyProof.Rows L2 PySem.W
section
variable {X:Cx} {hx:F_} {body:List LY} {f:FnS} {g:FnE} {J n:Str} {CJ:k_} {np rp2 hpos pos:Pos}
end
end FD
namespace FD
open PySem PySem.Spec PyProof.Rows L2 TS
section
variable {X:Cx} {f':List (k_×Obj)} {σ:L2.St} {H:Hp} {s:h_} {k:Nat} {f:k_} {fd:LK} {ps:List Str} {F:List Dv→Option (Rs Dv)} {A':G_} {E:g_→h_→Prop}
end
end FD
namespace TS
open PySem PyProof.Rows FD
section
variable {prog:r_} {w:E_} {A:G_} {E:g_→h_→Prop} {s:h_} {blt:Nat→Nat→Bool}
end
end TS
namespace FD
open PySem PySem.Spec PyProof.Rows L2 TS
section
variable {X:Cx} {f':List (k_×Obj)} {σ:L2.St} {H:Hp} {s:h_} {k:Nat} {f:k_} {fd:LK} {ps:List Str} {F:List Dv→Option (Rs Dv)} {A':G_} {E:g_→h_→Prop}
end
section
variable {X:Cx} {f':List (k_×Obj)} {σ:L2.St} {H:Hp} {s:h_} {k:Nat} {f:k_} {fd:LK} {ps:List Str} {F:List Dv→Option (Rs Dv)} {A':G_} {E:g_→h_→Prop}
end
section
variable {X:Cx} {f':List (k_×Obj)} {σ:L2.St} {H:Hp} {s:h_} {k:Nat} {f:k_} {fd:LK} {ps:List Str} {F:List Dv→Option (Rs Dv)} {E:g_→h_→Prop}
end
section
variable {X:Cx} {k' n:Nat} {ps:List Str} {x:Str} {p p2 kp pos:Pos} {e:F_} {F:List Dv→Option (Rs Dv)} {g:FnA}
end
end FD
namespace FD
open PySem PySem.Spec PyProof.Rows L2
section
variable {X:Cx} {p pos:Pos} {e:F_} {es:List F_} {ga:FnA}
end
end FD
namespace TS
open PySem PySem.Spec PyProof.Rows L2 FD
def okF (ks:List Nat):Bool:=ks.all fun k=>k != 0 && q_ (k < 4)
end TS
namespace FD
open PySem PySem.Spec PyProof.Rows L2 TS
section
variable {X:Cx}
end
end FD
namespace FD
open PySem PySem.Spec PyProof.Rows L2
def aq (X:Cx) (N:List Str) (scope:Me) (C:k_) (s:h_) (H:Hp) (fp:List k_):Cx :=
 { X with N:=N,s₀:=s,H₀:=H,env:=Q0 scope (Lq (C + 1) scope.names (jt scope.names X.env [])) C X.env,outer:=X.stack,stack:=X.stack,ex:=fp,fn:=fun y=>scope.names.lookup y == a_ .cell,pn:=[],xe:=fun _ _=>False }
structure iF (osc scope:Me) (cs:List (Str×Nat)) (N:List Str):Prop where
 kind:scope.kind=.function
 one:∀ y∈scope.names,y.2=.cell→scope.names.lookup y.1=a_ .cell
 names:∀ y∈scope.names,y.2=.local→scope.names.lookup y.1=a_ .local
 free:∀ y∈scope.names,y.2=.free→osc.names.lookup y.1=a_ .cell∨osc.names.lookup y.1=a_ .free
 caps:∀ c∈cs,N[c.2]?=a_ c.1∧scope.names.lookup c.1=a_ .free
theorem iY:∀ (names:List (Str×MX)) (lo:Nat) (acc:List (Str×k_)),Lq lo names acc=Lq lo names [] ++ acc
 | [],_,_=>rfl
 | (n,k) :: r,lo,acc=>by
  unfold Lq;split
  · rw [iY r (lo + 1) ((n,lo) :: acc),iY r (lo + 1) [(n,lo)],O6]; rfl
  · exact iY r lo acc
theorem u5:∀ {names:List (Str×MX)} {lo:Nat} {n:Str} {c:k_},(n,c)∈Lq lo names []→(n,Mp)∈names
 | [],_,_,_,h=>(nomatch h)
 | (m,k) :: r,lo,n,c,h=>by
  unfold Lq at h;split at h
  · rename_i hk;rw [iY] at h;rcases K8.mp h with q | q
    · exact pi _ (u5 q)
    · have e:n=m:=by simp at q; exact q.1
      have ek:k=.cell:=by simpa using hk
      subst e ek;exact o_
  · exact pi _ (u5 h)
theorem qV:∀ {names:List (Str×MX)} {lo:Nat} {n:Str},(n,Mp)∈names→((Lq lo names []).lookup n).isSome=c_
 | [],_,_,h=>(nomatch h)
 | (m,k) :: r,lo,n,h=>by
  unfold Lq;rcases rl.mp h with e | q
  · cases e;rw [if_pos (by decide),iY,M_];cases hl:(Lq (lo + 1) r []).lookup m with
    | some _=>rfl
    | none=>simp
  · split
    · rw [iY,M_];have:=qV (lo:=lo + 1) q;cases hl:(Lq (lo + 1) r []).lookup n with
      | some _=>rfl
      | none=>rw [hl] at this; cases this
    · exact qV q
theorem AM {M:QF} {A:G_} {E:g_→h_→Prop} {s:h_} {scope:Me} {globals:k_} {cl:List (Str×k_)} {qual:Str} {env:Env} {Q:Env→h_→Prop} (hk:scope.kind=.function)
 (hQ:Q (newEnv scope s.heap.objs.size globals (Lq (s.heap.objs.size + 1) scope.names cl) qual ck .none (a_ env) QG) { s with heap:=pushCells (s.heap.push { cls:=.type "dict",data:=.dict #[] }) scope.names }) :
 w_ M A (P9 scope globals cl [] qual ck .none (a_ env)) Q E s:=by
 simp only [P9,Option.isSome_some,if_true];refine f_ (wpAny_alloc ?_);refine f_ (wpAny_layCells _ (fun name kind cells=>by cases hkc:kind == Mp <;> simp [hkc]) _ _ _ _ ?_);rw [show ({ s with heap:=s.heap.push { cls:=.type "dict",data:=.dict #[] } }:h_).heap.objs.size=s.heap.objs.size + 1 from Lv ..];refine f_ ?_;rw [Qk];exact m_ (m_ hQ)
theorem u8 {X:Cx} {f':List (k_×Obj)} {σ:L2.St} {H:Hp} {s:h_} {scope:Me} {ns:List Str} {cs:List (Str×Nat)} {fp:List k_} {h₁:K5} {C:k_} {t':Nat} (ok:iF X.env.scope scope cs X.N) (I:Inv X f' σ H s) (hfp:∀ b∈fp,sW X f' H b) (hlt:∀ b∈fp,b < s.heap.objs.size)
 (hC:s.heap.objs.size≤C) (hns:h₁.Ns C fun _=>ck) (old:∀ b o,s.heap.get? b=a_ o→h₁.get? b=a_ o) (hck:CellsOk h₁ (C + 1) (Lq (C + 1) scope.names [])) :
 Inv (aq X (ns ++ cs.map (·.1)) scope C s H fp) [] (nA ns.length cs σ) H { s with heap:=h₁,toks:=t' }:=by
 have cl1:∀ n c,(jt scope.names X.env []).lookup n=a_ c→X.env.cells.lookup n=a_ c:=fun n c e=>by
  rcases lr _ _ e with q | ⟨q1,q2⟩
  · simp at q
  · obtain ⟨c',e'⟩:=I.ok.has n (ok.free _ q1 rfl);rw [e'] at q2;rw [e',q2] <;> rfl
 have lk:∀ n c,(aq X (ns ++ cs.map (·.1)) scope C s H fp).env.cells.lookup n=a_ c→(n,c)∈Lq (C + 1) scope.names []∨((n,Mp) ∉ scope.names∧(jt scope.names X.env []).lookup n=a_ c):=fun n c e=>by
  have e':(Lq (C + 1) scope.names (jt scope.names X.env [])).lookup n=a_ c:=e;rw [iY,M_] at e';cases hl:(Lq (C + 1) scope.names []).lookup n with
  | some c'=>rw [hl] at e'; cases e'; exact .inl (mem_of_lookup hl)
  | none =>
   rw [hl] at e';refine .inr ⟨fun hm=>?_,e'⟩;have:=qV (lo:=C + 1) hm;rw [hl] at this;cases this
 have lk2:∀ n c,(n,Mp) ∉ scope.names→(jt scope.names X.env []).lookup n=a_ c→(aq X (ns ++ cs.map (·.1)) scope C s H fp).env.cells.lookup n=a_ c:=fun n c hm e=>by
  show (Lq (C + 1) scope.names (jt scope.names X.env [])).lookup n=a_ c;rw [iY,M_];cases hl:(Lq (C + 1) scope.names []).lookup n with
  | some c'=>exact absurd (u5 (mem_of_lookup hl)) hm
  | none=>exact e
 have big:∀ n c,(n,c)∈Lq (C + 1) scope.names []→s.heap.objs.size < c:=fun n c hm=>H_ (Nat.lt_succ_of_le hC) (hck.empty n c hm).2;have low:∀ n c,(jt scope.names X.env []).lookup n=a_ c→c < s.heap.objs.size:=fun n c e=>by
  obtain ⟨v,o,ho,_⟩:=I.cell n c (cl1 n c e);exact t_ ho
 have inj:∀ y z c,(aq X (ns ++ cs.map (·.1)) scope C s H fp).env.cells.lookup y=a_ c→(aq X (ns ++ cs.map (·.1)) scope C s H fp).env.cells.lookup z=a_ c→y=z:=fun y z c e1 e2=>by
  rcases lk y c e1 with p | ⟨_,p⟩ <;> rcases lk z c e2 with q | ⟨_,q⟩
  · exact name_of_addr hck.apart p q
  · exact absurd (PF (big y c p) (low z c q)) (Mc _)
  · exact absurd (PF (big z c q) (low y c p)) (Mc _)
  · exact I.ok.inj y z c (cl1 y c p) (cl1 z c q)
 refine ⟨⟨I.ok.mod,ok.kind,I.ok.glob,I.ok.blt,hC,inj,fun y hy=>?_,fun y c hfn e=>?_,I.ok.hd,I.ok.frames,.inl rfl,fun b hb=>⟨fun z=>?_,fun y c e=>?_⟩,I.bs,K0 I.ok.bsz I.sz,fun b o e hb=>?_,fun b hb z=>?_,I.stack,I.stkFree⟩,
  rfl,I.bare,Un.kept old,⟨_,hns,fun i y v h1 h2 h3=>?_⟩,fun y c e=>?_,I.hok.fresh hC,fun y c e=>?_,fun p hp=>absurd (show p∈([]:List (k_×Obj)) from hp) (by simp),I.hok.kept old,by simp [nA,aq]⟩
 · have hm:(y,Mp)∈scope.names∨(y,Mb)∈scope.names:=by
    rcases hy with hy | hy
    · rcases jP hy with q | ⟨_,q⟩
      · exact .inl q
      · exact .inr q
    · rcases jP hy with q | ⟨q,_⟩
      · exact .inr q
      · cases q
   by_cases hcl:(y,Mp)∈scope.names
   · obtain ⟨c,hc'⟩:=MP.mp (qV (lo:=C + 1) hcl);refine ⟨c,?_⟩;show (Lq (C + 1) scope.names (jt scope.names X.env [])).lookup y=a_ c;rw [iY,M_,hc'];rfl
   · obtain ⟨c,hc'⟩:=MP.mp (lS (env:=X.env) scope.names [] (hm.resolve_left hcl));exact ⟨c,lk2 y c hcl hc'⟩
 · have hfn':scope.names.lookup y=a_ .cell:=by simpa [aq] using hfn
   rcases lk y c e with p | ⟨p,_⟩
   · exact N2 (big y c p)
   · exact absurd (fU hfn') p
 · have:=hlt b hb;rw [z] at this;exact absurd (H_ this hC) (Mc _)
 · rcases lk y c e with p | ⟨_,p⟩
   · exact fun z=>absurd (PF (big y c p) (z ▸ hlt b hb)) (Mc _)
   · exact (hfp b hb).2.2.2.2.1 y c (cl1 y c p)
 · rcases (hfp b hb).2.2.2.1 with z | z
   · exact I.ok.noex b o e z
   · exact absurd (H_ (t_ e) (K0 I.ok.bsz z)) (Mc _)
 · rcases rl.mp (I.stkSub b z) with q | q
   · exact (hfp b hb).2.1 q
   · exact (hfp b hb).2.2.1 q
 · obtain ⟨k,rfl,h4⟩:=nB h2;have h1':(ns ++ cs.map (·.1))[ns.length + k]?=a_ y:=h1;rw [LO (by simp)] at h1';simp only [Pp] at h1';rw [Lx] at h1';cases hc:cs[k]? with
   | none=>rw [hc] at h1'; simp at h1'
   | some c =>
    rw [hc] at h1';have ey:c.1=y:=by simpa using h1'
    subst ey;rw [Lx,hc] at h4;simp only [NG,Rb] at h4;have h2':σ[c.2]?=a_ (a_ v):=by
     cases q:σ[c.2]? with
     | none=>rw [q] at h4; simp at h4
     | some o=>rw [q] at h4; simp at h4; rw [h4]
    obtain ⟨hN,hf⟩:=ok.caps c (LN hc);have hv:=ok.free _ (fU hf) rfl;obtain ⟨mm,_,hl⟩:=I.loc;obtain ⟨u,r,l⟩:=hl c.2 c.1 v hN h2' (.inr hv);refine ⟨u,r,.inr ⟨jQ hf,?_⟩⟩;rcases l with ⟨l,_⟩ | ⟨_,a,ha,o,ho,hd⟩
    · have l':X.env.scope.names.lookup c.1=a_ .local:=l;rcases hv with z | z
      · rw [l'] at z; cases z
      · rw [l'] at z; cases z
    · obtain ⟨a',ha'⟩:=MP.mp (lS (env:=X.env) scope.names [] (fU hf));have e2:=cl1 _ _ ha';rw [ha] at e2;cases e2;exact ⟨a,lk2 _ _ (fun hm=>by have z:=ok.one _ hm rfl; rw [hf] at z; cases z) ha',o,old _ _ ho,hd⟩
 · rcases lk y c e with p | ⟨_,p⟩
   · exact ⟨ck,(hck.empty y c p).1⟩
   · obtain ⟨v,o,ho,hd⟩:=I.cell y c (cl1 y c p);exact ⟨v,o,old _ _ ho,hd⟩
 · rcases lk y c e with p | ⟨_,p⟩
   · exact I.hok.fresh (N2 (big y c p))
   · exact I.freeC y c (cl1 y c p)
def Ek (X:Cx) (ns:List Str) (cs:List (Str×Nat)) (scope:Me) (D:k_) (s2:h_) (H2:Hp) (fp:List k_) (tn:Nat→K5→Prop) (ds ys:List Dv) (b:Dv→Ev→Option Ev) (tst:Option FnB) (fe:FnE) (ρ:Ev) (m:Nat) (s':h_):Prop :=
 ∃ i σ' H' es vs its,m=ds.length - i∧i≤ds.length∧Inv (aq X (ns ++ cs.map (·.1)) scope (D + 1) s2 H2 fp) [] σ' H' s'∧Envs X.K H' σ' (gq ns.length cs ρ)∧tn i s'.heap∧(∀ b∈fp,H' b=ck)∧H' D=ck∧LAt s'.heap D its∧Vals vs its∧Reps X.K H' es vs∧es.length≤i∧Same H2 H' ∧
  (match iW b tst fe (gq ns.length cs ρ) (ds.drop i) with | some zs=>es ++ zs=ys | none=>False)
theorem jz {X:Cx} {f':List (k_×Obj)} {σ:L2.St} {tg elt iter:F_} {ifs:List F_} {scope:Me} {pos:Pos} {ns:List Str} {tst:Option FnB} {fe:FnE} {b:Dv→Ev→Option Ev} {js:List Nat} (cs:List (Str×Nat)) (ok:iF X.env.scope scope cs X.N) (hc:X.calm=c_)
 (htg:∀ C s H fp,FG (aq X (ns ++ cs.map (·.1)) scope C s H fp) tg b) (helt:∀ C s H fp,(∃ f' σ,Inv X f' σ H s)→FE (aq X (ns ++ cs.map (·.1)) scope C s H fp) elt fe) (hifs:∀ C s H fp,(∃ f' σ,Inv X f' σ H s)→rK (aq X (ns ++ cs.map (·.1)) scope C s H fp) ifs tst)
 (hback:∀ ρ d ρ',b d (gq ns.length cs ρ)=a_ ρ'→fgt js ρ'=gq ns.length cs ρ)
 {ρ:Ev} {s2:h_} {it:k_} {fp:List k_} {tn:Nat→K5→Prop} {J:It} {H2:Hp} (E:Envs X.K H2 σ ρ) (I2:Inv X f' σ H2 s2) (T:wt X.prog X.w X.K tg J fp it tn) (st2:tn 0 s2.heap) (f2:∀ b∈fp,sW X f' H2 b) {ds ys:List Dv} (wk:WkG X.K J ds H2) (hdl:ds.length≤100000) (hyl:ys.length≤100000) (hm:iW b tst fe (gq ns.length cs ρ) ds=a_ ys)
 {RR:g_→k_→QL→h_→Prop}
 (hRR:∀ (D C:k_) (s6:h_) (H5:Hp) (vs:List V) (m6:Str→Option g_),Inv X f' σ (upd H5 D (.lst vs)) s6→H5 D=ck→Same H2 H5→Reps X.K H5 ys vs→s6.heap.Ns C m6→H5 C=ck→C≠D→s2.heap.objs.size≤C→RR (.ref D) C (.ok .next) s6) :
 w_ (z_ X.prog X.w) X.A (newList []) (fun acc s₃=>w_ (z_ X.prog X.w) X.A (P9 scope X.env.globals (jt scope.names X.env []) [] X.env.qual ck .none (a_ X.env)) (fun cenv s₄ =>
  NV (z_ X.prog X.w) X.A (.compStart (.ListComp elt [⟨tg,iter,ifs,0⟩] scope pos) 0 (.ref it) acc { cenv with scope:=relabel scope X.env }) (RR acc cenv.locals) s₄) X.xe s₃) X.xe s2:=by
 have fplt:∀ b∈fp,b < s2.heap.objs.size:=fun b hb=>by
  obtain ⟨o,ho,_⟩:=T.obj _ _ st2 b hb;exact t_ ho
 refine Mt (AM ok.kind ?_);dsimp only;generalize hH2:s2.heap.push { cls:=.type "list",dict:=ck,data:=.seq ([]:List g_).toArray }=P2;obtain ⟨D,hD⟩:∃ D,s2.heap.objs.size=D:=⟨_,rfl⟩;have hC:P2.objs.size=D + 1:=by rw [← hH2,Lv,hD]
 rw [hC,hD];obtain ⟨h₁,hh₁⟩:∃ h,h=pushCells (P2.push { cls:=.type "dict",data:=.dict #[] }) scope.names:=⟨_,rfl⟩;rw [← hh₁];have kp:∀ b o,P2.get? b=a_ o→h₁.get? b=a_ o:=fun b o e=>by rw [hh₁]; exact pushCells_keeps _ _ b o (j_ _ e)
 have old:∀ b o,s2.heap.get? b=a_ o→h₁.get? b=a_ o:=fun b o e=>kp b o (hH2 ▸ j_ _ e);have hacc:LAt h₁ D []:=⟨0,kp _ _ (by rw [← hH2,← hD]; exact B_ _ rfl)⟩;have hns:h₁.Ns (D + 1) fun _=>ck:=by
  rw [hh₁,← hC];exact (Heap.Ns.new P2 (.type "dict")).keeps (pushCells_keeps _ _)
 have hck:CellsOk h₁ (D + 1 + 1) (Lq (D + 1 + 1) scope.names []):=by
  have q:=cellsFrom_ok scope.names (P2.push { cls:=.type "dict",data:=.dict #[] }) (D + 1 + 1) [] ⟨fun _ _ hm=>(nomatch hm),N4⟩ (by rw [Lv,hC]; exact uk _);rw [Lv,hC,← hh₁] at q;exact q
 have I4:Inv (aq X (ns ++ cs.map (·.1)) scope (D + 1) s2 H2 fp) [] (nA ns.length cs σ) H2 { s2 with heap:=h₁ }:=u8 (t':=s2.toks) ok I2 f2 fplt (by rw [hD]; exact Qg D) hns old hck;have E4:Envs X.K H2 (nA ns.length cs σ) (gq ns.length cs ρ):=ug ns.length cs E;have HD:H2 D=ck:=I2.hok.fresh (N3 hD);have fpD:∀ b∈fp,b≠D:=fun b hb=>zN (hD ▸ fplt b hb);have loop:∀ s4:h_,s4={ s2 with heap:=h₁ } →
  NV (z_ X.prog X.w) X.A (.compLoop (.ListComp elt [⟨tg,iter,ifs,0⟩] scope pos) 0 (.ref it) (.ref D) (Q0 scope (Lq (D + 1 + 1) scope.names (jt scope.names X.env [])) (D + 1) X.env)) (RR (.ref D) (D + 1)) s4:=by
  rintro s4 rfl;refine nF (fun k s'=>Ek X ns cs scope D s2 H2 fp tn ds ys b tst fe ρ k s') ?_ ds.length ⟨0,nA ns.length cs σ,H2,[],[],[],by simp,Mh _,I4,E4,T.keep _ _ _ st2 fun b hb o e=>old b o e,fun b hb=>(f2 b hb).1,HD,hacc,.nil,rfl,uk _,.refl H2,by rw [Ql,hm]; rfl⟩;rintro k0 s5 ⟨i,σ5,H5,es,vs,its,rfl,hi5,I5,E5,t5,fr5,D5,l5,v5,r5,hel,e5,hz⟩;have nC:∀ b∈fp,b≠D + 1:=fun b hb=>CU (hD ▸ fplt b hb);have DL:D≠(aq X (ns ++ cs.map (·.1)) scope (D + 1) s2 H2 fp).env.locals:=Ji;have Dcell:∀ y c,(aq X (ns ++ cs.map (·.1)) scope (D + 1) s2 H2 fp).env.cells.lookup y=a_ c→c≠D:=fun y c e z=>by
   obtain ⟨v,o,ho,hd⟩:=I5.cell y c e;obtain ⟨n,q⟩:=l5;subst z;rw [q] at ho;cases ho;cases hd
  have Dfs:D ∉ (aq X (ns ++ cs.map (·.1)) scope (D + 1) s2 H2 fp).fs:=fun z=>by
   rcases rl.mp (I2.stkSub D z) with q | q
   · have z2:=I2.lt;rw [hD] at z2;exact zN z2 q.symm
   · exact I2.nofs (N3 hD) q
  have Dp:sW (aq X (ns ++ cs.map (·.1)) scope (D + 1) s2 H2 fp) [] H5 D:=⟨D5,DL,Dfs,.inr (N3 hD),Dcell,fun p hp=>absurd (show p∈([]:List (k_×Obj)) from hp) (by simp)⟩;have Dob:∀ b∈[D],∃ o,s5.heap.get? b=a_ o∧∀ v,o.data≠.cell v:=fun b hb=>by
   have e:b=D:=by simpa using hb
   subst e;obtain ⟨n,q⟩:=l5;exact ⟨_,q,fun v z=>by cases z⟩
  have I5p:Inv (aq X (ns ++ cs.map (·.1)) scope (D + 1) s2 H2 fp) (eI [D] s5.heap) σ5 H5 s5:=by
   have q:=I5.pinned (fp:=[D]) (fun b hb=>by
    have e:b=D:=by simpa using hb
    subst e; exact Dp) Dob
   rw [RN] at q;exact q
  have ner:∀ b∈fp,∀ p∈eI [D] s5.heap,p.1≠b:=fun b hb p hp z=>by
   have e:p.1=D:=by simpa using (kf hp).1
   exact fpD b hb (z.symm.trans e)
  have fp5':∀ b∈fp,sW (aq X (ns ++ cs.map (·.1)) scope (D + 1) s2 H2 fp) (eI [D] s5.heap) H5 b:=fun b hb=>⟨fr5 b hb,nC b hb,I4.ok.exfs b hb,.inl hb,(I4.ok.exf b hb).2,fun p hp=>ner b hb p (by simpa [aq] using hp)⟩;have lenR:vs.length=es.length:=r5.length;have lenV:vs.length=its.length:=v5.length;by_cases hlt:i < ds.length
  · refine thn (T.item (aq X (ns ++ cs.map (·.1)) scope (D + 1) s2 H2 fp) rfl rfl rfl hc i (eI [D] s5.heap) s5 σ5 H5 _ I5p fp5' t5 (wk.go i H5 e5 hlt)) fun r s6 ⟨u,hr,h6⟩=>?_;subst hr;refine thn h6 fun _ s7 ⟨xv,H7,I7,r7,y7,t7,fr7⟩=>?_;obtain ⟨e57,d,hd,rd⟩:=wk.yld i H5 xv H7 e5 hlt y7;rw [iT hd] at hz;have I7p:=I7.pinned (fp:=fp) (fun b hb=>⟨fr7 b hb,nC b hb,I4.ok.exfs b hb,.inl hb,(I4.ok.exf b hb).2,fun p hp=>ner b hb p (by simpa [aq] using hp)⟩) (T.obj _ _ t7);have fin:∀ {σ8:L2.St} {H8:Hp} {s8:h_},Inv (aq X (ns ++ cs.map (·.1)) scope (D + 1) s2 H2 fp) (eI [D] s5.heap ++ eI fp s7.heap) σ8 H8 s8→tn (i + 1) s8.heap∧(∀ b∈fp,H8 b=ck)∧H8 D=ck∧LAt s8.heap D its:=fun {σ8 H8 s8} I8=>by
     refine ⟨T.keep _ _ _ t7 fun b hb o e=>(I8.pin (b,o) (l_ _ (l_ _ (dw hb e)))).1,fun b hb=>?_,?_,?_⟩
     · obtain ⟨o,e,_⟩:=T.obj _ _ t7 b hb;exact (I8.pin (b,o) (l_ _ (l_ _ (dw hb e)))).2.1
     · obtain ⟨n,q⟩:=l5;exact (I8.pin (D,_) (l_ _ (y_ _ (dw (by simp) q)))).2.1
     · obtain ⟨n,q⟩:=l5;exact ⟨n,(I8.pin (D,_) (l_ _ (y_ _ (dw (by simp) q)))).1⟩
    unfold iW at hz
    match hb:b d (gq ns.length cs ρ) with
    | none=>rw [hb] at hz; exact hz.elim
    | some ρd =>
     rw [hb] at hz;dsimp only at hz;refine LD ((htg (D + 1) s2 H2 fp).h _ s7 σ5 H7 xv u d (gq ns.length cs ρ) ρd I7p r7 rd (E5.mono e57) hb) (fun _ s8 ⟨σ8,H8,I8,e78,E8⟩=>?_) fun _ _ z=>Li z;have e58:=e57.trans e78;have back:∀ {σ9:L2.St} {H9:Hp},Envs X.K H9 σ9 ρd→Envs X.K H9 σ9 (gq ns.length cs ρ):=fun {σ9 H9} E9=>by
      have q:=Envs.fgt js E9;rw [hback ρ d ρd hb] at q;exact q
     have took:∀ {H9:Hp} {s9:h_},Inv (aq X (ns ++ cs.map (·.1)) scope (D + 1) s2 H2 fp) (eI [D] s5.heap ++ eI fp s7.heap) σ8 H9 s9→Same H8 H9 →
      (match (match fe ρd with | some (.ok y)=>(match iW b tst fe (gq ns.length cs ρ) (ds.drop (i + 1)) with | some ys=>a_ (y :: ys) | none=>ck) | _=>ck) with | some zs=>es ++ zs=ys | none=>False) →
      w_ (z_ X.prog X.w) X.A (eval elt (Q0 scope (Lq (D + 1 + 1) scope.names (jt scope.names X.env [])) (D + 1) X.env)) (fun xw s₄ =>
       w_ (z_ X.prog X.w) X.A (call (.builtin "list.append") [.ref D,xw]) (fun _ s₅=>∃ k,k < ds.length - i∧Ek X ns cs scope D s2 H2 fp tn ds ys b tst fe ρ k s₅) (Pv (z_ X.prog X.w) X.A (Q0 scope (Lq (D + 1 + 1) scope.names (jt scope.names X.env [])) (D + 1) X.env) fun e s'=>RR (.ref D) (D + 1) (.error e) s') s₄) (Pv (z_ X.prog X.w) X.A (Q0 scope (Lq (D + 1 + 1) scope.names (jt scope.names X.env [])) (D + 1) X.env) fun e s'=>RR (.ref D) (D + 1) (.error e) s') s9:=fun {H9 s9} I9 e9 hz9=>by
      match hfe:fe ρd,hz9 with
      | none,hz9=>exact hz9.elim
      | some (.exc c),hz9=>exact hz9.elim
      | some (.ok y),hz9 =>
       refine LD ((helt (D + 1) s2 H2 fp ⟨_,_,I2⟩).h _ s9 σ8 H9 (fun v H10=>Same H9 H10∧Rep X.K H10 y v) I9 ⟨ρd,E8.mono e9,by rw [hfe]; exact fun v H10 e10 r10=>⟨e10,r10⟩⟩) (fun w s10 ⟨yv,H10,I10,rw10,e10,r10⟩=>?_) fun _ _ z=>Li z;obtain ⟨t10,fr10,D10,l10⟩:=fin I10;refine rJ l10 (by omega) fun h11 l11 k11=>?_;have I10':Inv (aq X (ns ++ cs.map (·.1)) scope (D + 1) s2 H2 fp) (eI fp s7.heap) σ8 H10 s10:=I10.pins_of fun p hp=>I10.pin p (l_ _ (l_ _ hp));have I11:Inv (aq X (ns ++ cs.map (·.1)) scope (D + 1) s2 H2 fp) (eI fp s7.heap) σ8 H10 { s10 with heap:=h11 }:=I10'.turned (t':=s10.toks) k11 D10 DL (.inr (N3 hD)) Dcell fun p hp z=>by
        have hp':p∈eI fp s7.heap:=by simpa [aq] using hp
        exact fpD p.1 (kf hp').1 z
       have e80:=e9.trans e10;refine ⟨ds.length - (i + 1),by omega,i + 1,σ8,H10,es ++ [y],vs ++ [yv],its ++ [w],rfl,hlt,I11.pins_of fun p hp=>absurd hp (by simp),back (E8.mono e80),T.keep _ _ _ t10 fun b hb o e=>k11 b o (fpD b hb) e,fr10,D10,l11,v5.append (.cons rw10 .nil),(Reps.mono (e58.trans e80) _ _ r5).append ⟨yv,[],rfl,r10,rfl⟩,by rw [LG,P6]; omega,e5.trans (e58.trans e80),?_⟩
       match hm2:iW b tst fe (gq ns.length cs ρ) (ds.drop (i + 1)),hz9 with
       | none,hz9=>exact hz9.elim
       | some zs,hz9=>dsimp only at hz9 ⊢; rw [O6]; exact hz9
     have hif:=hifs (D + 1) s2 H2 fp ⟨_,_,I2⟩;cases tst with
     | none =>
      cases (show ifs=[] from hif);exact wpAny_tests_nil (by rw [if_pos rfl]; exact took I8 (.refl H8) hz)
     | some t =>
      obtain ⟨c,rfl,hct⟩:=hif
      match htt:t ρd,hz with
      | none,hz=>simp only [htt] at hz
      | some (.exc c),hz=>simp only [htt] at hz
      | some (.ok c_),hz =>
       simp only [htt] at hz;refine wpAny_tests_one (LD (hct.h _ s8 σ8 H8 (fun b H9=>b=c_∧Same H8 H9) I8 ⟨_,E8,by rw [htt]; exact fun H9 e9=>⟨rfl,e9⟩⟩) (fun b s9 ⟨H9,I9,hb,e9⟩=>?_) fun _ _ z=>Li z);subst hb;rw [if_pos rfl];exact took I9 e9 hz
      | some (.ok d_),hz =>
       simp only [htt] at hz;refine wpAny_tests_one (LD (hct.h _ s8 σ8 H8 (fun b H9=>b=d_∧Same H8 H9) I8 ⟨_,E8,by rw [htt]; exact fun H9 e9=>⟨rfl,e9⟩⟩) (fun b s9 ⟨H9,I9,hb,e9⟩=>?_) fun _ _ z=>Li z);subst hb;rw [if_neg p_];obtain ⟨t9,fr9,D9,l9⟩:=fin I9;exact ⟨ds.length - (i + 1),by omega,i + 1,σ8,H9,es,vs,its,rfl,hlt,I9.pins_of fun p hp=>absurd hp (by simp),back (E8.mono e9),t9,fr9,D9,l9,v5,Reps.mono (e58.trans e9) _ _ r5,by omega,e5.trans (e58.trans e9),hz⟩
  · have hi':i=ds.length:=by omega
    subst hi';rw [Og] at hz;have hz':es ++ []=ys:=hz;rw [Nd] at hz';subst hz';refine thn (T.done (aq X (ns ++ cs.map (·.1)) scope (D + 1) s2 H2 fp) rfl rfl rfl hc ds.length (eI [D] s5.heap) s5 σ5 H5 _ I5p fp5' t5 (wk.stop H5 e5)) fun r s6 ⟨hr,I6⟩=>?_;subst hr;have l6:LAt s6.heap D its:=by
     obtain ⟨n,q⟩:=l5;exact ⟨n,(I6.pin (D,_) (l_ _ (dw (by simp) q))).1⟩
    obtain ⟨m6,n6,_⟩:=I6.loc;have C6:H5 (D + 1)=ck:=I6.free;have new:ObjOk X.prog X.w (upd H5 D (.lst vs)) s6.heap D (.lst vs):=by
     obtain ⟨n,q⟩:=l6;exact ⟨by rw [lenR]; exact cA hyl,its,n,v5,q⟩
    have u6:Un (L2.frs X.stack) fp H2 H5 s2.heap s6.heap:=I6.base;have nD:∀ b o,s2.heap.get? b=a_ o→b≠D:=fun b o e=>by
     have hb:b < D:=by rw [← hD]; exact t_ e
     exact zN hb
    have u7:Un (L2.frs X.stack) fp H2 (upd H5 D (.lst vs)) s2.heap s6.heap:=⟨u6.keep,u6.slot,fun b o e n hx=>by rw [aB (nD b o e)]; exact u6.free b o e n hx,u6.there,fun b xs q=>by
     have q':=u6.tups b xs q;rw [aB (ax q' D5)]; exact q',fun b o u q=>by
     have q':=u6.frzs b o u q;rw [aB (ax q' D5)]; exact q',fun b ps q=>by
     obtain ⟨more,q'⟩:=u6.tbls b ps q;exact ⟨more,by rw [aB (ax q' D5)]; exact q'⟩⟩
    have I7:Inv X f' σ (upd H5 D (.lst vs)) s6:=I2.call' (s':=s6) (ch:=fp) I6.os u7 (HOk.add I6.hok D5 C6 (fun b u _ q=>q) new) I6.bare fun b hb=>⟨(f2 b hb).2.2.2.1,(f2 b hb).2.1,(f2 b hb).2.2.2.2.1,(f2 b hb).2.2.2.2.2⟩;exact hRR D (D + 1) s6 H5 vs m6 I7 D5 e5 r5 n6 C6 (M8 Ji) (by rw [hD]; exact Qg D)
 exact codeAny_compStart_list (loop _ rfl) (T.self _ 0 _ _ _ (T.keep _ _ _ st2 fun b hb o e=>old b o e) (loop _ rfl))
theorem xF {X:Cx} {tg elt iter:F_} {ifs:List F_} {scope:Me} {pos:Pos} {src:FnA} {tst:Option FnB} {fe:FnE} {b:Dv→Ev→Option Ev} (osc:Me) (N ns:List Str) (js:List Nat) (cs:List (Str×Nat)) (hosc:X.env.scope=osc) (hN:X.N=N) (ok:iF osc scope cs N) (hcl:M3 scope X.env=pure (jt scope.names X.env [])) (hc:X.calm=c_)
 (hback:∀ ρ d ρ',b d (gq ns.length cs ρ)=a_ ρ'→fgt js ρ'=gq ns.length cs ρ)
 (hi:FIG X tg iter src) (htg:∀ C s H fp,FG (aq X (ns ++ cs.map (·.1)) scope C s H fp) tg b) (helt:∀ C s H fp,(∃ f' σ,Inv X f' σ H s)→FE (aq X (ns ++ cs.map (·.1)) scope C s H fp) elt fe) (hifs:∀ C s H fp,(∃ f' σ,Inv X f' σ H s)→rK (aq X (ns ++ cs.map (·.1)) scope C s H fp) ifs tst)
 (hs:∀ x,K_ iter X.env x=pure x:=by intro _; kernel_rfl):FE X (.ListComp elt [⟨tg,iter,ifs,0⟩] scope pos) (bB ns.length cs src b tst fe):=by
 subst hosc hN;constructor;intro f' s σ H Q I h;obtain ⟨ρ,E,o⟩:=h
 match ho:bB ns.length cs src b tst fe ρ with
 | none=>rw [ho] at o; exact o.elim
 | some r =>
  rw [ho] at o;rw [eval_ListComp];have key:OutG X H (src ρ) fun J H'=>∃ ds ys,Same H H'∧WkG X.K J ds H'∧ds.length≤100000∧ys.length≤100000∧iW b tst fe (gq ns.length cs ρ) ds=a_ ys∧(∀ v H'',Same H' H''→Rep X.K H'' (.lst ys) v→Q v H''):=by
   rcases Gm ho with ⟨c,e1,e2⟩ | ⟨ds,ys,e1,e2,l1,l2,e3⟩
   · subst e2; rw [e1]; exact o
   · subst e3; rw [e1]; exact fun J H' e wk=>⟨ds,ys,e,wk,l1,l2,e2,fun v H'' e2 r=>o v H'' (e.trans e2) r⟩
  refine NA (use:=ck) rfl hs hcl ok.kind ok.names (thn (hi.h f' s σ H _ I ⟨ρ,E,key⟩) fun v s1 h1=>thn h1 fun itv s2 h2=>?_);obtain ⟨it,fp,tn,J,H2,e,I2,T,st2,f2,ds,ys,e12,wk,hdl,hyl,hm,hQ⟩:=h2;subst e;refine jz cs ok hc htg helt hifs hback (E.mono e12) I2 T st2 f2 wk hdl hyl hm (RR:=fun acc C=>compPost (z_ X.prog X.w) X.A X.xe ck (EP X f' σ Q) acc C) fun D C s6 H5 vs m6 I6 D5 e5 r5 n6 C6 CD hC=>?_;refine ⟨m6,n6,fun h7 sb7=>?_⟩;have Cn:(upd H5 D (.lst vs)) C=ck:=by rw [aB CD]; exact C6
  obtain ⟨q0,q1,q2,q3,q4,q5⟩:=I2.fpOk hC Cn;have I7:Inv X f' σ (upd H5 D (.lst vs)) { s6 with heap:=h7 }:=I6.turned (t':=s6.toks) (fun b o hb e=>sb7.extBut b o hb e) q0 q1 q3 q4 q5;exact ⟨.ref D,_,I7,rfl,hQ _ _ (e5.trans (aE D5 _)) ⟨D,vs,rfl,aA,Reps.mono (aE D5 _) _ _ r5⟩⟩
theorem qW {X:Cx} {tg elt iter:F_} {ifs:List F_} {scope:Me} {pos:Pos} {src:FnA} {tst:Option FnB} {fe:FnE} {b:Dv→Ev→Option Ev} (osc:Me) (N ns:List Str) (js:List Nat) (cs:List (Str×Nat)) (hosc:X.env.scope=osc) (hN:X.N=N) (ok:iF osc scope cs N) (hcl:M3 scope X.env=pure (jt scope.names X.env [])) (hc:X.calm=c_)
 (hback:∀ ρ d ρ',b d (gq ns.length cs ρ)=a_ ρ'→fgt js ρ'=gq ns.length cs ρ)
 (hi:FIG X tg iter src) (htg:∀ C s H fp,FG (aq X (ns ++ cs.map (·.1)) scope C s H fp) tg b) (helt:∀ C s H fp,FE (aq X (ns ++ cs.map (·.1)) scope C s H fp) elt fe) (hifs:∀ C s H fp,rK (aq X (ns ++ cs.map (·.1)) scope C s H fp) ifs tst)
 (hs:∀ x,K_ iter X.env x=pure x:=by intro _; kernel_rfl):FE X (.ListComp elt [⟨tg,iter,ifs,0⟩] scope pos) (bB ns.length cs src b tst fe) :=
 xF osc N ns js cs hosc hN ok hcl hc hback hi htg (fun C s H fp _=>helt C s H fp) (fun C s H fp _=>hifs C s H fp) hs
theorem xG {X:Cx} {tg elt iter:F_} {ifs:List F_} {scope:Me} {pos:Pos} {src:FnA} {tst:Option FnB} {fe:FnE} {b:Dv→Ev→Option Ev} {y:Str} {py spos:Pos} (i:Nat) (hnd:X.N.Nodup) (hiy:X.N[i]?=a_ y) (hxy:Loc X.env.scope y) (hfy:X.fn y=c_∨X.env.scope.names.lookup y=a_ .local)
 (osc:Me) (N ns:List Str) (js:List Nat) (cs:List (Str×Nat)) (hosc:X.env.scope=osc) (hN:X.N=N) (ok:iF osc scope cs N) (hcl:M3 scope X.env=pure (jt scope.names X.env [])) (hc:X.calm=c_)
 (hback:∀ ρ d ρ',b d (gq ns.length cs ρ)=a_ ρ'→fgt js ρ'=gq ns.length cs ρ)
 (hi:FIG X tg iter src) (htg:∀ C s H fp,FG (aq X (ns ++ cs.map (·.1)) scope C s H fp) tg b) (helt:∀ C s H fp,FE (aq X (ns ++ cs.map (·.1)) scope C s H fp) elt fe) (hifs:∀ C s H fp,rK (aq X (ns ++ cs.map (·.1)) scope C s H fp) ifs tst)
 (hsw:Mg (.ListComp elt [⟨tg,iter,ifs,0⟩] scope pos) (a_ (.Name y py)) spos.line X.env=pure c_:=by kernel_rfl)
 (hs:∀ x,K_ iter X.env x=pure x:=by intro _; kernel_rfl):PS X (.Assign [.Name y py] (.ListComp elt [⟨tg,iter,ifs,0⟩] scope pos) spos) (tC X i (bB ns.length cs src b tst fe)):=by
 subst hosc hN;intro f' s σ H D0 I h;obtain ⟨ρ,E,o⟩:=h
 match ho:bB ns.length cs src b tst fe ρ with
 | none=>rw [ho] at o; exact o.elim
 | some r =>
  rw [ho] at o;have key:OutG X H (src ρ) fun J H'=>∃ ds ys,Same H H'∧WkG X.K J ds H'∧ds.length≤100000∧ys.length≤100000∧iW b tst fe (gq ns.length cs ρ) ds=a_ ys∧(∀ H5 p vs,Same H' H5→H5 p=ck→Reps X.K H5 ys vs→D0.nx (σ.set i (a_ (.ref p))) (upd H5 p (.lst vs))):=by
   rcases Gm ho with ⟨c,e1,e2⟩ | ⟨ds,ys,e1,e2,l1,l2,e3⟩
   · subst e2; rw [e1]; exact o
   · subst e3; rw [e1]; obtain ⟨ys',ey,o⟩:=o; cases ey; exact fun J H' e wk=>⟨ds,ys,e,wk,l1,l2,e2,fun H5 p vs e3 hp r=>o H5 p vs (e.trans e3) hp r⟩
  rw [exec_Assign_Name_used _ _ _ _ hsw];refine f_ (Qz (f_ ?_));show w_ _ X.A (do let _ ← comprehension (.ListComp elt [⟨tg,iter,ifs,0⟩] scope pos) scope X.env _ (newList []) d_ (eval iter X.env) (a_ (MN (.Name y py) X.env))) _ _ s
  refine f_ (LD (NA (use:=a_ (MN (.Name y py) X.env)) (Q:=fun _ s'=>SP X f' D0 .next s') rfl hs hcl ok.kind ok.names
   (thn (hi.h f' s σ H _ I ⟨ρ,E,key⟩) fun v s1 h1=>thn h1 fun itv s2 h2=>?_)) (fun _ s' hq=>m_ (m_ hq)) fun _ _ e=>e)
  obtain ⟨it,fp,tn,J,H2,e,I2,T,st2,f2,ds,ys,e12,wk,hdl,hyl,hm,hQ⟩:=h2;subst e;refine jz cs ok hc htg (fun C s H fp _=>helt C s H fp) (fun C s H fp _=>hifs C s H fp) hback (E.mono e12) I2 T st2 f2 wk hdl hyl hm (RR:=fun acc C=>compPost (z_ X.prog X.w) X.A X.xe (a_ (MN (.Name y py) X.env)) (fun _ s'=>SP X f' D0 .next s') acc C) fun D C s6 H5 vs m6 I6 D5 e5 r5 n6 C6 CD hC=>?_;have Cn:(upd H5 D (.lst vs)) C=ck:=by rw [aB CD]; exact C6
  have FC:=I2.fpOk hC Cn;obtain ⟨oC,es,ep,hoC,hdC,rC⟩:=id n6;have I6p:=I6.pinned (fp:=[C]) (fun b hb=>by
   have e:b=C:=by simpa using hb
   subst e; exact FC) (fun b hb=>by
   have e:b=C:=by simpa using hb
   subst e;exact ⟨oC,hoC,fun v z=>by rw [hdC] at z; cases z⟩)
  refine thn (iz hnd hiy hxy hfy _ s6 σ _ (.ref D) (.ref D) (fun σ' H'=>σ'=σ.set i (a_ (.ref D))∧H'=upd H5 D (.lst vs)) I6p rfl ⟨rfl,rfl⟩) fun _ s8 ⟨σ8,H8,I8,e1,e2⟩=>?_;subst e1 e2;have hC8:=(I8.pin (C,oC) (l_ _ (l_ _ (dw (by simp) hoC)))).1;refine ⟨m6,⟨oC,es,ep,hC8,hdC,rC⟩,fun h9 sb9=>?_⟩;have I8':Inv X f' (σ.set i (a_ (.ref D))) (upd H5 D (.lst vs)) s8:=I8.unpinned;obtain ⟨q0,q1,q2,q3,q4,q5⟩:=FC;have I9:Inv X f' (σ.set i (a_ (.ref D))) (upd H5 D (.lst vs)) { s8 with heap:=h9 }:=I8'.turned (t':=s8.toks) (fun b o hb e=>sb9.extBut b o hb e) q0 q1 q3 q4 q5;exact ⟨_,_,I9,hQ H5 D vs e5 D5 r5⟩
abbrev ci:=List (Str×Nat×List Str×(List Dv→Option (Rs Dv)))
theorem iZ {β:Type} {x y:Str} {e e':β} {T:List (Str×β)} (h:((y,e) :: T).lookup x=a_ e'):(x=y∧e'=e)∨T.lookup x=a_ e':=by
 rw [Ls] at h;split at h
 · rename_i hb;exact .inl ⟨Qt hb,by cases h; rfl⟩
 · exact .inr h
section
variable {P:r_} {w:E_} {K:e_} {mg:Str→Option g_} {base:K5} {T:ci} {y:Str} {k:Nat} {ps:List Str} {F:List Dv→Option (Rs Dv)}
structure HA (P:r_) (w:E_) (K:e_) (mg:Str→Option g_) (base:K5) (T:ci):Prop where
 h:∀ x e,T.lookup x=a_ e→Has P w K mg base x e.1 e.2.1 e.2.2
structure HAE (P:r_) (w:E_) (K:e_) (mg:Str→Option g_) (base:K5) (T:ci):Prop where
 h:∀ x e,T.lookup x=a_ e→Gp P w K mg base x e.1 e.2.1 e.2.2
structure HAM (P:r_) (w:E_) (K:e_) (mg:Str→Option g_) (base:K5) (T:ci):Prop where
 h:∀ x e,T.lookup x=a_ e→Gq P w K mg base x e.1 e.2.1 e.2.2
theorem El:HA P w K mg base []:=⟨fun _ _ h=>by cases h⟩
theorem AN:HAE P w K mg base []:=⟨fun _ _ h=>by cases h⟩
theorem AO:HAM P w K mg base []:=⟨fun _ _ h=>by cases h⟩
theorem av (h:Has P w K mg base y k ps F) (t:HA P w K mg base T):HA P w K mg base ((y,k,ps,F) :: T):=⟨fun x e q=>by
 rcases iZ q with ⟨rfl,rfl⟩ | q
 · exact h
 · exact t.h x e q⟩
theorem cf (h:Gp P w K mg base y k ps F) (t:HAE P w K mg base T):HAE P w K mg base ((y,k,ps,F) :: T):=⟨fun x e q=>by
 rcases iZ q with ⟨rfl,rfl⟩ | q
 · exact h
 · exact t.h x e q⟩
theorem xH (h:Gq P w K mg base y k ps F) (t:HAM P w K mg base T):HAM P w K mg base ((y,k,ps,F) :: T):=⟨fun x e q=>by
 rcases iZ q with ⟨rfl,rfl⟩ | q
 · exact h
 · exact t.h x e q⟩
abbrev Em:=List (Str×Option Dv)
def cN (s:String):Str×Option Dv:=(b_ s,ck)
def cI (s:String) (i:Int):Str×Option Dv:=(b_ s,a_ (.int i))
def cS (s z:String):Str×Option Dv:=(b_ s,a_ (.str (b_ z)))
def Kf (mg:Str→Option g_) (x:Str):Option Dv→Prop
 | none=>mg x=ck
 | some (.int i)=>∃ t,mg x=a_ (.int i t)
 | some (.str z)=>∃ t,mg x=a_ (.str z t)
 | _=>False
structure MA (mg:Str→Option g_) (C:Em):Prop where
 h:∀ x o,C.lookup x=a_ o→Kf mg x o
theorem MA.no {C:Em} {x:Str} (h:MA mg C) (e:C.lookup x=a_ ck):mg x=ck:=h.h x ck e
def HR (K:e_) (q:Str×Option Dv):Bool:=match q.2,Mw K C_ q.1 with
 | none,a_ ck=>c_
 | some (.int i),a_ (a_ (.int j _))=>i == j
 | some (.str z),a_ (a_ (.str y _))=>z == y
 | _,_=>d_
theorem Eo {h:K5} (X:K.In h) (G:h.Ns C_ mg):∀ (C:Em),C.all (HR K)=c_→MA mg C
 | [],_=>⟨fun x o q=>by cases q⟩
 | (y,o) :: C,e=>⟨fun x o' q=>by
  rw [My,n_] at e;rcases iZ q with ⟨rfl,rfl⟩ | q
  · have h1:=e.1;unfold HR at h1;dsimp only at h1;split at h1
    · rename_i e1;exact PySem.W.mg_none_of X G e1
    · rename_i i j t e1;have hij:i=j:=Qt h1;subst hij;exact ⟨t,NB X G e1⟩
    · rename_i z y t e1;have hij:z=y:=Qt h1;subst hij;exact ⟨t,NB X G e1⟩
    · cases h1
  · exact (Eo X G C e.2).h x o' q⟩
end
section
variable {X:Cx} {T:ci} {C:Em} {k' n:Nat} {x:Str} {p pos:Pos} {e:F_} {es:List F_} {F:List Dv→Option (Rs Dv)} {g:FnA}
theorem xI (hT:HA X.prog X.w X.K X.mg X.base T) (hr:Room k' X.A) (hF:(T.lookup x).map (fun q=>q.2.2)=a_ F) (ha:FA X (e :: es) g) (hk:((T.lookup x).all fun q=>Nat.ble q.1 k' && Qs n q.2.1.length)=c_:=by kernel_rfl) (hg:X.env.kindOf x=a_ .globalImplicit:=by kernel_rfl) (hdb:(x == ("__debug__":Str))=d_:=by kernel_rfl)
 (he:i_ (e :: es) X.env=(d_,eval e X.env) :: i_ es X.env:=by kernel_rfl) (hpl:(Lr pos (i_ es X.env)).any (·.1)=d_:=by kernel_rfl) :
 FE X (.Call (.Name x p) (e :: es) [] pos) (ai F n g):=by
 cases hq:T.lookup x with
 | none=>rw [hq] at hF; cases hF
 | some q =>
  rw [hq] at hF hk;cases hF;rw [PU,n_] at hk;exact wG q.1 q.2.1 q.2.2 (hT.h x q hq) hr (N8 hk.1) hg ha (Ni hk.2) hdb he hpl
theorem u9 (hT:HAE X.prog X.w X.K X.mg X.base T) (hr:Room k' X.A) (hF:(T.lookup x).map (fun q=>q.2.2)=a_ F) (hex:X.ex=[]) (ha:FA X (e :: es) g) (hk:((T.lookup x).all fun q=>Nat.ble q.1 k' && Qs n q.2.1.length)=c_:=by kernel_rfl) (hg:X.env.kindOf x=a_ .globalImplicit:=by kernel_rfl) (hdb:(x == ("__debug__":Str))=d_:=by kernel_rfl)
 (he:i_ (e :: es) X.env=(d_,eval e X.env) :: i_ es X.env:=by kernel_rfl) (hpl:(Lr pos (i_ es X.env)).any (·.1)=d_:=by kernel_rfl) :
 FE X (.Call (.Name x p) (e :: es) [] pos) (ao F n g):=by
 cases hq:T.lookup x with
 | none=>rw [hq] at hF; cases hF
 | some q =>
  rw [hq] at hF hk;cases hF;rw [PU,n_] at hk;exact wT q.1 q.2.1 q.2.2 (hT.h x q hq) hr (N8 hk.1) hex hg ha (Ni hk.2) hdb he hpl
theorem vb (hT:HAM X.prog X.w X.K X.mg X.base T) (hr:RoomM k' X.A) (hF:(T.lookup x).map (fun q=>q.2.2)=a_ F) (ha:FA X (e :: es) g) (hk:((T.lookup x).all fun q=>Nat.ble q.1 k' && Qs n q.2.1.length)=c_:=by kernel_rfl) (hg:X.env.kindOf x=a_ .globalImplicit:=by kernel_rfl) (hdb:(x == ("__debug__":Str))=d_:=by kernel_rfl)
 (he:i_ (e :: es) X.env=(d_,eval e X.env) :: i_ es X.env:=by kernel_rfl) (hpl:(Lr pos (i_ es X.env)).any (·.1)=d_:=by kernel_rfl) :
 FE X (.Call (.Name x p) (e :: es) [] pos) (ai F n g):=by
 cases hq:T.lookup x with
 | none=>rw [hq] at hF; cases hF
 | some q =>
  rw [hq] at hF hk;cases hF;rw [PU,n_] at hk;exact wY q.1 q.2.1 q.2.2 (hT.h x q hq) hr (N8 hk.1) hg ha (Ni hk.2) hdb he hpl
theorem HS {i:Int} (hM:MA X.mg C) (hl:C.lookup x=a_ (a_ (.int i))) (hg:X.env.kindOf x=a_ .globalImplicit:=by kernel_rfl) (hd:(x == ("__debug__":Str))=d_:=by kernel_rfl):FE X (.Name x pos) (fC (.int i)) :=
 let ⟨_,h⟩:=hM.h x _ hl
 zE hg h hd
theorem HU {z:Str} (hM:MA X.mg C) (hl:C.lookup x=a_ (a_ (.str z))) (hg:X.env.kindOf x=a_ .globalImplicit:=by kernel_rfl) (hd:(x == ("__debug__":Str))=d_:=by kernel_rfl):FE X (.Name x pos) (fC (.str z)) :=
 let ⟨_,h⟩:=hM.h x _ hl
 zF hg h hd
def ndB:List Str→Bool
 | []=>c_
 | x :: r=>!(r.contains x) && ndB r
theorem i5:∀ {l:List Str},ndB l=c_→l.Nodup
 | [],_=>List.nodup_nil
 | x :: r,h=>by
  unfold ndB at h;rw [n_] at h;refine Nb.2 ⟨fun hx=>?_,i5 h.2⟩;have h1:=h.1;rw [List.contains_iff_mem.2 hx] at h1;cases h1
def jo (sc:Me) (x:Str):Bool:=match sc.names.lookup x with
 | some .local=>c_
 | some .cell=>c_
 | _=>d_
theorem fY {sc:Me} {x:Str} (h:jo sc x=c_):Loc sc x:=by
 unfold jo at h;split at h
 · exact .inl ‹_›
 · exact .inr ‹_›
 · cases h
def yZ (osc scope:Me) (cs:List (Str×Nat)) (N:List Str):Bool :=
 q_ (scope.kind=.function) && q_ (∀ y∈scope.names,y.2=.cell→scope.names.lookup y.1=a_ .cell) && q_ (∀ y∈scope.names,y.2=.local→scope.names.lookup y.1=a_ .local) && q_ (∀ y∈scope.names,y.2=.free→osc.names.lookup y.1=a_ .cell∨osc.names.lookup y.1=a_ .free) && q_ (∀ c∈cs,N[c.2]?=a_ c.1∧scope.names.lookup c.1=a_ .free)
theorem qX {osc scope:Me} {cs:List (Str×Nat)} {N:List Str} (h:yZ osc scope cs N=c_):iF osc scope cs N:=by
 unfold yZ at h;simp only [n_,decide_eq_true_eq] at h;exact ⟨h.1.1.1.1,h.1.1.1.2,h.1.1.2,h.1.2,h.2⟩
theorem lkc {env:Env}:∀ {names:List (Str×MX)} {x:Str},names.lookup x=a_ .cell →
 (names.map fun (n,k)=>if (k == Mb && env.scope.kind == .function && env.kindOf n == a_ .cell) then (n,Mp) else (n,k)).lookup x=a_ .cell
 | [],_,h=>by simp at h
 | (n,k) :: r,x,h=>by
  rw [Ls] at h;rw [Lg];cases hx:x == n with
  | true =>
   rw [hx] at h;cases h;simp [Ls,hx]
  | false =>
   rw [hx] at h;have ih:=lkc (env:=env) h;dsimp only;split
   · rw [Ls,hx]; exact ih
   · rw [Ls,hx]; exact ih
theorem fgL {X:Cx} {N:List Str} {scope:Me} {C:k_} {s:h_} {H:Hp} {fp:List k_} {x:Str} (h:jo scope x=c_):Loc (aq X N scope C s H fp).env.scope x∧((aq X N scope C s H fp).fn x=c_∨(aq X N scope C s H fp).env.scope.names.lookup x=a_ .local):=by
 rcases fY h with h | h
 · exact ⟨.inl (P_ h),.inr (P_ h)⟩
 · exact ⟨.inr (lkc h),.inl (by show (scope.names.lookup x == a_ .cell)=c_; rw [h]; rfl)⟩
end
section
variable {X:Cx} {elt iter:F_} {ifs:List F_} {scope:Me} {pos px py pt spos:Pos} {src:FnA} {tst:Option FnB} {fe:FnE} {cs:List (Str×Nat)} {x y z:Str} {i:Nat} {k:Nat}
theorem fgA {N:List Str} (C:k_) (s:h_) (H:Hp) (fp:List k_) (hnd:ndB N=c_) (hx:N[0]?=a_ x) (hl:jo scope x=c_):FG (aq X N scope C s H fp) (.Name x px) (gN 0) :=
 z7 0 (i5 hnd) hx (fgL hl).1 (fgL hl).2
theorem HV (hi:FIG X (.Name x px) iter src) (helt:∀ C s H fp,FE (aq X (x :: cs.map (·.1)) scope C s H fp) elt fe) (hifs:∀ C s H fp,rK (aq X (x :: cs.map (·.1)) scope C s H fp) ifs tst)
 (hok:yZ X.env.scope scope cs X.N=c_:=by kernel_rfl) (hcl:M3 scope X.env=pure (jt scope.names X.env []):=by kernel_rfl) (hc:X.calm=c_:=by kernel_rfl) (hnd:ndB (x :: cs.map (·.1))=c_:=by kernel_rfl) (hl:jo scope x=c_:=by kernel_rfl)
 (hs:∀ x,K_ iter X.env x=pure x:=by intro _; kernel_rfl):FE X (.ListComp elt [⟨.Name x px,iter,ifs,0⟩] scope pos) (cq cs src tst fe) :=
 (AI (cs:=cs) (src:=src) (tst:=tst) (fe:=fe)) ▸ qW X.env.scope X.N [x] [0] cs rfl rfl (qX hok) hcl hc (Ds _) hi (fun C s H fp=>fgA C s H fp hnd rfl hl) helt hifs hs
theorem Ep (hi:FIG X (.Name x px) iter src) (helt:∀ C s H fp,FE (aq X (x :: cs.map (·.1)) scope C s H fp) elt fe) (hifs:∀ C s H fp,rK (aq X (x :: cs.map (·.1)) scope C s H fp) ifs tst)
 (hN:ndB X.N=c_) (hiy:X.N[i]?=a_ y) (hxy:jo X.env.scope y=c_) (hfy:X.fn y=c_)
 (hok:yZ X.env.scope scope cs X.N=c_) (hcl:M3 scope X.env=pure (jt scope.names X.env [])) (hc:X.calm=c_) (hnd:ndB (x :: cs.map (·.1))=c_) (hl:jo scope x=c_)
 (hsw:Mg (.ListComp elt [⟨.Name x px,iter,ifs,0⟩] scope pos) (a_ (.Name y py)) spos.line X.env=pure c_)
 (hs:∀ x,K_ iter X.env x=pure x):PS X (.Assign [.Name y py] (.ListComp elt [⟨.Name x px,iter,ifs,0⟩] scope pos) spos) (tC X i (bB 1 cs src (gN 0) tst fe)) :=
 xG i (i5 hN) hiy (fY hxy) (.inl hfy) X.env.scope X.N [x] [0] cs rfl rfl (qX hok) hcl hc (Ds _) hi (fun C s H fp=>fgA C s H fp hnd rfl hl) helt hifs hsw hs
theorem HW (hi:FIG X (.Name x px) iter src) (helt:∀ C s H fp,FE (aq X (x :: cs.map (·.1)) scope C s H fp) elt fe) (hifs:∀ C s H fp,rK (aq X (x :: cs.map (·.1)) scope C s H fp) ifs tst)
 (hsw:Mg (.ListComp elt [⟨.Name x px,iter,ifs,0⟩] scope pos) (a_ (.Name y py)) spos.line X.env=pure c_)
 (hN:ndB X.N=c_:=by kernel_rfl) (hiy:X.N[i]?=a_ y:=by kernel_rfl) (hxy:jo X.env.scope y=c_:=by kernel_rfl) (hfy:X.fn y=c_:=by kernel_rfl)
 (hok:yZ X.env.scope scope cs X.N=c_:=by kernel_rfl) (hcl:M3 scope X.env=pure (jt scope.names X.env []):=by kernel_rfl) (hc:X.calm=c_:=by kernel_rfl) (hnd:ndB (x :: cs.map (·.1))=c_:=by kernel_rfl) (hl:jo scope x=c_:=by kernel_rfl)
 (hs:∀ x,K_ iter X.env x=pure x:=by intro _; kernel_rfl):FS X (.Assign [.Name y py] (.ListComp elt [⟨.Name x px,iter,ifs,0⟩] scope pos) spos) (aL i (bB 1 cs src (gN 0) tst fe)) :=
 AJ (Ep hi helt hifs hN hiy hxy hfy hok hcl hc hnd hl hsw hs) uV
theorem Er {sts:List LY} {f:gH} (hi:FIG X (.Name x px) iter src) (helt:∀ C s H fp,FE (aq X (x :: cs.map (·.1)) scope C s H fp) elt fe) (hifs:∀ C s H fp,rK (aq X (x :: cs.map (·.1)) scope C s H fp) ifs tst) (hr:FOs X i sts f)
 (hsw:Mg (.ListComp elt [⟨.Name x px,iter,ifs,0⟩] scope pos) (a_ (.Name y py)) spos.line X.env=pure c_:=by kernel_rfl)
 (hN:ndB X.N=c_:=by kernel_rfl) (hiy:X.N[i]?=a_ y:=by kernel_rfl) (hxy:jo X.env.scope y=c_:=by kernel_rfl) (hfy:X.fn y=c_:=by kernel_rfl)
 (hok:yZ X.env.scope scope cs X.N=c_:=by kernel_rfl) (hcl:M3 scope X.env=pure (jt scope.names X.env []):=by kernel_rfl) (hc:X.calm=c_:=by kernel_rfl) (hnd:ndB (x :: cs.map (·.1))=c_:=by kernel_rfl) (hl:jo scope x=c_:=by kernel_rfl)
 (hs:∀ x,K_ iter X.env x=pure x:=by intro _; kernel_rfl):FSs X (.Assign [.Name y py] (.ListComp elt [⟨.Name x px,iter,ifs,0⟩] scope pos) spos :: sts) (rY i (bB 1 cs src (gN 0) tst fe) f) :=
 xE hiy (Ep hi helt hifs hN hiy hxy hfy hok hcl hc hnd hl hsw hs) hr
theorem Jt {N:List Str} (C:k_) (s:h_) (H:Hp) (fp:List k_) (hc:X.calm=c_) (hnd:ndB N=c_) (hx:N[0]?=a_ x) (hz:N[1]?=a_ z) (hl:jo scope x=c_) (hl2:jo scope z=c_)
 (a1:(K4 [.Name x px,.Name z py] (aq X N scope C s H fp).env).map (·.2)=MN (.Name x px) (aq X N scope C s H fp).env :: (K4 [.Name z py] (aq X N scope C s H fp).env).map (·.2)) (a2:(K4 [.Name z py] (aq X N scope C s H fp).env).map (·.2)=MN (.Name z py) (aq X N scope C s H fp).env :: (K4 [] (aq X N scope C s H fp).env).map (·.2))
 (a3:(K4 [.Name x px,.Name z py] (aq X N scope C s H fp).env).length=2) (a4:(K4 [.Name x px,.Name z py] (aq X N scope C s H fp).env).findIdx? (·.1)=ck):FG (aq X N scope C s H fp) (.Tuple [.Name x px,.Name z py] k pt) (gP 0 1) :=
 uf 0 1 hc (i5 hnd) hx (fgL hl).1 (fgL hl).2 hz (fgL hl2).1 (fgL hl2).2 a1 a2 a3 a4
theorem HX (hi:FIG X (.Tuple [.Name x px,.Name z py] k pt) iter src) (helt:∀ C s H fp,FE (aq X (x :: z :: cs.map (·.1)) scope C s H fp) elt fe) (hifs:∀ C s H fp,rK (aq X (x :: z :: cs.map (·.1)) scope C s H fp) ifs tst)
 (hok:yZ X.env.scope scope cs X.N=c_:=by kernel_rfl) (hcl:M3 scope X.env=pure (jt scope.names X.env []):=by kernel_rfl) (hc:X.calm=c_:=by kernel_rfl) (hnd:ndB (x :: z :: cs.map (·.1))=c_:=by kernel_rfl) (hl:jo scope x=c_:=by kernel_rfl) (hl2:jo scope z=c_:=by kernel_rfl)
 (hs:∀ x,K_ iter X.env x=pure x:=by intro _; kernel_rfl):FE X (.ListComp elt [⟨.Tuple [.Name x px,.Name z py] k pt,iter,ifs,0⟩] scope pos) (bB 2 cs src (gP 0 1) tst fe) :=
 qW X.env.scope X.N [x,z] [0,1] cs rfl rfl (qX hok) hcl hc (Dt _) hi (fun C s H fp=>Jt C s H fp hc hnd rfl rfl hl hl2 rfl rfl rfl rfl) helt hifs hs
end
section
variable {X:Cx} {N:List Str} {scope:Me} {c:F_} {t:FnB}
theorem xJ:∀ C s H fp,rK (aq X N scope C s H fp) [] ck:=fun _ _ _ _=>rfl
theorem xK (h:∀ C s H fp,FT (aq X N scope C s H fp) c t):∀ C s H fp,rK (aq X N scope C s H fp) [c] (a_ t):=fun C s H fp=>⟨_,rfl,h C s H fp⟩
end
section
variable {X:Cx} {a b c e st ix tg iter:F_} {fa fb fs fi:FnE} {pos p2 pos' py apos cpos pt p1 lp ps:Pos} {i j k kk:Nat} {js:List Nat} {x y:Str} {src g:FnA} {fS:FnS} {fO:gH} {body sts:List LY} {es:List F_} {is:List Nat}
theorem Es (ha:FE X a fa) (hb:FE X b fb) (hs:∀ o i,RF b d_ o i=operate [o,i] (Pw o i):=by intro _ _; kernel_rfl):FE X (.Subscript a b pos) (f2 ixD fa fb):=Hk ha hb hs
theorem AQ (he:FE X e fa) (hN:ndB X.N=c_:=by kernel_rfl) (hi:X.N[i]?=a_ x:=by kernel_rfl) (hx:jo X.env.scope x=c_:=by kernel_rfl) (hf:X.fn x=c_:=by kernel_rfl) (hs:Mg e (a_ (.Name x pos')) pos.line X.env=pure d_:=by kernel_rfl):FS X (.Assign [.Name x pos'] e pos) (aL i fa) :=
 CN i (i5 hN) hi (fY hx) he hs (.inl hf)
theorem AR (he:FE X e fa) (hex:X.ex=[]:=by kernel_rfl) (hij:Qs i j=d_:=by kernel_rfl) (hN:ndB X.N=c_:=by kernel_rfl) (hi:X.N[j]?=a_ x:=by kernel_rfl) (hx:jo X.env.scope x=c_:=by kernel_rfl) (hf:X.fn x=c_:=by kernel_rfl) (hs:Mg e (a_ (.Name x pos')) pos.line X.env=pure d_:=by kernel_rfl):FO1 X i (.Assign [.Name x pos'] e pos) (et j fa) :=
 DR hex j (N1 hij) (i5 hN) hi (fY hx) he hs (.inl hf)
theorem xL (hg:FA X es g) (hr:FOs X i sts fO) (hN:ndB X.N=c_:=by kernel_rfl) (hi:X.N[i]?=a_ x:=by kernel_rfl) (hx:jo X.env.scope x=c_:=by kernel_rfl) (hf:X.fn x=c_:=by kernel_rfl) (hs:Mg (.List es lp) (a_ (.Name x pos')) pos.line X.env=pure d_:=by kernel_rfl):FSs X (.Assign [.Name x pos'] (.List es lp) pos :: sts) (uA i g fO) :=
 Ap (i5 hN) hi (fY hx) hg hr hs (.inl hf)
theorem AS (hp:OF (z_ X.prog X.w) X.A X.env X.xe) (hi:FI X (.Name x py) iter src) (hb:FSs X body fS) (hc:X.calm=c_:=by kernel_rfl) (hN:ndB X.N=c_:=by kernel_rfl) (hx:X.N[i]?=a_ x:=by kernel_rfl) (hl:jo X.env.scope x=c_:=by kernel_rfl) (hf:X.fn x=c_:=by kernel_rfl)
 (hs:∀ x,K_ iter X.env x=pure x:=by intro _; kernel_rfl):FS X (.For (.Name x py) iter body [] pos) (wf i js src fS) :=
 CS i js hp hc hi (iz (i5 hN) hx (fY hl) (.inl hf)) hb hs
theorem AT (hp:OF (z_ X.prog X.w) X.A X.env X.xe) (hi:FI X (.Name x py) iter src) (hb:FOs X i body fO) (hex:X.ex=[]:=by kernel_rfl) (hij:Qs i j=d_:=by kernel_rfl) (hc:X.calm=c_:=by kernel_rfl) (hN:ndB X.N=c_:=by kernel_rfl) (hx:X.N[j]?=a_ x:=by kernel_rfl) (hl:jo X.env.scope x=c_:=by kernel_rfl) (hf:X.fn x=c_:=by kernel_rfl)
 (hs:∀ x,K_ iter X.env x=pure x:=by intro _; kernel_rfl):FO1 X i (.For (.Name x py) iter body [] pos) (uB j js src fO) :=
 DV hex j js (N1 hij) hp hc hi (iz (i5 hN) hx (fY hl) (.inl hf)) hb hs
theorem xM (hp:OF (z_ X.prog X.w) X.A X.env X.xe) (hi:FIG X (.Tuple [.Name x py,.Name y p2] kk pt) iter src) (hb:FSs X body fS) (hc:X.calm=c_:=by kernel_rfl) (hN:ndB X.N=c_:=by kernel_rfl) (hx:X.N[i]?=a_ x:=by kernel_rfl) (hl:jo X.env.scope x=c_:=by kernel_rfl) (hf:X.fn x=c_:=by kernel_rfl) (hy:X.N[j]?=a_ y:=by kernel_rfl) (hl2:jo X.env.scope y=c_:=by kernel_rfl) (hf2:X.fn y=c_:=by kernel_rfl)
 (a1:(K4 [.Name x py,.Name y p2] X.env).map (·.2)=MN (.Name x py) X.env :: (K4 [.Name y p2] X.env).map (·.2):=by kernel_rfl) (a2:(K4 [.Name y p2] X.env).map (·.2)=MN (.Name y p2) X.env :: (K4 [] X.env).map (·.2):=by kernel_rfl)
 (a3:(K4 [.Name x py,.Name y p2] X.env).length=2:=by kernel_rfl) (a4:(K4 [.Name x py,.Name y p2] X.env).findIdx? (·.1)=ck:=by kernel_rfl)
 (hs:∀ x,K_ iter X.env x=pure x:=by intro _; kernel_rfl):FS X (.For (.Tuple [.Name x py,.Name y p2] kk pt) iter body [] pos) (pE (gP i j) js src fS) :=
 Ay js hp hc hi (uf i j hc (i5 hN) hx (fY hl) (.inl hf) hy (fY hl2) (.inl hf2) a1 a2 a3 a4) hb hs
theorem xN (h:PGs X es (z9 is)) (hN:ndB X.N=c_:=by kernel_rfl) (hi:X.N[i]?=a_ x:=by kernel_rfl) (hx:jo X.env.scope x=c_:=by kernel_rfl) (hf:X.fn x=c_:=by kernel_rfl)
 (hs:(K4 (.Name x p1 :: es) X.env).map (·.2)=MN (.Name x p1) X.env :: (K4 es X.env).map (·.2):=by kernel_rfl):PGs X (.Name x p1 :: es) (z9 (i :: is)) :=
 Aa i (i5 hN) hi (fY hx) (.inl hf) h hs
theorem pH (hN:X.N[i]?=a_ x) (hv:jo X.env.scope x=c_) (hd:(x == ("__debug__":Str))=d_) (hcd:(x == ("__classdict__":Str))=d_):PE X (.Name x pos) (zo i):=sN hN ((fY hv).elim .inl fun h=>.inr (.inl h)) hd hcd
theorem AU (he:FE X e fa) (hx:PE X (.Name x apos) (zo i)) (hex:X.ex=[]:=by kernel_rfl)
 (hbase:Nf (.Name x apos) "append" X.env (eval (.Name x apos) X.env)=eval (.Name x apos) X.env:=by kernel_rfl)
 (hfew:((Lr cpos (i_ [e] X.env)).all (fun x=>!x.1) && (Ph cpos (NL [] X.env)).all (fun x=>x.1.isSome)
   && q_ ([e].length + ([]:List MR).length + (if ([]:List MR).isEmpty then 0 else 1) < 30))=c_:=by kernel_rfl)
 (hline:(pt.endLine == cpos.line)=c_:=by kernel_rfl) (hs:i_ [e] X.env=(d_,eval e X.env) :: i_ [] X.env:=by kernel_rfl) (hplain:(Lr cpos (i_ [] X.env)).any (·.1)=d_:=by kernel_rfl)
 (hsw:Mg (.Call (.Attribute (.Name x apos) "append" pt) [e] [] cpos) ck pos.line X.env=pure d_:=by kernel_rfl):FO1 X i (.Expr (.Call (.Attribute (.Name x apos) "append" pt) [e] [] cpos) pos) (xh fa):=DU hex hx he hbase hfew hline hs hplain hsw
end
section
variable {X:Cx} {o e:F_} {es:List F_} {fo:FnE} {ga:FnA} {apos cpos pos:Pos} {name:Str}
structure SmL (X:Cx) (o:F_) (name:Str) (e:F_) (es:List F_) (apos cpos:Pos):Prop where
 base:Nf o name X.env (eval o X.env)=eval o X.env
 few:((Lr cpos (i_ (e :: es) X.env)).all (fun x=>!x.1) && (Ph cpos (NL [] X.env)).all (fun x=>x.1.isSome)
  && q_ ((e :: es).length + ([]:List MR).length + (if ([]:List MR).isEmpty then 0 else 1) < 30))=c_
 line:(apos.endLine == cpos.line)=c_
 s:i_ (e :: es) X.env=(d_,eval e X.env) :: i_ es X.env
 plain:(Lr cpos (i_ es X.env)).any (·.1)=d_
theorem mj {id:String} {r:V→List V→Hp→VK→Prop} {g:Str→List Dv→Option (Rs Dv)} (slot:Slot "str" name id) (hty:typeOf (.builtin id)=pure (.type "method_descriptor")) (hm:MtR X id r)
 (hg:∀ i ds vs H Q,Reps X.K H ds vs→Out X H (g i ds) Q→r (.str i) vs H Q) (ho:FE X o fo) (ha:FA X (e :: es) ga) (h:SmL X o name e es apos cpos):FE X (.Call (.Attribute o name apos) (e :: es) [] cpos) (fM g fo ga) :=
 zX slot hty hm hg ho ha h.base h.few h.line h.s h.plain
end
section
open PySem.W
structure CA (K:e_) (mg:Str→Option g_) (cls:Nat→k_) (CJ:k_) (S:List Nat) (m:Nat):Prop where
 at_:∀ c∈S,mg (xnm c)=a_ (.ref (cls c))
 j:mg "JarError"=a_ (.ref CJ)
 xk:∀ c C,c < m→nsIn K C_ (xnm c)=a_ (a_ (.ref C))→excIn K C bmV "ValueError.__new__"=c_∧mroIn K C (.ref CJ)=a_ c_
theorem CA.c {K:e_} {mg:Str→Option g_} {cls:Nat→k_} {CJ:k_} {S:List Nat} {m c:Nat} {x:Str} (h:CA K mg cls CJ S m) (hc:c∈S) (hx:xnm c=x):mg x=a_ (.ref (cls c)):=by
 subst hx;exact h.at_ c hc
def nsB (K:e_) (x:Str) (a:k_):Bool:=match nsIn K C_ x with
 | some (a_ (.ref b))=>Qs a b
 | _=>d_
theorem y3 {K:e_} {x:Str} {a:k_} (h:nsB K x a=c_):nsIn K C_ x=a_ (a_ (.ref a)):=by
 unfold nsB at h;split at h
 · rename_i b e;rw [e,Ni h]
 · cases h
def caB (K:e_) (S:List Nat) (Cs:List k_) (CJ:k_) (m:Nat):Bool:=S.all (fun c=>nsB K (xnm c) (Cs.getD c 0)) && nsB K "JarError" CJ && HK K S Cs CJ && (s_ m).all fun c=>S.contains c || (match nsIn K C_ (xnm c) with | some ck=>c_ | _=>d_)
theorem HY {K:e_} {mg:Str→Option g_} {h:K5} {S:List Nat} {Cs:List k_} {CJ:k_} {m:Nat} (X:K.In h) (G:h.Ns C_ mg) (e:caB K S Cs CJ m=c_):XAllS K S (fun c=>Cs.getD c 0) CJ∧CA K mg (fun c=>Cs.getD c 0) CJ S m:=by
 unfold caB at e;rw [n_,n_,n_] at e;obtain ⟨⟨⟨e1,e2⟩,e3⟩,e4⟩:=e;have hn:∀ c∈S,nsIn K C_ (xnm c)=a_ (a_ (.ref (Cs.getD c 0))):=fun c hc=>y3 (Lk.1 e1 c hc);have xa:=xl hn e3;refine ⟨xa,fun c hc=>mg_of X G (hn c hc),mg_of X G (y3 e2),fun c C hc q=>?_⟩;have h1:=Lk.1 e4 c (K6.2 hc);rw [RT] at h1;rcases h1 with h1 | h1
 · have h':c∈S:=by simpa using h1
   rw [xa.same h' q];exact ⟨(xa.at_ c h').2.1,(xa.at_ c h').2.2.2.1⟩
 · rw [q] at h1;cases h1
end
noncomputable abbrev nsM (K:e_) (x:Str):Option (Option g_):=Mw K C_ x
structure Af (K:e_) (x:Str) (st:LY) (f:k_):Prop where
 a:nsM K x=a_ (a_ (.ref f))
 F:∃ fd,Fun K x x st f fd
 k:LZ K (.ref f)=c_
def fnB (N P:List Str) (sc:Me):Bool:=q_ (sc.kind=.function) && !sc.isCoroutine && !sc.isGenerator && ndB N && q_ (N.take P.length=P) && P.all (jo sc) && q_ (∀ y∈sc.names,y.2≠.free)
theorem Gy {N P:List Str} {sc:Me} (h:fnB N P sc=c_):gJ N P sc:=by
 unfold fnB at h;simp only [n_,decide_eq_true_eq,Rl] at h;exact ⟨h.1.1.1.1.1.1,h.1.1.1.1.1.2,h.1.1.1.1.2,i5 h.1.1.1.2,h.1.1.2,fun x hx=>fY (Lk.1 h.1.2 x hx),h.2⟩
section
variable {P:r_} {w:E_} {K:e_} {mg:Str→Option g_} {base:K5} {h:K5} {k:Nat} {x:Str} {st:LY} {f:k_} {F:List Dv→Option (Rs Dv)}
def HZ (x:Str) (st:LY) (ps:List Str):Prop:=∀ (kV doc pm:g_) (an:Option k_) (cdv ct:g_) (us:List g_),us.length=ps.length→bindArgs (M6 x x (jq st) (dG st) (aF st) .none kV doc pm an cdv ct) ⟨us,[]⟩=pure (ps.zip us)
theorem aH (XI:K.In h) (Gn:h.Ns C_ mg) (N ps:List Str) (fb:FnS) (A:Af K x st f) (hbd:HZ x st ps)
 (hb:∀ (cdv:g_) (A:G_) (outer:List Env) (s:h_) (H:Hp) (E:XK),Room k (A.deeper (NH x (aF st) s.heap.objs.size f cdv))→FSs (qm CX0 P w K mg base N x (aF st) f cdv A outer s H E).nox (dG st) fb) (hF:F=bt N.length fb:=by kernel_rfl) (hs:fnB N ps (aF st)=c_:=by kernel_rfl):Has P w K mg base x (k + 1) ps F :=
 let ⟨_,Fn⟩:=A.F
 ⟨_,_,yB N ps fb hF rfl Fn (Gy hs) hb,NB XI Gn A.a,A.k,Fn.binds hbd⟩
theorem cF (XI:K.In h) (Gn:h.Ns C_ mg) (N ps:List Str) (fb:FnS) (A:Af K x st f) (hbd:HZ x st ps)
 (hb:∀ (cdv:g_) (A:G_) (outer:List Env) (s:h_) (H:Hp) (E:XK),Room k (A.deeper (NH x (aF st) s.heap.objs.size f cdv))→FSs (qm (CXE P w) P w K mg base N x (aF st) f cdv A outer s H E) (dG st) fb) (hF:F=fT N.length fb:=by kernel_rfl) (hs:fnB N ps (aF st)=c_:=by kernel_rfl):Gp P w K mg base x (k + 1) ps F :=
 let ⟨_,Fn⟩:=A.F
 ⟨_,_,DB N ps fb hF rfl Fn (Gy hs) hb,NB XI Gn A.a,A.k,Fn.binds hbd⟩
theorem AV (XI:K.In h) (Gn:h.Ns C_ mg) (N ps:List Str) (fb:FnS) (A:Af K x st f) (hbd:HZ x st ps)
 (hb:∀ (cdv:g_) (A:G_) (outer:List Env) (s:h_) (H:Hp),RoomM k (A.deeper (NH x (aF st) s.heap.objs.size f cdv))→FSs (cxM P w K mg base N x (aF st) f cdv A outer s H) (dG st) fb) (hF:F=bt N.length fb:=by kernel_rfl) (hs:fnB N ps (aF st)=c_:=by kernel_rfl):Gq P w K mg base x (k + 1) ps F :=
 let ⟨_,Fn⟩:=A.F
 ⟨_,_,DG N ps fb hF Fn (Gy hs) hb,NB XI Gn A.a,A.k,Fn.binds hbd⟩
end
section
theorem AW {X:Cx} {pl:List (k_×Obj)} {e:k_} {k:Nat} (h:Room k X.A):RoomM k (nH X pl e).A:=⟨h.dp,h.un⟩
end
end FD
namespace TS
open PySem PySem.Spec PyProof.Rows L2 FD
def Ia (p q:g_) (e l:Bool):Prop:=∀ (prog:r_) (w:E_) (A:G_) (E:g_→h_→Prop) (s:h_),
 (∀ Q:Bool→h_→Prop,Q e s→w_ (z_ prog w) A (eqBool p q) Q E s)∧(∀ Q:g_→h_→Prop,Q (.bool l) s→w_ (z_ prog w) A (richCompare .Gt p q) Q E s)
inductive vd:List (g_×g_)→List (Bool×Bool)→Prop
 | nil:vd [] []
 | cons {p q:g_} {e l:Bool} {ps:List (g_×g_)} {rs:List (Bool×Bool)}:Ia p q e l→vd ps rs→vd ((p,q) :: ps) ((e,l) :: rs)
section
open PySem.SeqAt
open PySem.AutoSeq1 (wpAny_loadPart')
open PySem.MeetsSeq PySem.MeetsSeq2 PySem.MeetsSeq3
end
end TS
namespace FD
open PySem PySem.Spec PyProof.Rows L2 TS
section
variable {X:Cx}
end
end FD
namespace FD
open PySem PySem.Spec PyProof.Rows L2
def ix (k:Int):List Int→Nat
 | []=>0
 | m :: r=>if m=k then 0 else ix k r + 1
structure S2 (X:Cx) (i k:Nat) (a b:k_) (H:Hp) (σ:L2.St) (Hf:Hp) (ρ:Ev):Prop where
 off:∀ c,c≠a→c≠b→Hf c=H c
 na:H a=ck
 nb:H b=ck
 ne:a≠b
 ia:σ[i]?=a_ (a_ (.ref a))
 kb:σ[k]?=a_ (a_ (.ref b))
 len:σ.length=ρ.length
 low:∀ j d,j≠i→j≠k→ρ[j]?=a_ (a_ d)→∃ v,σ[j]?=a_ (a_ v)∧Rep X.K H d v
 fst:∃ ds xs,ρ[i]?=a_ (a_ (.lst ds))∧Hf a=a_ (.lst xs)∧Reps X.K H ds xs
 snd:∃ es ys,ρ[k]?=a_ (a_ (.lst es))∧Hf b=a_ (.lst ys)∧Reps X.K H es ys
section
variable {X:Cx} {i k:Nat} {a b:k_} {H Hf:Hp} {σ:L2.St} {ρ:Ev}
theorem S2.up (S:S2 X i k a b H σ Hf ρ):Same H Hf:=fun c u q=>by
 rw [S.off c (ax q S.na) (ax q S.nb)]; exact q
theorem S2.grow (S:S2 X i k a b H σ Hf ρ) {Hg:Hp} (e:Same Hf Hg):∃ H',Same H H'∧S2 X i k a b H' σ Hg ρ:=by
 obtain ⟨ds,xs,f1,f2,f3⟩:=S.fst;obtain ⟨es,ys,g1,g2,g3⟩:=S.snd;have up:Same H (fun c=>if c=a∨c=b then ck else Hg c):=fun c u q=>by
  have h1:=ax q S.na;have h2:=ax q S.nb;simp only [h1,h2,or_self,if_false];exact e c u (by rw [S.off c h1 h2]; exact q)
 refine ⟨_,up,⟨fun c h1 h2=>by simp [h1,h2],by simp,by simp,S.ne,S.ia,S.kb,S.len,fun j d h1 h2 h3=>?_,⟨ds,xs,f1,e _ _ f2,Reps.mono up _ _ f3⟩,⟨es,ys,g1,e _ _ g2,Reps.mono up _ _ g3⟩⟩⟩;obtain ⟨v,q1,q2⟩:=S.low j d h1 h2 h3;exact ⟨v,q1,Rep.mono up _ _ q2⟩
theorem S2.put (S:S2 X i k a b H σ Hf ρ) {j:Nat} {d:Dv} {v:V} (h1:j≠i) (h2:j≠k) (r:Rep X.K H d v):S2 X i k a b H (σ.set j (a_ v)) Hf (ρ.set j (a_ d)):=by
 obtain ⟨ds,xs,f1,f2,f3⟩:=S.fst;obtain ⟨es,ys,g1,g2,g3⟩:=S.snd;refine ⟨S.off,S.na,S.nb,S.ne,by rw [J_ h1]; exact S.ia,by rw [J_ h2]; exact S.kb,by rw [Lu,Lu]; exact S.len,fun m d' m1 m2 hm=>?_,⟨ds,xs,by rw [J_ h1]; exact f1,f2,f3⟩,⟨es,ys,by rw [J_ h2]; exact g1,g2,g3⟩⟩;by_cases hj:j=m
 · subst hj;by_cases hl:j < ρ.length
   · rw [K1 hl] at hm;cases hm;exact ⟨v,by rw [K1 (by rw [S.len]; exact hl)],r⟩
   · rw [Mj (by rw [Lu]; omega)] at hm;cases hm
 · rw [J_ hj] at hm;rw [J_ hj];exact S.low m d' m1 m2 hm
end
abbrev FnP:=Ev→Option Ev
def AftP (X:Cx) (i k:Nat) (a b:k_) (H:Hp) (o:Option Ev) (N:L2.St→Hp→Prop):Prop:=∃ ρ',o=a_ ρ'∧∀ σ' H' Hf',Same H H'→S2 X i k a b H' σ' Hf' ρ'→N σ' Hf'
def tP (X:Cx) (i k:Nat) (f:FnP):TS:=fun D σ Hf=>∃ H a b ρ,S2 X i k a b H σ Hf ρ∧AftP X i k a b H (f ρ) D.nx
structure FP (X:Cx) (i k:Nat) (st:LY) (f:FnP):Prop where
 h:PS X st (tP X i k f)
structure FPs (X:Cx) (i k:Nat) (st:List LY) (f:FnP):Prop where
 h:PSs X st (tP X i k f)
section
variable {X:Cx} {i k:Nat} {st:LY} {sts:List LY} {f g:FnP} {fe:FnE} {gb:FnB} {e c:F_} {pos:Pos}
theorem AftP.mono {a b:k_} {H H':Hp} {o:Option Ev} {N:L2.St→Hp→Prop} (e:Same H H'):AftP X i k a b H o N→AftP X i k a b H' o N
 | ⟨ρ',h,q⟩=>⟨ρ',h,fun σ' H1 Hf' e1=>q σ' H1 Hf' (e.trans e1)⟩
end
section
variable {X:Cx} {elt iter:F_} {x y z w:Str} {px py pz pw pt pos:Pos} {ifs:List F_} {scope:Me} {k:Nat} {src:FnA} {tst:Option FnB} {fe:FnE} {cs:List (Str×Nat)}
end
section
variable {X:Cx} {i k:Nat} {st:LY} {sts:List LY} {f g:FnP} {fe:FnE} {gb:FnB} {e c:F_} {pos:Pos}
end
section
variable {X:Cx} {i:Nat} {e:F_} {fe:FnE} {pos:Pos}
end
def jA (i:Nat) (fi fe:FnE):gH:=fun ρ ds=>lz (fe (ρ.set i (a_ (.lst ds)))) fun d=>if imm d=c_ then lz (fi (ρ.set i (a_ (.lst ds)))) fun k=>(match k with
 | .int k=>if 0≤k∧k < ds.length then a_ (.nx ρ (ds.set k.toNat d)) else ck
 | _=>ck) else ck
def nR (i j:Nat) (f:FnE):gH:=fun ρ ds=>lz (f (ρ.set i (a_ (.lst ds)))) fun d=>match d with
 | .lst ys=>if imms ys=c_ then a_ (.nx (ρ.set j (a_ (.lst ys))) ds) else ck
 | _=>ck
theorem nU {K:e_} {H:Hp} {a:k_} {xs:List V}:∀ {ds:List Dv} {vs:List V},imms ds=c_→Reps K (upd H a (.lst xs)) ds vs→Reps K H ds vs
 | [],vs,_,r=>(show vs=[] from r)
 | d :: ds,vs,i,r=>by
  have i':imm d=c_∧imms ds=c_:=by simpa [imms] using i
  obtain ⟨v,us,rfl,r1,r2⟩:∃ v us,vs=v :: us∧Rep K (upd H a (.lst xs)) d v∧Reps K (upd H a (.lst xs)) ds us:=r;exact ⟨v,us,rfl,l4 i'.1 r1,nU i'.2 r2⟩
theorem xO {H:Hp} {a b:k_} {o u:HO} (h:b≠a):upd (upd H a o) b u=upd (upd H b u) a o:=by
 funext c;unfold upd;by_cases h1:c=b
 · subst h1;rw [if_pos rfl,if_neg h,if_pos rfl]
 · by_cases h2:c=a
   · subst h2; rw [if_neg h1,if_pos rfl,if_pos rfl]
   · rw [if_neg h1,if_neg h2,if_neg h2,if_neg h1]
section
variable {X:Cx} {i:Nat} {st:LY} {fc:FnE}
theorem xP (j:Nat) (hij:i≠j) (h1:PS X st (tC X j fc)):FO1 X i st (nR i j fc):=⟨fun f' s σ Hf D I ⟨H,a,xs,ρ,ds,e1,ha,hia,E,r,o⟩=>by
 subst e1;refine h1 f' s σ _ D I ⟨_,eZ ha hia E r,?_⟩;unfold nR at o
 match hfe:fc (ρ.set i (a_ (.lst ds))) with
 | none=>rw [hfe] at o; exact o.elim
 | some (.exc _)=>rw [hfe] at o; exact o.elim
 | some (.ok d) =>
  rw [hfe] at o;cases d <;> try exact (show False from o).elim
  rename_i ys;have o2:OutW X i a H (if imms ys=c_ then a_ (.nx (ρ.set j (a_ (.lst ys))) ds) else ck) D:=o;split at o2
  · rename_i im;refine ⟨ys,rfl,fun H5 p vs e5 hp rs=>?_⟩;obtain ⟨H',q1,q2,q3⟩:=kr ha e5;subst q1;have hpa:p≠a:=fun z=>by subst z; rw [aA] at hp; cases hp
    have hp':H' p=ck:=by rw [aB hpa] at hp; exact hp
    rw [xO hpa];have e6:Same H (upd H' p (.lst vs)):=q3.trans (aE hp' _);exact o2 _ (upd H' p (.lst vs)) xs e6 (by rw [aB (M8 hpa)]; exact q2) (by rw [J_ (M8 hij)]; exact hia) ((E.mono e6).set ⟨p,vs,rfl,aA,Reps.mono (aE hp' _) _ _ (nU im rs)⟩) (Reps.mono e6 _ _ r)
  · exact o2.elim⟩
end
section
variable {X:Cx} {i:Nat} {e ix:F_} {fe fi:FnE} {pos ps:Pos}
theorem ve {x:Str} {apos:Pos} (hx:PE X (.Name x apos) (zo i)) (hi:FE X ix fi) (he:FE X e fe)
 (hs:Pb [.Subscript (.Name x apos) ix ps] e pos.line X.env=pure d_:=by kernel_rfl) (hw:Pc [.Subscript (.Name x apos) ix ps] e X.env=pure ck:=by kernel_rfl)
 (h1:(K4 [.Subscript (.Name x apos) ix ps] X.env).map (·.2)=[MN (.Subscript (.Name x apos) ix ps) X.env]:=by kernel_rfl)
 (ha:∀ v,MN (.Subscript (.Name x apos) ix ps) X.env v=(do let ov ← Nn [v] (eval (.Name x apos) X.env); let iv ← Nn [v,ov] (eval ix X.env); RU ps; Nn [v,ov,iv] (setItem ov iv v); release [v,ov,iv] []):=by intro _; kernel_rfl) :
 FO1 X i (.Assign [.Subscript (.Name x apos) ix ps] e pos) (jA i fi fe):=⟨fun f' s σ Hf D I ⟨H,a,xs,ρ,ds,e1,ha',hia,E,r,o⟩=>by
 subst e1;refine sV he.h (yr hx hi.h qr ha) hs hw h1 f' s σ _ D I ⟨_,eZ ha' hia E r,?_⟩;unfold jA at o
 match hfe:fe (ρ.set i (a_ (.lst ds))) with
 | none=>rw [hfe] at o; exact o.elim
 | some (.exc _)=>rw [hfe] at o; exact o.elim
 | some (.ok d) =>
  rw [hfe] at o;have o2:OutW X i a H (if imm d=c_ then lz (fi (ρ.set i (a_ (.lst ds)))) fun k=>(match k with
   | .int k=>if 0≤k∧k < ds.length then a_ (.nx ρ (ds.set k.toNat d)) else ck
   | _=>ck) else ck) D:=o
  split at o2
  · rename_i im;intro v H2 e2 rd;obtain ⟨H',q1,q2,q3⟩:=kr ha' e2;subst q1;refine ⟨.ref a,hia,_,eZ q2 hia (E.mono q3) (Reps.mono q3 _ _ r),?_⟩
    match hfi:fi (ρ.set i (a_ (.lst ds))) with
    | none=>dsimp only [lz] at o2; rw [hfi] at o2; exact o2.elim
    | some (.exc _)=>dsimp only [lz] at o2; rw [hfi] at o2; exact o2.elim
    | some (.ok k) =>
     dsimp only [lz] at o2;rw [hfi] at o2;dsimp only at o2;intro w H3 e3 rk;obtain ⟨H'',p1,p2,p3⟩:=kr q2 e3;subst p1;cases k <;> try exact (show False from o2).elim
     rename_i k;dsimp only at o2;split at o2
     · rename_i hk;cases (show w=.int k from rk);have hl:=r.length;have hj:ixN xs.length k=a_ k.toNat:=by
        unfold ixN;rw [if_pos hk.1,if_pos (by omega)]
       refine ⟨a,xs,k,k.toNat,rfl,rfl,aA,hj,?_⟩;rw [oZ];exact o2 σ H'' (xs.set k.toNat v) (q3.trans p3) p2 hia (E.mono (q3.trans p3)) (Reps.set (Rep.mono p3 _ _ (l4 im rd)) k.toNat (Reps.mono (q3.trans p3) _ _ r))
     · exact o2.elim
  · exact o2.elim⟩
end
def tFr (X:Cx) (fc:FnE):TE:=fun σ H Q=>∃ ρ,Envs X.K H σ ρ∧match fc ρ with
 | none=>False
 | some (.exc c)=>XW X c H
 | some (.ok d)=>∃ ys,d=.lst ys∧∀ H5 p vs,Same H H5→H5 p=ck→Reps X.K H5 ys vs→Q (.ref p) (upd H5 p (.lst vs))
theorem xQ {X:Cx} {tg elt iter:F_} {ifs:List F_} {scope:Me} {pos:Pos} {src:FnA} {tst:Option FnB} {fe:FnE} {b:Dv→Ev→Option Ev} (osc:Me) (N ns:List Str) (js:List Nat) (cs:List (Str×Nat)) (hosc:X.env.scope=osc) (hN:X.N=N) (ok:iF osc scope cs N) (hcl:M3 scope X.env=pure (jt scope.names X.env [])) (hc:X.calm=c_)
 (hback:∀ ρ d ρ',b d (gq ns.length cs ρ)=a_ ρ'→fgt js ρ'=gq ns.length cs ρ)
 (hi:FIG X tg iter src) (htg:∀ C s H fp,FG (aq X (ns ++ cs.map (·.1)) scope C s H fp) tg b) (helt:∀ C s H fp,FE (aq X (ns ++ cs.map (·.1)) scope C s H fp) elt fe) (hifs:∀ C s H fp,rK (aq X (ns ++ cs.map (·.1)) scope C s H fp) ifs tst)
 (hs:∀ x,K_ iter X.env x=pure x:=by intro _; kernel_rfl):PE X (.ListComp elt [⟨tg,iter,ifs,0⟩] scope pos) (tFr X (bB ns.length cs src b tst fe)):=by
 subst hosc hN;intro f' s σ H Q I h;obtain ⟨ρ,E,o⟩:=h
 match ho:bB ns.length cs src b tst fe ρ with
 | none=>rw [ho] at o; exact o.elim
 | some r =>
  rw [ho] at o;rw [eval_ListComp];have key:OutG X H (src ρ) fun J H'=>∃ ds ys,Same H H'∧WkG X.K J ds H'∧ds.length≤100000∧ys.length≤100000∧iW b tst fe (gq ns.length cs ρ) ds=a_ ys∧(∀ H5 p vs,Same H' H5→H5 p=ck→Reps X.K H5 ys vs→Q (.ref p) (upd H5 p (.lst vs))):=by
   rcases Gm ho with ⟨c,e1,e2⟩ | ⟨ds,ys,e1,e2,l1,l2,e3⟩
   · subst e2; rw [e1]; exact o
   · subst e3; rw [e1]; obtain ⟨ys',ey,o⟩:=o; cases ey; exact fun J H' e wk=>⟨ds,ys,e,wk,l1,l2,e2,fun H5 p vs e3 hp r=>o H5 p vs (e.trans e3) hp r⟩
  refine NA (use:=ck) rfl hs hcl ok.kind ok.names (thn (hi.h f' s σ H _ I ⟨ρ,E,key⟩) fun v s1 h1=>thn h1 fun itv s2 h2=>?_);obtain ⟨it,fp,tn,J,H2,e,I2,T,st2,f2,ds,ys,e12,wk,hdl,hyl,hm,hQ⟩:=h2;subst e;refine jz cs ok hc htg (fun C s H fp _=>helt C s H fp) (fun C s H fp _=>hifs C s H fp) hback (E.mono e12) I2 T st2 f2 wk hdl hyl hm (RR:=fun acc C=>compPost (z_ X.prog X.w) X.A X.xe ck (EP X f' σ Q) acc C) fun D C s6 H5 vs m6 I6 D5 e5 r5 n6 C6 CD hC=>?_;refine ⟨m6,n6,fun h7 sb7=>?_⟩;have Cn:(upd H5 D (.lst vs)) C=ck:=by rw [aB CD]; exact C6
  obtain ⟨q0,q1,q2,q3,q4,q5⟩:=I2.fpOk hC Cn;have I7:Inv X f' σ (upd H5 D (.lst vs)) { s6 with heap:=h7 }:=I6.turned (t':=s6.toks) (fun b o hb e=>sb7.extBut b o hb e) q0 q1 q3 q4 q5;exact ⟨.ref D,_,I7,rfl,hQ _ _ _ e5 D5 r5⟩
theorem Ib {X:Cx} {e:F_} {fc:FnE} {j:Nat} {y:Str} {py spos:Pos} (h:PE X e (tFr X fc)) (hN:X.N.Nodup) (hi:X.N[j]?=a_ y) (hx:Loc X.env.scope y) (hs:Mg e (a_ (.Name y py)) spos.line X.env=pure d_) (hf:X.fn y=c_):PS X (.Assign [.Name y py] e spos) (tC X j fc):=fun f' s σ H D I ⟨ρ,E,o⟩=>by
 refine qh hN hi hx h hs (.inl hf) f' s σ H D I ⟨ρ,E,?_⟩
 match hfc:fc ρ with
 | none=>rw [hfc] at o; exact o.elim
 | some (.exc c)=>rw [hfc] at o; exact o
 | some (.ok d)=>rw [hfc] at o; exact o
section
variable {X:Cx} {elt iter:F_} {ifs:List F_} {scope:Me} {pos px py pt p2 spos:Pos} {src:FnA} {tst:Option FnB} {fe:FnE} {x y z:Str} {cs:List (Str×Nat)} {i j k:Nat}
theorem AX (hi:FIG X (.Tuple [.Name x px,.Name z p2] k pt) iter src) (helt:∀ C s H fp,FE (aq X (x :: z :: cs.map (·.1)) scope C s H fp) elt fe) (hifs:∀ C s H fp,rK (aq X (x :: z :: cs.map (·.1)) scope C s H fp) ifs tst)
 (hij:Qs i j=d_:=by kernel_rfl)
 (hsw:Mg (.ListComp elt [⟨.Tuple [.Name x px,.Name z p2] k pt,iter,ifs,0⟩] scope pos) (a_ (.Name y py)) spos.line X.env=pure d_:=by kernel_rfl)
 (hN:ndB X.N=c_:=by kernel_rfl) (hiy:X.N[j]?=a_ y:=by kernel_rfl) (hxy:jo X.env.scope y=c_:=by kernel_rfl) (hfy:X.fn y=c_:=by kernel_rfl)
 (hok:yZ X.env.scope scope cs X.N=c_:=by kernel_rfl) (hcl:M3 scope X.env=pure (jt scope.names X.env []):=by kernel_rfl) (hc:X.calm=c_:=by kernel_rfl) (hnd:ndB (x :: z :: cs.map (·.1))=c_:=by kernel_rfl) (hl:jo scope x=c_:=by kernel_rfl) (hl2:jo scope z=c_:=by kernel_rfl)
 (hs:∀ x,K_ iter X.env x=pure x:=by intro _; kernel_rfl):FO1 X i (.Assign [.Name y py] (.ListComp elt [⟨.Tuple [.Name x px,.Name z p2] k pt,iter,ifs,0⟩] scope pos) spos) (nR i j (bB 2 cs src (gP 0 1) tst fe)) :=
 xP j (N1 hij) (Ib (xQ X.env.scope X.N [x,z] [0,1] cs rfl rfl (qX hok) hcl hc (Dt _) hi (fun C s H fp=>Jt C s H fp hc hnd rfl rfl hl hl2 rfl rfl rfl rfl) helt hifs hs) (i5 hN) hiy (fY hxy) hsw hfy)
end
theorem pI {c:FnB} {f g:FnS} {ρ:Ev} (h:c ρ=a_ (.ok c_)):aM c f g ρ=f ρ:=by
 unfold aM; rw [h]; rfl
theorem ba {α:Type} {p:α→Bool} {l:List α} (h:l.all p=c_) {x:α} (hx:x∈l):p x=c_:=Lk.mp h x hx
end FD
namespace G
open PySem PySem.Spec PyProof.Rows L2 FD
def top (i:Nat):LY:=PySem.Challenge.pw_notejar_k51_taken.main.body.getD i (.Pass ⟨0,0,0,0⟩)
section
variable {X:Cx} {a b c o e:F_} {es:List F_} {fa fb fc fo:FnE} {ga:FnA} {pos p pt apos cpos:Pos}
theorem Et (ha:FE X a fa) (hb:FE X b fb):FE X (.BinOp a .Add b pos) (f2 cZ fa fb):=pd o_add CV ha hb
theorem Eu (ha:FE X a fa) (hb:FE X b fb):FE X (.BinOp a .Add b pos) (f2 bZ fa fb):=pd DM DN ha hb
theorem Ew (ha:FE X a fa) (hb:FE X b fb):FE X (.BinOp a .Sub b pos) (f2 yD fa fb):=pd Ca Hd ha hb
theorem Ex (ha:FE X a fa) (hb:FE X b fb):FE X (.BinOp a .Mult b pos) (f2 jR fa fb):=pd yt CW ha hb
theorem Ey (ha:FE X a fa) (hb:FE X b fb):FE X (.BinOp a .Mod b pos) (f2 iQ fa fb):=pd Cb He ha hb
theorem AY (ha:FE X a fa) (hb:FE X b fb):FE X (.BinOp a .FloorDiv b pos) (f2 iU fa fb):=pd zr CY ha hb
theorem Ez (ha:FE X a fa) (hb:FE X b fb):FE X (.BinOp a .Mult b pos) (f2 oY fa fb):=pd D8 Ea ha hb
theorem EA (hu:X.A.units + 64 < cLine) (ha:FE X a fa) (hb:FE X b fb) (hm:K3 .Eq b=d_:=by kernel_rfl):FT X (.Compare a [.Eq] [b] pos) (fB (f2 eqX fa fb)):=gL (Dg hu) Dh ha hb hm
theorem EB (hu:X.A.units + 64 < cLine) (ha:FE X a fa) (hb:FE X b fb) (hm:K3 .NotEq b=d_:=by kernel_rfl):FT X (.Compare a [.NotEq] [b] pos) (fB (f2 neX fa fb)):=gL (Hq hu) Hr ha hb hm
theorem EC (ha:FE X a fa) (hb:FE X b fb) (hm:K3 .Lt b=d_:=by kernel_rfl):FT X (.Compare a [.Lt] [b] pos) (fB (f2 ltX fa fb)):=gL Di Dj ha hb hm
theorem ED (ha:FE X a fa) (hb:FE X b fb) (hm:K3 .LtE b=d_:=by kernel_rfl):FT X (.Compare a [.LtE] [b] pos) (fB (f2 leX fa fb)):=gL DZ D1 ha hb hm
theorem EG (ha:FE X a fa) (hb:FE X b fb) (hm:K3 .Gt b=d_:=by kernel_rfl):FT X (.Compare a [.Gt] [b] pos) (fB (f2 gtD fa fb)):=gL Cd (C7 _) ha hb hm
theorem EH (ha:FE X a fa) (hb:FE X b fb) (hm:K3 .Is b=d_:=by kernel_rfl):FT X (.Compare a [.Is] [b] pos) (fB (f2 isN fa fb)):=gL yu C8 ha hb hm
theorem AZ (ha:FE X a fa) (hb:FE X b fb) (hm:K3 .IsNot b=d_:=by kernel_rfl):FT X (.Compare a [.IsNot] [b] pos) (fB (f2 cP fa fb)):=gL tt yG ha hb hm
theorem A0 (hu:X.A.units < cLine) (ha:FE X a fa) (hb:FE X b fb) (hm:K3 .Eq b=d_:=by kernel_rfl):FT X (.Compare a [.Eq] [b] pos) (fB (f2 Gi fa fb)):=gL (Hn hu) Ho ha hb hm
theorem EI (ha:FE X a fa) (hb:FE X b fb) (hm:K3 .In b=d_:=by kernel_rfl):FT X (.Compare a [.In] [b] pos) (fB (f2 inD fa fb)):=gL o_in Hj ha hb hm
theorem EJ (hu:X.A.units + 64 < cLine) (ha:FE X a fa) (hb:FE X b fb) (hm:K3 .In b=d_:=by kernel_rfl):FT X (.Compare a [.In] [b] pos) (fB (f2 inX fa fb)):=gL (HB hu) HC ha hb hm
theorem vf (hu:X.A.units + 64 < cLine) (ha:FE X a fa) (hb:FE X b fb) (hm:K3 .NotIn b=d_:=by kernel_rfl):FT X (.Compare a [.NotIn] [b] pos) (fB (f2 gR fa fb)):=gL (xf hu) xg ha hb hm
theorem EK (hu:X.A.units + 64 < cLine) (ha:FE X a fa) (hb:FE X b fb) (hm:K3 .Eq b=d_:=by kernel_rfl):FE X (.Compare a [.Eq] [b] pos) (f2 eqX fa fb):=jO (Dg hu) Dh ha hb hm
theorem EM (ha:FE X a fa) (hb:FE X b fb) (hm:K3 .Lt b=d_:=by kernel_rfl):FE X (.Compare a [.Lt] [b] pos) (f2 ltX fa fb):=jO Di Dj ha hb hm
theorem EN (ha:FE X a fa) (hb:FE X b fb) (hm:K3 .LtE b=d_:=by kernel_rfl):FE X (.Compare a [.LtE] [b] pos) (f2 leX fa fb):=jO DZ D1 ha hb hm
theorem EO (ha:FE X a fa) (hb:FE X b fb) (hm:K3 .Gt b=d_:=by kernel_rfl):FE X (.Compare a [.Gt] [b] pos) (f2 gtD fa fb):=jO Cd (C7 _) ha hb hm
theorem EQ (ha:FE X a fa) (hb:FE X b fb) (hm:K3 .Is b=d_:=by kernel_rfl):FE X (.Compare a [.Is] [b] pos) (f2 isN fa fb):=jO yu C8 ha hb hm
theorem Ba (ha:FE X a fa) (hb:FE X b fb) (hm:K3 .IsNot b=d_:=by kernel_rfl):FE X (.Compare a [.IsNot] [b] pos) (f2 cP fa fb):=jO tt yG ha hb hm
theorem ES (ha:FE X a fa) (hb:FE X b fb) (hm:K3 .In b=d_:=by kernel_rfl):FE X (.Compare a [.In] [b] pos) (f2 inD fa fb):=jO o_in Hj ha hb hm
theorem vg (ha:FE X a fa) (hb:FE X b fb) (hm:K3 .NotIn b=d_:=by kernel_rfl):FE X (.Compare a [.NotIn] [b] pos) (f2 nu fa fb):=jO o_notIn uc ha hb hm
theorem ET (hm:X.mg "isinstance"=ck) (hn:X.mg "int"=ck) (ha:FE X a fa) (hg:X.env.kindOf (b_ "isinstance")=a_ .globalImplicit:=by kernel_rfl) (hg2:X.env.kindOf (b_ "int")=a_ .globalImplicit:=by kernel_rfl) (hs1:i_ [a,.Name (b_ "int") pt] X.env=(d_,eval a X.env) :: i_ [.Name (b_ "int") pt] X.env:=by kernel_rfl) (hs2:i_ [.Name (b_ "int") pt] X.env=(d_,eval (.Name (b_ "int") pt) X.env) :: i_ [] X.env:=by kernel_rfl) (hpl:(Lr pos (i_ [.Name (b_ "int") pt] X.env)).any (·.1)=d_:=by kernel_rfl):FE X (.Call (.Name "isinstance" p) [a,.Name (b_ "int") pt] [] pos) (f1 (cQ bW) fa):=qz (T:="int") Aq DW (by decide +kernel) (by kernel_rfl) hg hm hg2 hn ha hs1 hs2 hpl
theorem EU (hm:X.mg "isinstance"=ck) (hn:X.mg "str"=ck) (ha:FE X a fa) (hg:X.env.kindOf (b_ "isinstance")=a_ .globalImplicit:=by kernel_rfl) (hg2:X.env.kindOf (b_ "str")=a_ .globalImplicit:=by kernel_rfl) (hs1:i_ [a,.Name (b_ "str") pt] X.env=(d_,eval a X.env) :: i_ [.Name (b_ "str") pt] X.env:=by kernel_rfl) (hs2:i_ [.Name (b_ "str") pt] X.env=(d_,eval (.Name (b_ "str") pt) X.env) :: i_ [] X.env:=by kernel_rfl) (hpl:(Lr pos (i_ [.Name (b_ "str") pt] X.env)).any (·.1)=d_:=by kernel_rfl):FE X (.Call (.Name "isinstance" p) [a,.Name (b_ "str") pt] [] pos) (f1 (cQ bT) fa):=qz (T:="str") zS Dd (by decide +kernel) (by kernel_rfl) hg hm hg2 hn ha hs1 hs2 hpl
theorem xR (hm:X.mg "isinstance"=ck) (hn:X.mg "tuple"=ck) (ha:FE X a fa) (hg:X.env.kindOf (b_ "isinstance")=a_ .globalImplicit:=by kernel_rfl) (hg2:X.env.kindOf (b_ "tuple")=a_ .globalImplicit:=by kernel_rfl) (hs1:i_ [a,.Name (b_ "tuple") pt] X.env=(d_,eval a X.env) :: i_ [.Name (b_ "tuple") pt] X.env:=by kernel_rfl) (hs2:i_ [.Name (b_ "tuple") pt] X.env=(d_,eval (.Name (b_ "tuple") pt) X.env) :: i_ [] X.env:=by kernel_rfl) (hpl:(Lr pos (i_ [.Name (b_ "tuple") pt] X.env)).any (·.1)=d_:=by kernel_rfl):FE X (.Call (.Name "isinstance" p) [a,.Name (b_ "tuple") pt] [] pos) (f1 (cQ bV) fa):=qz (T:="tuple") zT wM (by decide +kernel) (by kernel_rfl) hg hm hg2 hn ha hs1 hs2 hpl
theorem Bb (hm:X.mg "isinstance"=ck) (hn:X.mg "bool"=ck) (ha:FE X a fa) (hg:X.env.kindOf (b_ "isinstance")=a_ .globalImplicit:=by kernel_rfl) (hg2:X.env.kindOf (b_ "bool")=a_ .globalImplicit:=by kernel_rfl) (hs1:i_ [a,.Name (b_ "bool") pt] X.env=(d_,eval a X.env) :: i_ [.Name (b_ "bool") pt] X.env:=by kernel_rfl) (hs2:i_ [.Name (b_ "bool") pt] X.env=(d_,eval (.Name (b_ "bool") pt) X.env) :: i_ [] X.env:=by kernel_rfl) (hpl:(Lr pos (i_ [.Name (b_ "bool") pt] X.env)).any (·.1)=d_:=by kernel_rfl):FE X (.Call (.Name "isinstance" p) [a,.Name (b_ "bool") pt] [] pos) (f1 (cQ aO) fa):=qz (T:="bool") wK zY (by decide +kernel) (by kernel_rfl) hg hm hg2 hn ha hs1 hs2 hpl
theorem mn (ho:FE X o fo) (ha:FA X (e :: es) ga) (h:SmL X o "startswith" e es apos cpos:=by exact ⟨by kernel_rfl,by kernel_rfl,by kernel_rfl,by kernel_rfl,by kernel_rfl⟩):FE X (.Call (.Attribute o "startswith" apos) (e :: es) [] cpos) (fM (jS A_) fo ga):=mj PySem.F.slot_str_startswith PySem.F.type_str_startswith Hl yK ho ha h
theorem pJ (ho:FE X o fo) (ha:FA X (e :: es) ga) (h:SmL X o "endswith" e es apos cpos:=by exact ⟨by kernel_rfl,by kernel_rfl,by kernel_rfl,by kernel_rfl,by kernel_rfl⟩):FE X (.Call (.Attribute o "endswith" apos) (e :: es) [] cpos) (fM (jS Np) fo ga):=mj PySem.F.slot_str_endswith PySem.F.type_str_endswith Hm yK ho ha h
theorem xS (ho:FE X o fo) (ha:FA X (e :: es) ga) (h:SmL X o "split" e es apos cpos:=by exact ⟨by kernel_rfl,by kernel_rfl,by kernel_rfl,by kernel_rfl,by kernel_rfl⟩):FE X (.Call (.Attribute o "split" apos) (e :: es) [] cpos) (fM (fV) fo ga):=mj NS PySem.F.type_str_split wN zZ ho ha h
theorem Bc (ho:FE X o fo) (ha:FA X (e :: es) ga) (h:SmL X o "join" e es apos cpos:=by exact ⟨by kernel_rfl,by kernel_rfl,by kernel_rfl,by kernel_rfl,by kernel_rfl⟩):FE X (.Call (.Attribute o "join" apos) (e :: es) [] cpos) (fM (ud) fo ga):=mj PySem.F.slot_str_join PySem.F.type_str_join z0 Dl ho ha h
theorem nV (ho:FE X o fo) (ha:FA X (e :: es) ga) (h:SmL X o "partition" e es apos cpos:=by exact ⟨by kernel_rfl,by kernel_rfl,by kernel_rfl,by kernel_rfl,by kernel_rfl⟩):FE X (.Call (.Attribute o "partition" apos) (e :: es) [] cpos) (fM (lW) fo ga):=mj Pj PySem.F.type_str_partition z4 Do ho ha h
theorem xT (ho:FE X o fo) (ha:FA X (e :: es) ga) (h:SmL X o "strip" e es apos cpos:=by exact ⟨by kernel_rfl,by kernel_rfl,by kernel_rfl,by kernel_rfl,by kernel_rfl⟩):FE X (.Call (.Attribute o "strip" apos) (e :: es) [] cpos) (fM (ko) fo ga):=mj PySem.F.slot_str_strip PySem.F.type_str_strip w6 Ae ho ha h
theorem xU (ho:FE X o fo) (ha:FA X (e :: es) ga) (h:SmL X o "rfind" e es apos cpos:=by exact ⟨by kernel_rfl,by kernel_rfl,by kernel_rfl,by kernel_rfl,by kernel_rfl⟩):FE X (.Call (.Attribute o "rfind" apos) (e :: es) [] cpos) (fM (yJ Qq) fo ga):=mj PySem.F.slot_str_rfind PySem.F.type_str_rfind wL yL ho ha h
theorem Bd (ho:FE X o fo) (ha:FA X (e :: es) ga) (h:SmL X o "find" e es apos cpos:=by exact ⟨by kernel_rfl,by kernel_rfl,by kernel_rfl,by kernel_rfl,by kernel_rfl⟩):FE X (.Call (.Attribute o "find" apos) (e :: es) [] cpos) (fM (yJ Txt.find) fo ga):=mj PySem.F.slot_str_find PySem.F.type_str_find zW yL ho ha h
theorem EW (ho:FE X o fo) (ha:FA X (e :: es) ga) (h:SmL X o "index" e es apos cpos:=by exact ⟨by kernel_rfl,by kernel_rfl,by kernel_rfl,by kernel_rfl,by kernel_rfl⟩):FE X (.Call (.Attribute o "index" apos) (e :: es) [] cpos) (fM BM fo ga):=mj PySem.F.slot_str_index PySem.F.type_str_index DP HE ho ha h
theorem dN {x:Str} (h:FE X (.Name x p) fa):FE X (.Name x p) fa:=h
theorem dC {k:Const} {n:Nat} (h:FE X (.Constant k n p) fa):FE X (.Constant k n p) fa:=h
theorem dA (h:FA X es ga):FA X es ga:=h
theorem dK {x:Str} {ks:List MR} (h:FE X (.Call (.Name x p) es ks pos) fa):FE X (.Call (.Name x p) es ks pos) fa:=h
theorem dM {x:Str} {ks:List MR} (h:FE X (.Call (.Attribute o x p) es ks pos) fa):FE X (.Call (.Attribute o x p) es ks pos) fa:=h
theorem dB {op:Operator} (h:FE X (.BinOp a op b pos) fa):FE X (.BinOp a op b pos) fa:=h
theorem dQ {ops:List CmpOp} (h:FE X (.Compare a ops es pos) fa):FE X (.Compare a ops es pos) fa:=h
theorem dT {fb:FnB} (h:FT X a fb):FT X a fb:=h
theorem dW {fb:FnB} (h:FW X a fb):FW X a fb:=h
theorem dE (h:FE X a fa):FE X a fa:=h
theorem dSs {st:List LY} {f:FnS} (h:FSs X st f):FSs X st f:=h
theorem dS {st:LY} {f:FnS} (h:FS X st f):FS X st f:=h
end
local macro_rules | `(tactic| walk_at "x")=>`(tactic| (first
 | with_reducible (refine dN ?_; first
  | exact G6 _ (by kernel_rfl) (by kernel_rfl!)
  | exact G7 _ (by kernel_rfl) (by kernel_rfl!)
  | exact HS (by with_unfolding_all assumption) (by kernel_rfl!)
  | exact HU (by with_unfolding_all assumption) (by kernel_rfl!))
 | with_reducible (refine dC ?_; first
  | exact Cu
  | exact Cw
  | exact G8
  | exact Cv)
 | with_reducible (refine dA ?_; first
  | exact tU
  | refine pk ?_ ?_)
 | with_reducible (refine dK ?_; first
  | refine xI (by with_unfolding_all assumption) (by with_unfolding_all assumption) (by kernel_rfl!) ?_
  | refine u9 (by with_unfolding_all assumption) (by with_unfolding_all assumption) (by kernel_rfl!) (by kernel_rfl) ?_
  | refine vb (by with_unfolding_all assumption) (by with_unfolding_all (first | assumption | exact RoomM.of (by assumption) | exact AW (by assumption))) (by kernel_rfl!) ?_
  | refine rW ?_ (by kernel_rfl) (glb (by kernel_rfl)) ?_ (glb (by kernel_rfl)) ?_ ?_
  | refine Db (glb (by kernel_rfl)) ?_ ?_
  | refine wO (glb (by kernel_rfl)) ?_ ?_
  | refine Ah (glb (by kernel_rfl)) ?_ ?_
  | refine xu (glb (by kernel_rfl)) ?_ ?_
  | refine Az (glb (by kernel_rfl)) ?_ ?_
  | refine As (glb (by kernel_rfl)) ?_ ?_
  | refine Dc (by kernel_rfl) (glb (by kernel_rfl)) ?_ ?_
  | refine AG (by kernel_rfl) (glb (by kernel_rfl)) ?_ ?_
  | refine Eh (by kernel_rfl) (glb (by kernel_rfl)) ?_ ?_
  | refine DX (by kernel_rfl) (glb (by kernel_rfl)) ?_ ?_
  | refine DY (by kernel_rfl) (glb (by kernel_rfl)) ?_ ?_
  | refine ET ?_ ?_ ?_
  | refine EU ?_ ?_ ?_
  | refine xR ?_ ?_ ?_
  | refine Bb ?_ ?_ ?_
  | refine DF (T:="ValueError") (by with_unfolding_all exact XAllS.xtV (by assumption)) lZ (by decide +kernel) (by kernel_rfl) (glb (by kernel_rfl)) ?_ (glb (by kernel_rfl)) ?_ ?_
  | refine DE (by with_unfolding_all exact XAllS.xtO (by assumption) _ (by decide)) (by with_unfolding_all exact CA.c (by assumption) (by decide) rfl) (glb (by kernel_rfl)) (by kernel_rfl) (glb (by kernel_rfl)) ?_ ?_)
 | with_reducible (refine dM ?_; first
  | refine mn ?_ ?_
  | refine pJ ?_ ?_
  | refine xS ?_ ?_
  | refine Bc ?_ ?_
  | refine nV ?_ ?_
  | refine xT ?_ ?_
  | refine xU ?_ ?_
  | refine Bd ?_ ?_
  | refine EW ?_ ?_
  | refine w4 ?_ ?_
  | refine wQ ?_ ?_)
 | with_reducible (refine dB ?_; first
  | refine Et ?_ ?_
  | refine Eu ?_ ?_
  | refine Ew ?_ ?_
  | refine Ex ?_ ?_
  | refine Ey ?_ ?_
  | refine AY ?_ ?_
  | refine Ez ?_ ?_)
 | with_reducible (refine dQ ?_; first
  | refine EK ?_ ?_ ?_
  | refine EM ?_ ?_
  | refine EN ?_ ?_
  | refine EO ?_ ?_
  | refine EQ ?_ ?_
  | refine Ba ?_ ?_
  | refine ES ?_ ?_
  | refine vg ?_ ?_)
 | with_reducible (refine dT ?_; first
  | refine EA ?_ ?_ ?_
  | refine EB ?_ ?_ ?_
  | refine EC ?_ ?_
  | refine ED ?_ ?_
  | refine EG ?_ ?_
  | refine EH ?_ ?_
  | refine AZ ?_ ?_
  | refine A0 ?_ ?_ ?_
  | refine EI ?_ ?_
  | refine EJ ?_ ?_ ?_
  | refine vf ?_ ?_ ?_
  | refine FW.ft (yA ?_ ?_)
  | refine FW.ft (CB ?_ ?_)
  | refine CF ?_
  | refine Cy ?_)
 | with_reducible (refine dW ?_; first
  | refine yA ?_ ?_
  | refine CB ?_ ?_
  | refine zI ?_
  | refine Cz ?_)
 | with_reducible (refine dE ?_; first
  | refine Es ?_ ?_
  | refine CM ?_
  | refine CL ?_
  | refine CG ?_
  | refine CH ?_ ?_
  | refine G9 ?_ ?_
  | refine CI ?_
  | refine CZ ?_
  | refine Ha ?_ ?_ ?_
  | refine Da ?_ ?_ ?_
  | refine Ag ?_ ?_ ?_
  | refine HV ?_ ?_ ?_
  | refine HX ?_ ?_ ?_)
 | with_reducible (refine dSs ?_; first
  | exact zJ
  | refine pq ?_
  | refine Er ?_ ?_ ?_ ?_
  | refine xL ?_ ?_
  | refine wE ?_ ?_)
 | with_reducible (refine dS ?_; first
  | refine tV ?_
  | refine Hb ?_ ?_ ?_
  | refine zK ?_
  | refine HW ?_ ?_ ?_ (by kernel_rfl!)
  | refine AQ ?_
  | refine Dw (by kernel_rfl) ?_ ?_
  | refine AS ?_ ?_ ?_
  | refine xM ?_ ?_ ?_
  | refine wU _ (by with_unfolding_all exact XAllS.xc (by assumption) _ (by decide)) (by kernel_rfl) (by with_unfolding_all exact CA.c (by assumption) (by decide) rfl) (by kernel_rfl) (by kernel_rfl) (glb (by kernel_rfl)) ?_
  | refine DH _ _ _ (by kernel_rfl) (by kernel_rfl) (by kernel_rfl) (glb (by kernel_rfl)) (by with_unfolding_all exact CA.j (by assumption)) (by with_unfolding_all exact XAllS.exJ (by assumption)) (by with_unfolding_all exact CA.xk (by assumption)) (i5 (by kernel_rfl)) (by kernel_rfl) (by kernel_rfl) (by kernel_rfl) ?_ ?_)
 | with_reducible exact zP
 | with_reducible refine zQ ?_
 | with_reducible exact xJ
 | with_reducible refine xK ?_
 | with_reducible intro _ _ _ _
 | with_reducible refine tX (glb (by kernel_rfl)) ?_ ?_
 | with_reducible refine tY (glb (by kernel_rfl)) ?_ ?_
 | with_reducible refine CQ ?_
 | with_reducible refine wR (glb (by kernel_rfl)) ?_ ?_
 | with_reducible refine Ax (glb (by kernel_rfl)) ?_ ?_
 | with_reducible refine FI.toG ?_
 | with_reducible refine xN ?_
 | with_reducible exact Du
 | with_reducible intro _ _
 | with_reducible exact An
 | with_reducible refine Ao ?_
 | with_reducible refine xj ?_ ?_
 | with_reducible refine DT ?_
 | with_reducible refine DS ?_ ?_ ?_
 | with_reducible refine HJ (by kernel_rfl) ?_ ?_ ?_
 | with_reducible refine AU ?_ (pH (by kernel_rfl) (by kernel_rfl) (by kernel_rfl) (by kernel_rfl))
 | with_reducible refine ve (pH (by kernel_rfl) (by kernel_rfl) (by kernel_rfl) (by kernel_rfl)) ?_ ?_
 | with_reducible refine xt (by kernel_rfl) (pH (by kernel_rfl) (by kernel_rfl) (by kernel_rfl) (by kernel_rfl)) ?_ ?_
 | with_reducible refine AX ?_ ?_ ?_ (by kernel_rfl) (by kernel_rfl!)
 | with_reducible refine AR ?_
 | with_reducible refine AT ?_ ?_ ?_
 | assumption
 | exact MA.no (by assumption) (by kernel_rfl)
 | exact Room.units (by assumption)
 | exact RoomM.units (by assumption)
 | exact Room.units0 (by assumption)
 | exact PassesOwn.never
 | exact PassesOwn.leaving) <;> walk_at "x")
local macro_rules | `(tactic| walk_at "b")=>`(tactic| (intros; (conv=>arg 2; whnf); walk_at "x"))
local macro_rules | `(tactic| walk_at "d")=>`(tactic| (intro _ _ _ _ _ _ us hl; rcases us with _ | ⟨_,_ | ⟨_,_ | ⟨_,_ | ⟨_,_ | ⟨_,_ | ⟨_,_ | ⟨_,_ | ⟨_,us⟩⟩⟩⟩⟩⟩⟩⟩ <;> first | rfl | cases hl))
def CC:Em:=[cN "ValueError",cN "all",cN "any",cN "bool",cN "enumerate",cN "int",cN "isinstance",cN "len",cN "list",cN "max",cN "min",cN "range",cN "set",cN "str",cN "tuple",cN "zip",cI "ASK_HOUSE" 1,cI "ASK_ORIGIN" 3,cI "ASK_PARTS" 4,cI "ASK_PATH" 2,cI "ASK_SAFE" 0,cS "FIGURES" "0123456789",cI "GIVEN_HOUSE" 2,cI "GIVEN_LASTS" 5,cI "GIVEN_NAME" 0,cI "GIVEN_PARTS" 8,cI "GIVEN_PATH" 3,cI "GIVEN_REACH" 7,cI "GIVEN_SAFE" 6,cI "GIVEN_UNTIL" 4,cI "GIVEN_WORTH" 1,cS "LABEL_SIGNS" "abcdefghijklmnopqrstuvwxyz0123456789-",cI "LAST_MOMENT" 9999,cI "LONGEST_LABEL" 8,cI "LONGEST_NOTE_NAME" 10,cI "LONGEST_PATH" 20,cI "LONGEST_WORTH" 12,cI "MOST_FIGURES" 4,cI "MOST_LABELS" 5,cI "MOST_NOTES" 20,cI "MOST_RULES" 8,cI "NOTE_ENDS" 5,cI "NOTE_EXACT" 3,cI "NOTE_HOUSE" 2,cI "NOTE_MADE" 8,cI "NOTE_NAME" 0,cS "NOTE_NAME_SIGNS" "abcdefghijklmnopqrstuvwxyzABCDEFGHIJKLMNOPQRSTUVWXYZ0123456789-_",cI "NOTE_PARTS" 10,cI "NOTE_PATH" 4,cI "NOTE_REACH" 7,cI "NOTE_SAFE" 6,cI "NOTE_USED" 9,cI "NOTE_WORTH" 1,cS "NO_WORTH_SIGNS" ";,=",cS "PATH_SIGNS" "abcdefghijklmnopqrstuvwxyz0123456789-_./"]
section
variable {P:r_} {w:E_} {K:e_} {mg:Str→Option g_} {base h:K5} {f:k_} {cls:Nat→k_} {CJ:k_} (XI:K.In h) (Gn:h.Ns C_ mg) (M:MA mg CC) (xa:XAllS K [0,1,2,3,4,5,6] cls CJ) (ca:CA K mg cls CJ [0,1,2,3,4,5,6] 7)
include XI Gn M xa ca
def T0:ci:=[]
def TE0:ci:=[]
def TM0:ci:=[]
def fg:FnS:=(ar (aM (fB (f2 Gi (ac 0) (bz ah))) (ay (f2 jR (fC (.int 7)) (ac 1))) (fun ρ=>a_ (.nx ρ))) (ay (f2 cZ (f2 ixD (ac 0) (f2 iQ (ac 1) (fB1 iB (aa (ac 0) ah)))) (f2 jR (fC (.int 6553)) (f2 iU (ac 1) (fB1 iB (aa (ac 0) ah)))))))
def dj:List Dv→Option (Rs Dv):=bt 2 fg
def T1:ci:=("_law_cell",1,["_law_script","_law_k"],dj) :: T0
theorem nW (A:Af K "_law_cell" (top 112) f) (t:HA P w K mg base T0):HA P w K mg base T1 :=
 av (aH XI Gn ["_law_script","_law_k"] ["_law_script","_law_k"] fg A (by walk_at "d") (by delta fg; walk_at "b")) t
def dz:FnS:=(ar (aL 3 (f2 iQ (f2 cZ (f2 jR (f2 iQ (ai dj 2 (aa (ac 0) (aa (ac 1) ah))) (fC (.int 2147483563))) (fC (.int 69069))) (f2 jR (fC (.int 104723)) (f2 cZ (ac 1) (fC (.int 1))))) (fC (.int 2147483563)))) (ar (aL 3 (f2 iQ (f2 cZ (f2 jR (ac 3) (ac 3)) (f2 iU (ac 3) (fC (.int 3)))) (fC (.int 2147483399)))) (ay (f2 iQ (f2 iU (f2 iQ (f2 cZ (f2 jR (ac 3) (ac 3)) (f2 iU (ac 3) (fC (.int 7)))) (fC (.int 2147483647))) (fC (.int 11))) (ac 2)))))
def ag:List Dv→Option (Rs Dv):=bt 4 dz
def T2:ci:=("_law_drawn",2,["_law_script","_law_k","_law_many"],ag) :: T1
theorem mo (A:Af K "_law_drawn" (top 113) f) (t:HA P w K mg base T1):HA P w K mg base T2 :=
 av (aH XI Gn ["_law_script","_law_k","_law_many","_law_cell_here"] ["_law_script","_law_k","_law_many"] dz A (by walk_at "d") (by delta dz; walk_at "b")) t
def iG:FnS:=(ar (aL 2 (bz (aa (fC (.str "a.b")) (aa (fC (.str "b")) (aa (fC (.str "x.a.b")) (aa (fC (.str "y.x.a.b")) (aa (fC (.str "c.uk")) (aa (fC (.str "uk")) (aa (fC (.str "d.c.uk")) (aa (fC (.str "e.d.c.uk")) ah)))))))))) (ar (aL 2 (f2 cZ (ac 2) (bz (aa (fC (.str "w.ck")) (aa (fC (.str "v.w.ck")) (aa (fC (.str "ck")) (aa (fC (.str "g-1.a.b")) (aa (fC (.str "7.b")) (aa (fC (.str "p.q")) ah))))))))) (ay (f2 ixD (ac 2) (ai ag 3 (aa (ac 0) (aa (ac 1) (aa (fB1 iB (aa (ac 2) ah)) ah))))))))
def bq:List Dv→Option (Rs Dv):=bt 3 iG
def T3:ci:=("_law_name",3,["_law_script","_law_at"],bq) :: T2
theorem nX (A:Af K "_law_name" (top 114) f) (t:HA P w K mg base T2):HA P w K mg base T3 :=
 av (aH XI Gn ["_law_script","_law_at","_law_some"] ["_law_script","_law_at"] iG A (by walk_at "d") (by delta iG; walk_at "b")) t
def iH : FnS := (ar (aL 2 (bz (aa (fC (.str "/")) (aa (fC (.str "/x")) (aa (fC (.str "/x/")) (aa (fC (.str "/x/y")) (aa (fC (.str "/xy")) (aa (fC (.str "/x/y/z.q")) (aa (fC (.str "//")) (aa (fC (.str "/-_.9")) (aa (fC (.str "/x/y/")) ah))))))))))) (ay (f2 ixD (ac 2) (ai ag 3 (aa (ac 0) (aa (ac 1) (aa (fB1 iB (aa (ac 2) ah)) ah)))))))
def cx:List Dv→Option (Rs Dv):=bt 3 iH
def T4:ci:=("_law_path",3,["_law_script","_law_at"],cx) :: T3
theorem nY (A:Af K "_law_path" (top 116) f) (t:HA P w K mg base T3):HA P w K mg base T4 :=
 av (aH XI Gn ["_law_script","_law_at","_law_some"] ["_law_script","_law_at"] iH A (by walk_at "d") (by delta iH; walk_at "b")) t
def fZ:FnS:=(ar (aL 2 (f2 ixD (bz (aa (fC .non) (aa (ai bq 2 (aa (ac 0) (aa (f2 cZ (ac 1) (fC (.int 3))) ah))) (aa (ai bq 2 (aa (ac 0) (aa (f2 cZ (ac 1) (fC (.int 3))) ah))) ah)))) (ai ag 3 (aa (ac 0) (aa (f2 cZ (ac 1) (fC (.int 2))) (aa (fC (.int 3)) ah)))))) (ay (bp (aa (f2 eqX (ai ag 3 (aa (ac 0) (aa (ac 1) (aa (fC (.int 2)) ah)))) (fC (.int 0))) (aa (ai bq 2 (aa (ac 0) (aa (f2 cZ (ac 1) (fC (.int 1))) ah))) (aa (ai cx 2 (aa (ac 0) (aa (f2 cZ (ac 1) (fC (.int 4))) ah))) (aa (ac 2) ah)))))))
def ij:List Dv→Option (Rs Dv):=bt 3 fZ
def T5:ci:=("_law_ask",4,["_law_script","_law_at"],ij) :: T4
theorem pK (A:Af K "_law_ask" (top 117) f) (t:HA P w K mg base T4):HA P w K mg base T5 :=
 av (aH XI Gn ["_law_script","_law_at","_law_origin"] ["_law_script","_law_at"] fZ A (by walk_at "d") (by delta fZ; walk_at "b")) t
def fI:FnS:=(ar (aL 3 (f2 ixD (bz (aa (fC (.str "n")) (aa (fC (.str "safe-a")) (aa (fC (.str "own-b")) (aa (fC (.str "N_2")) (aa (fC (.str "m-1")) (aa (fC (.str "safe-")) (aa (fC (.str "n")) ah)))))))) (ai ag 3 (aa (ac 0) (aa (ac 1) (aa (fC (.int 7)) ah)))))) (ar (aL 4 (f2 ixD (bz (aa (fC (.str "5")) (aa (fC (.str "")) (aa (fC (.str "a!b~")) (aa (fC (.str "x/y?z")) (aa (fC (.str "123456789012")) ah)))))) (ai ag 3 (aa (ac 0) (aa (f2 cZ (ac 1) (fC (.int 1))) (aa (fC (.int 5)) ah)))))) (uA 5 (aa (fC .non) (aa (fC .non) (aa (ac 2) (aa (f2 ixD (fM (fV) (ac 2) (aa (fC (.str ".")) ah)) (f1 wg (fC (.int 1)))) (aa (ai bq 2 (aa (ac 0) (aa (f2 cZ (ac 1) (fC (.int 3))) ah))) ah))))) (cX (xh (fIf (fB (f2 inD (fC (.str ".")) (ac 2))) (sE (ac 2) (bP (f2 cZ (fM BM (ac 2) (aa (fC (.str ".")) ah)) (fC (.int 1)))) cm) (ac 2))) (cX (et 6 (f2 ixD (bz (aa (fC .non) (aa (fC (.str "/")) (aa (ai cx 2 (aa (ac 0) (aa (f2 cZ (ac 1) (fC (.int 5))) ah))) ah)))) (ai ag 3 (aa (ac 0) (aa (f2 cZ (ac 1) (fC (.int 4))) (aa (fC (.int 3)) ah)))))) (cX (et 7 (f2 ixD (bz (aa (fC .non) (aa (fC .non) (aa (ai ag 3 (aa (ac 0) (aa (f2 cZ (ac 1) (fC (.int 7))) (aa (fC (.int 60)) ah)))) ah)))) (ai ag 3 (aa (ac 0) (aa (f2 cZ (ac 1) (fC (.int 6))) (aa (fC (.int 3)) ah)))))) (cX (et 8 (f2 ixD (bz (aa (fC .non) (aa (fC .non) (aa (ai ag 3 (aa (ac 0) (aa (f2 cZ (ac 1) (fC (.int 9))) (aa (fC (.int 30)) ah)))) ah)))) (ai ag 3 (aa (ac 0) (aa (f2 cZ (ac 1) (fC (.int 8))) (aa (fC (.int 3)) ah)))))) (cX (et 9 (f2 ixD (bz (aa (fC (.str "any")) (aa (fC (.str "near")) ah))) (ai ag 3 (aa (ac 0) (aa (f2 cZ (ac 1) (fC (.int 11))) (aa (fC (.int 2)) ah)))))) (cX (et 10 (f2 eqX (ai ag 3 (aa (ac 0) (aa (f2 cZ (ac 1) (fC (.int 10))) (aa (fC (.int 2)) ah)))) (fC (.int 0)))) (kq 5 (bp (aa (ac 3) (aa (ac 4) (aa (f2 ixD (ac 5) (ai ag 3 (aa (ac 0) (aa (f2 cZ (ac 1) (fC (.int 2))) (aa (fC (.int 6)) ah))))) (aa (ac 6) (aa (ac 7) (aa (ac 8) (aa (ac 10) (aa (ac 9) ah)))))))))))))))))))
def ez:List Dv→Option (Rs Dv):=bt 11 fI
def T6:ci:=("_law_given",4,["_law_script","_law_at","_law_house"],ez) :: T5
theorem mq (A:Af K "_law_given" (top 124) f) (t:HA P w K mg base T5):HA P w K mg base T6 :=
 av (aH XI Gn ["_law_script","_law_at","_law_house","_law_name_here","_law_worth","_law_some","_law_path_here","_law_until","_law_lasts","_law_reach","_law_safe"] ["_law_script","_law_at","_law_house"] fI A (by walk_at "d") (by delta fI; walk_at "b")) t
def bQ:gH:=(cX (et 6 (f2 bZ (f2 bZ (ac 1) (fC (.int 1))) (f2 jR (fC (.int 14)) (ac 5)))) (cX (et 4 (f2 bZ (ac 4) (ai ag 3 (aa (ac 0) (aa (ac 6) (aa (fC (.int 4)) ah)))))) (cX (et 7 (f2 ixD (bz (aa (fC (.str "n")) (aa (fC (.str "m-1")) (aa (fC (.str "safe-a")) (aa (fC (.str "N_2")) ah))))) (ai ag 3 (aa (ac 0) (aa (f2 bZ (ac 6) (fC (.int 1))) (aa (fC (.int 4)) ah)))))) (cX (et 8 (f2 ixD (bz (aa (fC (.str "5")) (aa (fC (.str "")) (aa (fC (.str "a!b~")) ah)))) (ai ag 3 (aa (ac 0) (aa (f2 bZ (ac 6) (fC (.int 2))) (aa (fC (.int 3)) ah)))))) (cX (et 9 (f2 ixD (bz (aa (fC .non) (aa (ai ag 3 (aa (ac 0) (aa (f2 bZ (ac 6) (fC (.int 7))) (aa (fC (.int 60)) ah)))) ah))) (ai ag 3 (aa (ac 0) (aa (f2 bZ (ac 6) (fC (.int 6))) (aa (fC (.int 2)) ah)))))) (cX (et 10 (f2 eqX (ai ag 3 (aa (ac 0) (aa (f2 bZ (ac 6) (fC (.int 4))) (aa (fC (.int 2)) ah)))) (fC (.int 0)))) (cX (et 11 (bp (aa (ac 7) (aa (ac 8) (aa (ai bq 2 (aa (ac 0) (aa (f2 bZ (ac 6) (fC (.int 3))) ah))) (aa (ac 10) (aa (ai cx 2 (aa (ac 0) (aa (f2 bZ (ac 6) (fC (.int 5))) ah))) ah))))))) (cX (et 12 (f2 ixD (bz (aa (fC (.str "any")) (aa (fC (.str "any")) (aa (fC (.str "near")) ah)))) (ai ag 3 (aa (ac 0) (aa (f2 bZ (ac 6) (fC (.int 9))) (aa (fC (.int 3)) ah)))))) (cX (et 13 (f2 eqX (ai ag 3 (aa (ac 0) (aa (f2 bZ (ac 6) (fC (.int 8))) (aa (fC (.int 2)) ah)))) (fC (.int 0)))) (cX (et 14 (f2 bZ (ac 4) (ai ag 3 (aa (ac 0) (aa (f2 bZ (ac 6) (fC (.int 10))) (aa (fC (.int 5)) ah)))))) (cX (et 15 (f2 bZ (ac 11) (bp (aa (ac 9) (aa (ac 13) (aa (ac 12) (aa (ac 4) (aa (ac 14) ah)))))))) (Am 3 (fB (f2 eqX (cq [("_law_note",15)] (ef (ac 3)) (a_ (fB (f2 eqX (bp (aa (f2 ixD (ac 0) (fC (.int 0))) (aa (f2 ixD (ac 0) (fC (.int 2))) (aa (f2 ixD (ac 0) (fC (.int 4))) ah)))) (bp (aa (f2 ixD (ac 1) (fC (.int 0))) (aa (f2 ixD (ac 1) (fC (.int 2))) (aa (f2 ixD (ac 1) (fC (.int 4))) ah))))))) (ac 0)) (bz ah))) (xh (ac 15)) oX))))))))))))
def jC:FnS:=(uA 3 ah (cX (et 4 (fC (.int 0))) (cX (uB 5 [5,6,7,8,9,10,11,12,13,14,15] (fun ρ=>bnd ((aa (ai ag 3 (aa (ac 0) (aa (ac 1) (aa (f2 bZ (ac 2) (fC (.int 1))) ah)))) ah) ρ) jY) bQ) (kq 3 (fB1 cD (aa (ac 3) ah))))))
def ik:List Dv→Option (Rs Dv):=bt 16 jC
def T7:ci:=("_law_jar",4,["_law_script","_law_at","_law_many"],ik) :: T6
theorem pL (A:Af K "_law_jar" (top 129) f) (t:HA P w K mg base T6):HA P w K mg base T7 :=
 av (aH XI Gn ["_law_script","_law_at","_law_many","_law_found","_law_now","_law_k","_law_here","_law_name_here","_law_worth","_law_ends_here","_law_exact","_law_head","_law_reach","_law_safe","_law_late","_law_note"] ["_law_script","_law_at","_law_many"] jC A (by walk_at "d") (by delta jC bQ; walk_at "b")) t
def dk:FnS:=(ar (aM (bOr (fB (f2 eqX (ac 2) (bp ah))) (fB (f2 eqX (ai ag 3 (aa (ac 0) (aa (ac 1) (aa (fC (.int 3)) ah)))) (fC (.int 0))))) (ay (bp (aa (ac 3) (aa (ac 4) ah)))) (fun ρ=>a_ (.nx ρ))) (ar (aL 5 (f2 ixD (ac 2) (ai ag 3 (aa (ac 0) (aa (f2 bZ (ac 1) (fC (.int 1))) (aa (fB1 iB (aa (ac 2) ah)) ah)))))) (ar (aL 3 (bp (aa (f2 ixD (ac 3) (fC (.int 0))) (aa (f2 ixD (ac 5) (fC (.int 2))) (aa (f2 ixD (ac 3) (fC (.int 2))) (aa (f2 ixD (ac 3) (fC (.int 3))) ah)))))) (ar (aL 6 (f2 ixD (bz (aa (f2 ixD (ac 5) (fC (.int 4))) (aa (f2 ixD (ac 4) (fC (.int 3))) (aa (fC (.str "/x/y")) ah)))) (ai ag 3 (aa (ac 0) (aa (f2 bZ (ac 1) (fC (.int 2))) (aa (fC (.int 3)) ah)))))) (ay (bp (aa (ac 3) (aa (f2 bZ (bp (aa (f2 ixD (ac 5) (fC (.int 0))) (aa (f2 ixD (ac 4) (fC (.int 1))) (aa (f2 ixD (bz (aa (fC .non) (aa (f2 ixD (ac 5) (fC (.int 2))) ah))) (ai ag 3 (aa (ac 0) (aa (f2 bZ (ac 1) (fC (.int 3))) (aa (fC (.int 2)) ah))))) (aa (ac 6) ah))))) (cR (ac 4) (bP (fC (.int 4))) cm)) ah))))))))
def iI:List Dv→Option (Rs Dv):=bt 7 dk
def T8:ci:=("_law_like",3,["_law_script","_law_at","_law_jar_here","_law_ask_here","_law_given_here"],iI) :: T7
theorem nZ (A:Af K "_law_like" (top 134) f) (t:HA P w K mg base T7):HA P w K mg base T8 :=
 av (aH XI Gn ["_law_script","_law_at","_law_jar_here","_law_ask_here","_law_given_here","_law_note","_law_path_here"] ["_law_script","_law_at","_law_jar_here","_law_ask_here","_law_given_here"] dk A (by walk_at "d") (by delta dk; walk_at "b")) t
def fj:FnS:=(ar (aL 1 (bz (aa (f1 (isX (fun c=>if ([0,1,2,3,4,5,6]:List Nat).contains c then a_ (c == 0) else ck)) (ac 0)) (aa (f1 (isX (fun c=>if ([0,1,2,3,4,5,6]:List Nat).contains c then a_ (c == 1) else ck)) (ac 0)) (aa (f1 (isX (fun c=>if ([0,1,2,3,4,5,6]:List Nat).contains c then a_ (c == 2) else ck)) (ac 0)) ah))))) (ar (aL 1 (f2 cZ (ac 1) (bz (aa (f1 (isX (fun c=>if ([0,1,2,3,4,5,6]:List Nat).contains c then a_ (c == 3) else ck)) (ac 0)) (aa (f1 (isX (fun c=>if ([0,1,2,3,4,5,6]:List Nat).contains c then a_ (c == 4) else ck)) (ac 0)) (aa (f1 (isX (fun c=>if ([0,1,2,3,4,5,6]:List Nat).contains c then a_ (c == 5) else ck)) (ac 0)) ah)))))) (ar (aL 1 (f2 cZ (ac 1) (bz (aa (f1 (isX (fun c=>if ([0,1,2,3,4,5,6]:List Nat).contains c then a_ (c == 6) else ck)) (ac 0)) ah)))) (ar (aM (bOr (fB (f2 neX (fML Hy (ac 1) (aa (fC (.bl c_)) ah)) (fC (.int 1)))) (br (fB (f1 (isX (fun c=>if ([0,1,2,3,4,5,6]:List Nat).contains c then a_ c_ else ck)) (ac 0))))) (ay (bp (aa (fC (.str "refused")) (aa (f1 wg (fC (.int 1))) ah)))) (fun ρ=>a_ (.nx ρ))) (ay (bp (aa (fC (.str "refused")) (aa (fML Gk (ac 1) (aa (fC (.bl c_)) ah)) ah))))))))
def bh:List Dv→Option (Rs Dv):=bt 2 fj
def TM1:ci:=("_law_refused",1,["_law_e"],bh) :: TM0
theorem kz (A:Af K "_law_refused" (top 132) f) (tm:HAM P w K mg base TM0):HAM P w K mg base TM1 :=
 xH (AV XI Gn ["_law_e","_law_flags"] ["_law_e"] fj A (by walk_at "d") (by delta fj; walk_at "b")) tm
def aR:FnS:=(aM (fB (f2 gtD (fB1 iB (aa (ac 0) ah)) (fC (.int 20)))) (aG 5 (fC (.str "these are more notes than a jar has"))) (fun ρ=>a_ (.nx ρ)))
def aS:List Dv→Option (Rs Dv):=fT 1 aR
def TE1:ci:=("need_no_more_than_a_jar_has",1,["notes"],aS) :: TE0
theorem eC (A:Af K "need_no_more_than_a_jar_has" (top 102) f) (te:HAE P w K mg base TE0):HAE P w K mg base TE1 :=
 cf (cF XI Gn ["notes"] ["notes"] aR A (by walk_at "d") (by delta aR; walk_at "b")) te
def gS:FnS:=(ar (aM (br (fB (f1 (cQ bT) (ac 0)))) (ay (fC (.bl d_))) (fun ρ=>a_ (.nx ρ))) (ar (aM (bOr (fB (f2 ltX (fB1 iB (aa (ac 0) ah)) (ac 2))) (fB (f2 gtD (fB1 iB (aa (ac 0) ah)) (ac 3)))) (ay (fC (.bl d_))) (fun ρ=>a_ (.nx ρ))) (ay (fB1 ju (aa (cq [("signs",1)] (ef (ac 0)) ck (f2 inD (ac 0) (ac 1))) ah)))))
def dD:List Dv→Option (Rs Dv):=bt 4 gS
def T9:ci:=("is_text_of",1,["thing","signs","least","most"],dD) :: T8
theorem mr (A:Af K "is_text_of" (top 10) f) (t:HA P w K mg base T8):HA P w K mg base T9 :=
 av (aH XI Gn ["thing","signs","least","most"] ["thing","signs","least","most"] gS A (by walk_at "d") (by delta gS; walk_at "b")) t
def jE:FnS:=(ar (aM (br (fB (ai dD 4 (aa (ac 0) (aa (fC (.str "abcdefghijklmnopqrstuvwxyz0123456789-")) (aa (fC (.int 1)) (aa (fC (.int 8)) ah))))))) (ay (fC (.bl d_))) (fun ρ=>a_ (.nx ρ))) (ay (cC (fH (fM (jS A_) (ac 0) (aa (fC (.str "-")) ah))) (fH (fM (jS Np) (ac 0) (aa (fC (.str "-")) ah))))))
def lF:List Dv→Option (Rs Dv):=bt 1 jE
def T10:ci:=("is_label",2,["thing"],lF) :: T9
theorem pM (A:Af K "is_label" (top 19) f) (t:HA P w K mg base T9):HA P w K mg base T10 :=
 av (aH XI Gn ["thing"] ["thing"] jE A (by walk_at "d") (by delta jE; walk_at "b")) t
def kA:FnS:=(ar (aM (br (fB (f1 (cQ bT) (ac 0)))) (ay (fC (.bl d_))) (fun ρ=>a_ (.nx ρ))) (ar (aL 1 (fM (fV) (ac 0) (aa (fC (.str ".")) ah))) (ar (aM (bOr (fB (f2 gtD (fB1 iB (aa (ac 1) ah)) (fC (.int 5)))) (br (fB (fB1 ju (aa (cq [] (ef (ac 1)) ck (ai lF 1 (aa (ac 0) ah))) ah))))) (ay (fC (.bl d_))) (fun ρ=>a_ (.nx ρ))) (ay (fH (ai dD 4 (aa (f2 ixD (ac 1) (f1 wg (fC (.int 1)))) (aa (fC (.str "0123456789")) (aa (fC (.int 1)) (aa (fC (.int 8)) ah))))))))))
def bX:List Dv→Option (Rs Dv):=bt 2 kA
def T11:ci:=("is_name",3,["thing"],bX) :: T10
theorem rZ (A:Af K "is_name" (top 20) f) (t:HA P w K mg base T10):HA P w K mg base T11 :=
 av (aH XI Gn ["thing","parts"] ["thing"] kA A (by walk_at "d") (by delta kA; walk_at "b")) t
def kB:FnS:=(ay (cC (ai dD 4 (aa (ac 0) (aa (fC (.str "abcdefghijklmnopqrstuvwxyz0123456789-_./")) (aa (fC (.int 1)) (aa (fC (.int 20)) ah))))) (fM (jS A_) (ac 0) (aa (fC (.str "/")) ah))))
def cz:List Dv→Option (Rs Dv):=bt 1 kB
def T12:ci:=("is_path",2,["thing"],cz) :: T11
theorem r8 (A:Af K "is_path" (top 33) f) (t:HA P w K mg base T11):HA P w K mg base T12 :=
 av (aH XI Gn ["thing"] ["thing"] kB A (by walk_at "d") (by delta kB; walk_at "b")) t
def gu:FnS:=(ay (cC (f1 (cQ bV) (ac 0)) (f2 eqX (fB1 iB (aa (ac 0) ah)) (ac 1))))
def cy:List Dv→Option (Rs Dv):=bt 2 gu
def T13:ci:=("is_tuple_of",1,["thing","parts"],cy) :: T12
theorem lb (A:Af K "is_tuple_of" (top 12) f) (t:HA P w K mg base T12):HA P w K mg base T13 :=
 av (aH XI Gn ["thing","parts"] ["thing","parts"] gu A (by walk_at "d") (by delta gu; walk_at "b")) t
def i7:FnS:=(ar (aM (br (fB (ai cy 2 (aa (ac 0) (aa (fC (.int 4)) ah))))) (ay (fC (.bl d_))) (fun ρ=>a_ (.nx ρ))) (ay (fB1 ju (aa (bz (aa (f1 (cQ aO) (f2 ixD (ac 0) (fC (.int 0)))) (aa (ai bX 1 (aa (f2 ixD (ac 0) (fC (.int 1))) ah)) (aa (ai cz 1 (aa (f2 ixD (ac 0) (fC (.int 2))) ah)) (aa (vOr (f2 isN (f2 ixD (ac 0) (fC (.int 3))) (fC .non)) (ai bX 1 (aa (f2 ixD (ac 0) (fC (.int 3))) ah))) ah))))) ah))))
def df:List Dv→Option (Rs Dv):=bt 1 i7
def T14:ci:=("is_ask",4,["thing"],df) :: T13
theorem vh (A:Af K "is_ask" (top 47) f) (t:HA P w K mg base T13):HA P w K mg base T14 :=
 av (aH XI Gn ["thing"] ["thing"] i7 A (by walk_at "d") (by delta i7; walk_at "b")) t
def fk:FnS:=(aM (br (fB (ai df 1 (aa (ac 0) ah)))) (aG 3 (fC (.str "this is no ask"))) (fun ρ=>a_ (.nx ρ)))
def bJ:List Dv→Option (Rs Dv):=fT 1 fk
def TE2:ci:=("need_ask",5,["thing"],bJ) :: TE1
theorem pN (A:Af K "need_ask" (top 48) f) (t:HA P w K mg base T14) (te:HAE P w K mg base TE1):HAE P w K mg base TE2 :=
 cf (cF XI Gn ["thing"] ["thing"] fk A (by walk_at "d") (by delta fk; walk_at "b")) te
def xV:FnS:=(ay (bp (aa (f2 ixD (ac 0) (fC (.int 0))) (aa (f2 ixD (ac 0) (fC (.int 2))) (aa (f2 ixD (ac 0) (fC (.int 4))) ah)))))
def eN:List Dv→Option (Rs Dv):=bt 1 xV
def T15:ci:=("key",1,["note"],eN) :: T14
theorem EY (A:Af K "key" (top 94) f) (t:HA P w K mg base T14):HA P w K mg base T15 :=
 av (aH XI Gn ["note"] ["note"] xV A (by walk_at "d") (by delta xV; walk_at "b")) t
def cg:FnS:=(ar (aL 1 (bB 1 [] (ef (ac 0)) (gN 0) ck (ai eN 1 (aa (ac 0) ah)))) (ay (f2 eqX (fB1 ky (aa (ac 1) ah)) (fB1 iB (aa (ac 1) ah)))))
def cB:List Dv→Option (Rs Dv):=bt 2 cg
def T16:ci:=("has_no_key_twice",2,["notes"],cB) :: T15
theorem iJ (A:Af K "has_no_key_twice" (top 100) f) (t:HA P w K mg base T15):HA P w K mg base T16 :=
 av (aH XI Gn ["notes","keys"] ["notes"] cg A (by walk_at "d") (by delta cg; walk_at "b")) t
def gT:FnS:=(ay (fB1 ju (aa (cq [("notes",0)] (fun ρ=>bnd ((aa (fC (.int 1)) (aa (fB1 iB (aa (ac 0) ah)) ah)) ρ) we) ck (f2 leX (f2 ixD (f2 ixD (ac 1) (f2 yD (ac 0) (fC (.int 1)))) (fC (.int 8))) (f2 ixD (f2 ixD (ac 1) (ac 0)) (fC (.int 8))))) ah)))
def fJ:List Dv→Option (Rs Dv):=bt 1 gT
def T17:ci:=("is_by_made",1,["notes"],fJ) :: T16
theorem ms (A:Af K "is_by_made" (top 99) f) (t:HA P w K mg base T16):HA P w K mg base T17 :=
 av (aH XI Gn ["notes"] ["notes"] gT A (by walk_at "d") (by delta gT; walk_at "b")) t
def bu:FnS:=(ar (aM (bOr (br (fB (f1 (cQ bW) (ac 0)))) (fB (f1 (cQ aO) (ac 0)))) (ay (fC (.bl d_))) (fun ρ=>a_ (.nx ρ))) (ay (cC (f2 leX (ac 1) (ac 0)) (f2 leX (ac 0) (ac 2)))))
def aU:List Dv→Option (Rs Dv):=bt 3 bu
def T18:ci:=("is_whole_number",1,["thing","least","most"],aU) :: T17
theorem ja (A:Af K "is_whole_number" (top 11) f) (t:HA P w K mg base T17):HA P w K mg base T18 :=
 av (aH XI Gn ["thing","least","most"] ["thing","least","most"] bu A (by walk_at "d") (by delta bu; walk_at "b")) t
def ei:FnS:=(ay (ai aU 3 (aa (ac 0) (aa (fC (.int 0)) (aa (fC (.int 9999)) ah)))))
def aX:List Dv→Option (Rs Dv):=bt 1 ei
def T19:ci:=("is_moment",2,["thing"],aX) :: T18
theorem oa (A:Af K "is_moment" (top 44) f) (t:HA P w K mg base T18):HA P w K mg base T19 :=
 av (aH XI Gn ["thing"] ["thing"] ei A (by walk_at "d") (by delta ei; walk_at "b")) t
def aY:FnS:=(ay (vOr (f2 isN (ac 0) (fC .non)) (ai aX 1 (aa (ac 0) ah))))
def az:List Dv→Option (Rs Dv):=bt 1 aY
def T20:ci:=("is_moment_or_none",3,["thing"],az) :: T19
theorem iq (A:Af K "is_moment_or_none" (top 45) f) (t:HA P w K mg base T19):HA P w K mg base T20 :=
 av (aH XI Gn ["thing"] ["thing"] aY A (by walk_at "d") (by delta aY; walk_at "b")) t
def fL:FnS:=(ay (ai dD 4 (aa (ac 0) (aa (fC (.str "abcdefghijklmnopqrstuvwxyzABCDEFGHIJKLMNOPQRSTUVWXYZ0123456789-_")) (aa (fC (.int 1)) (aa (fC (.int 10)) ah))))))
def aJ:List Dv→Option (Rs Dv):=bt 1 fL
def T21:ci:=("is_note_name",2,["thing"],aJ) :: T20
theorem kG (A:Af K "is_note_name" (top 65) f) (t:HA P w K mg base T20):HA P w K mg base T21 :=
 av (aH XI Gn ["thing"] ["thing"] fL A (by walk_at "d") (by delta fL; walk_at "b")) t
def jF:FnS:=(ay (vOr (f2 eqX (ac 0) (fC (.str "any"))) (f2 eqX (ac 0) (fC (.str "near")))))
def eR:List Dv→Option (Rs Dv):=bt 1 jF
def T22:ci:=("is_reach",1,["thing"],eR) :: T21
theorem pO (A:Af K "is_reach" (top 67) f) (t:HA P w K mg base T21):HA P w K mg base T22 :=
 av (aH XI Gn ["thing"] ["thing"] jF A (by walk_at "d") (by delta jF; walk_at "b")) t
def jG:FnS:=(ar (aM (bOr (br (fB (f1 (cQ bT) (ac 0)))) (fB (f2 gtD (fB1 iB (aa (ac 0) ah)) (fC (.int 12))))) (ay (fC (.bl d_))) (fun ρ=>a_ (.nx ρ))) (ay (fB1 ju (aa (cq [] (ef (ac 0)) ck (cC (f2 leX (fC (.str "!")) (ac 0)) (cC (f2 leX (ac 0) (fC (.str "~"))) (f2 nu (ac 0) (fC (.str ";,=")))))) ah))))
def bC:List Dv→Option (Rs Dv):=bt 1 jG
def T23:ci:=("is_worth",1,["thing"],bC) :: T22
theorem pP (A:Af K "is_worth" (top 66) f) (t:HA P w K mg base T22):HA P w K mg base T23 :=
 av (aH XI Gn ["thing"] ["thing"] jG A (by walk_at "d") (by delta jG; walk_at "b")) t
def jc:FnS:=(ar (aM (br (fB (ai cy 2 (aa (ac 0) (aa (fC (.int 10)) ah))))) (ay (fC (.bl d_))) (fun ρ=>a_ (.nx ρ))) (ar (aM (bOr (br (fB (ai aX 1 (aa (f2 ixD (ac 0) (fC (.int 8))) ah)))) (br (fB (ai aX 1 (aa (f2 ixD (ac 0) (fC (.int 9))) ah))))) (ay (fC (.bl d_))) (fun ρ=>a_ (.nx ρ))) (ay (fB1 ju (aa (bz (aa (ai aJ 1 (aa (f2 ixD (ac 0) (fC (.int 0))) ah)) (aa (ai bC 1 (aa (f2 ixD (ac 0) (fC (.int 1))) ah)) (aa (ai bX 1 (aa (f2 ixD (ac 0) (fC (.int 2))) ah)) (aa (f1 (cQ aO) (f2 ixD (ac 0) (fC (.int 3)))) (aa (ai cz 1 (aa (f2 ixD (ac 0) (fC (.int 4))) ah)) (aa (ai az 1 (aa (f2 ixD (ac 0) (fC (.int 5))) ah)) (aa (f1 (cQ aO) (f2 ixD (ac 0) (fC (.int 6)))) (aa (ai eR 1 (aa (f2 ixD (ac 0) (fC (.int 7))) ah)) (aa (f2 leX (f2 ixD (ac 0) (fC (.int 8))) (f2 ixD (ac 0) (fC (.int 9)))) ah)))))))))) ah)))))
def fm:List Dv→Option (Rs Dv):=bt 1 jc
def T24:ci:=("is_note",4,["thing"],fm) :: T23
theorem r9 (A:Af K "is_note" (top 89) f) (t:HA P w K mg base T23):HA P w K mg base T24 :=
 av (aH XI Gn ["thing"] ["thing"] jc A (by walk_at "d") (by delta jc; walk_at "b")) t
def jd:FnS:=(ar (aM (bOr (br (fB (f1 (cQ bV) (ac 0)))) (fB (f2 gtD (fB1 iB (aa (ac 0) ah)) (fC (.int 20))))) (ay (fC (.bl d_))) (fun ρ=>a_ (.nx ρ))) (ar (aM (br (fB (fB1 ju (aa (cq [] (ef (ac 0)) ck (ai fm 1 (aa (ac 0) ah))) ah)))) (ay (fC (.bl d_))) (fun ρ=>a_ (.nx ρ))) (ay (cC (ai fJ 1 (aa (ac 0) ah)) (ai cB 1 (aa (ac 0) ah))))))
def dg:List Dv→Option (Rs Dv):=bt 1 jd
def T25:ci:=("is_jar",5,["thing"],dg) :: T24
theorem vi (A:Af K "is_jar" (top 98) f) (t:HA P w K mg base T24):HA P w K mg base T25 :=
 av (aH XI Gn ["thing"] ["thing"] jd A (by walk_at "d") (by delta jd; walk_at "b")) t
def fq:FnS:=(aM (br (fB (ai dg 1 (aa (ac 0) ah)))) (aG 5 (fC (.str "this is no jar"))) (fun ρ=>a_ (.nx ρ)))
def bY:List Dv→Option (Rs Dv):=fT 1 fq
def TE3:ci:=("need_jar",6,["thing"],bY) :: TE2
theorem pQ (A:Af K "need_jar" (top 101) f) (t:HA P w K mg base T25) (te:HAE P w K mg base TE2):HAE P w K mg base TE3 :=
 cf (cF XI Gn ["thing"] ["thing"] fq A (by walk_at "d") (by delta fq; walk_at "b")) te
def da:FnS:=(aM (br (fB (ai aX 1 (aa (ac 0) ah)))) (aG 6 (fC (.str "this is no moment"))) (fun ρ=>a_ (.nx ρ)))
def bF:List Dv→Option (Rs Dv):=fT 1 da
def TE4:ci:=("need_moment",3,["thing"],bF) :: TE3
theorem lc (A:Af K "need_moment" (top 46) f) (t:HA P w K mg base T25) (te:HAE P w K mg base TE3):HAE P w K mg base TE4 :=
 cf (cF XI Gn ["thing"] ["thing"] da A (by walk_at "d") (by delta da; walk_at "b")) te
def kH:FnS:=(ar (aM (br (fB (f1 (cQ bT) (ac 0)))) (ay (fC (.bl d_))) (fun ρ=>a_ (.nx ρ))) (ar (aM (fB (fM (jS A_) (ac 0) (aa (fC (.str "*.")) ah))) (ay (ai bX 1 (aa (sE (ac 0) (bP (fC (.int 2))) cm) ah))) (fun ρ=>a_ (.nx ρ))) (ar (aM (fB (fM (jS A_) (ac 0) (aa (fC (.str "!")) ah))) (ay (cC (f2 inD (fC (.str ".")) (ac 0)) (ai bX 1 (aa (sE (ac 0) (bP (fC (.int 1))) cm) ah)))) (fun ρ=>a_ (.nx ρ))) (ay (ai bX 1 (aa (ac 0) ah))))))
def og:List Dv→Option (Rs Dv):=bt 1 kH
def T26:ci:=("is_rule",4,["thing"],og) :: T25
theorem se (A:Af K "is_rule" (top 21) f) (t:HA P w K mg base T25):HA P w K mg base T26 :=
 av (aH XI Gn ["thing"] ["thing"] kH A (by walk_at "d") (by delta kH; walk_at "b")) t
def jH:FnS:=(ar (aM (bOr (br (fB (f1 (cQ bV) (ac 0)))) (fB (f2 gtD (fB1 iB (aa (ac 0) ah)) (fC (.int 8))))) (ay (fC (.bl d_))) (fun ρ=>a_ (.nx ρ))) (ar (aM (br (fB (fB1 ju (aa (cq [] (ef (ac 0)) ck (ai og 1 (aa (ac 0) ah))) ah)))) (ay (fC (.bl d_))) (fun ρ=>a_ (.nx ρ))) (ay (fB1 ju (aa (cq [("thing",0)] (fun ρ=>bnd ((aa (fC (.int 1)) (aa (fB1 iB (aa (ac 0) ah)) ah)) ρ) we) ck (f2 ltX (f2 ixD (ac 1) (f2 yD (ac 0) (fC (.int 1)))) (f2 ixD (ac 1) (ac 0)))) ah)))))
def bI:List Dv→Option (Rs Dv):=bt 1 jH
def T27:ci:=("is_table",5,["thing"],bI) :: T26
theorem pR (A:Af K "is_table" (top 22) f) (t:HA P w K mg base T26):HA P w K mg base T27 :=
 av (aH XI Gn ["thing"] ["thing"] jH A (by walk_at "d") (by delta jH; walk_at "b")) t
def dJ:FnS:=(aM (br (fB (ai bI 1 (aa (ac 0) ah)))) (aG 1 (fC (.str "this is no table"))) (fun ρ=>a_ (.nx ρ)))
def aW:List Dv→Option (Rs Dv):=fT 1 dJ
def TE5:ci:=("need_table",6,["thing"],aW) :: TE4
theorem mv (A:Af K "need_table" (top 23) f) (t:HA P w K mg base T27) (te:HAE P w K mg base TE4):HAE P w K mg base TE5 :=
 cf (cF XI Gn ["thing"] ["thing"] dJ A (by walk_at "d") (by delta dJ; walk_at "b")) te
def dq:FnS:=(ay (ai dD 4 (aa (ac 0) (aa (fC (.str "0123456789")) (aa (fC (.int 1)) (aa (fC (.int 4)) ah))))))
def dt:List Dv→Option (Rs Dv):=bt 1 dq
def T28:ci:=("is_written_moment",2,["text"],dt) :: T27
theorem iu (A:Af K "is_written_moment" (top 70) f) (t:HA P w K mg base T27):HA P w K mg base T28 :=
 av (aH XI Gn ["text"] ["text"] dq A (by walk_at "d") (by delta dq; walk_at "b")) t
def fN:FnS:=(ar (aM (fB (f2 eqX (ac 0) (fC (.str "safe")))) (ay (bp (aa (fC (.int 6)) (aa (fC (.bl c_)) ah)))) (fun ρ=>a_ (.nx ρ))) (ar (aM (fB (ai eR 1 (aa (ac 0) ah))) (ay (bp (aa (fC (.int 7)) (aa (ac 0) ah)))) (fun ρ=>a_ (.nx ρ))) (ar (aL 1 (fM (lW) (ac 0) (aa (fC (.str " ")) ah))) (ar (aL 2 (f2 ixD (ac 1) (fC (.int 0)))) (ar (aL 3 (f2 ixD (ac 1) (fC (.int 2)))) (ar (aM (bS (fB (f2 eqX (ac 2) (fC (.str "for")))) (fB (ai bX 1 (aa (ac 3) ah)))) (ay (bp (aa (fC (.int 2)) (aa (ac 3) ah)))) (fun ρ=>a_ (.nx ρ))) (ar (aM (bS (fB (f2 eqX (ac 2) (fC (.str "under")))) (fB (ai cz 1 (aa (ac 3) ah)))) (ay (bp (aa (fC (.int 3)) (aa (ac 3) ah)))) (fun ρ=>a_ (.nx ρ))) (ar (aM (bS (fB (f2 eqX (ac 2) (fC (.str "until")))) (fB (ai dt 1 (aa (ac 3) ah)))) (ay (bp (aa (fC (.int 4)) (aa (fB1 Gx (aa (ac 3) ah)) ah)))) (fun ρ=>a_ (.nx ρ))) (ar (aM (bS (fB (f2 eqX (ac 2) (fC (.str "lasts")))) (fB (ai dt 1 (aa (ac 3) ah)))) (ay (bp (aa (fC (.int 5)) (aa (fB1 Gx (aa (ac 3) ah)) ah)))) (fun ρ=>a_ (.nx ρ))) (ay (fC .non)))))))))))
def aZ:List Dv→Option (Rs Dv):=bt 4 fN
def T29:ci:=("what_is_told",4,["part"],aZ) :: T28
theorem kJ (A:Af K "what_is_told" (top 71) f) (t:HA P w K mg base T28):HA P w K mg base T29 :=
 av (aH XI Gn ["part","pieces","word","rest"] ["part"] fN A (by walk_at "d") (by delta fN; walk_at "b")) t
def bG:gH:=(cX (et 5 (ai aZ 1 (aa (ac 4) ah))) (oIf (fB (f2 cP (ac 5) (fC .non))) (qP (f2 ixD (ac 5) (fC (.int 0))) (f2 ixD (ac 5) (fC (.int 1)))) oX))
def dL:FnS:=(ar (aM (br (fB (f1 (cQ bT) (ac 0)))) (aG 4 (fC (.str "this is no text"))) (fun ρ=>a_ (.nx ρ))) (ar (aL 1 (bB 1 [] (ef (fM (fV) (ac 0) (aa (fC (.str ";")) ah))) (gN 0) ck (fM (ko) (ac 0) (aa (fC (.str " ")) ah)))) (ar (aL 2 (fM (lW) (f2 ixD (ac 1) (fC (.int 0))) (aa (fC (.str "=")) ah))) (ar (aM (bOr (fB (f2 eqX (f2 ixD (ac 2) (fC (.int 1))) (fC (.str "")))) (bOr (br (fB (ai aJ 1 (aa (f2 ixD (ac 2) (fC (.int 0))) ah)))) (br (fB (ai bC 1 (aa (f2 ixD (ac 2) (fC (.int 2))) ah)))))) (aG 4 (fC (.str "the first part is no note's name, = and worth"))) (fun ρ=>a_ (.nx ρ))) (uA 3 (aa (f2 ixD (ac 2) (fC (.int 0))) (aa (f2 ixD (ac 2) (fC (.int 2))) (aa (fC .non) (aa (fC .non) (aa (fC .non) (aa (fC .non) (aa (fC (.bl d_)) (aa (fC (.str "any")) ah)))))))) (cX (uB 4 [4,5] (ef (sE (ac 1) (bP (fC (.int 1))) cm)) bG) (kq 3 (fB1 cD (aa (ac 3) ah)))))))))
def aC:List Dv→Option (Rs Dv):=fT 6 dL
def TE6:ci:=("read_given",5,["text"],aC) :: TE5
theorem mw (A:Af K "read_given" (top 72) f) (t:HA P w K mg base T29) (te:HAE P w K mg base TE5):HAE P w K mg base TE6 :=
 cf (cF XI Gn ["text","parts","first","given","part","told"] ["text"] dL A (by walk_at "d") (by delta dL bG; walk_at "b")) te
def au:FnS:=(ar (bi (ao aW 1 (aa (ac 0) ah))) (ar (bi (ao bY 1 (aa (ac 1) ah))) (ar (bi (ao bJ 1 (aa (ac 2) ah))) (ar (aL 5 (ao aC 1 (aa (ac 3) ah))) (ar (bi (ao bF 1 (aa (ac 4) ah))) (ay (ac 5)))))))
def aj:List Dv→Option (Rs Dv):=fT 6 au
def TE7:ci:=("read_what_is_given",7,["table","jar","ask","text","now"],aj) :: TE6
theorem gU (A:Af K "read_what_is_given" (top 105) f) (te:HAE P w K mg base TE6):HAE P w K mg base TE7 :=
 cf (cF XI Gn ["table","jar","ask","text","now","given"] ["table","jar","ask","text","now"] au A (by walk_at "d") (by delta au; walk_at "b")) te
def gW:FnS:=(ar (aM (fB (f2 isN (f2 ixD (ac 0) (fC (.int 5))) (fC .non))) (ay (f2 ixD (ac 0) (fC (.int 4)))) (fun ρ=>a_ (.nx ρ))) (ay (fB1 Ar (aa (f2 cZ (ac 1) (f2 ixD (ac 0) (fC (.int 5)))) (aa (fC (.int 9999)) ah)))))
def gX:List Dv→Option (Rs Dv):=bt 2 gW
def T30:ci:=("end_for",1,["given","now"],gX) :: T29
theorem sf (A:Af K "end_for" (top 92) f) (t:HA P w K mg base T29):HA P w K mg base T30 :=
 av (aH XI Gn ["given","now"] ["given","now"] gW A (by walk_at "d") (by delta gW; walk_at "b")) t
def fw:FnS:=(ar (aM (fB (f2 isN (f2 ixD (ac 1) (fC (.int 2))) (fC .non))) (ay (f2 ixD (ac 0) (fC (.int 1)))) (fun ρ=>a_ (.nx ρ))) (ay (f2 ixD (ac 1) (fC (.int 2)))))
def fz:List Dv→Option (Rs Dv):=bt 2 fw
def T31:ci:=("house_for",1,["ask","given"],fz) :: T30
theorem oh (A:Af K "house_for" (top 90) f) (t:HA P w K mg base T30):HA P w K mg base T31 :=
 av (aH XI Gn ["ask","given"] ["ask","given"] fw A (by walk_at "d") (by delta fw; walk_at "b")) t
def dO:FnS:=(ay (f2 ixD (fM (lW) (ac 0) (aa (fC (.str ".")) ah)) (fC (.int 2))))
def dP:List Dv→Option (Rs Dv):=bt 1 dO
def T32:ci:=("behind_first_dot",1,["end"],dP) :: T31
theorem iK (A:Af K "behind_first_dot" (top 26) f) (t:HA P w K mg base T31):HA P w K mg base T32 :=
 av (aH XI Gn ["end"] ["end"] dO A (by walk_at "d") (by delta dO; walk_at "b")) t
def c0:FnS:=(ar (aL 1 (fM (fV) (ac 0) (aa (fC (.str ".")) ah))) (ay (cq [("parts",1)] (fun ρ=>bnd ((aa (fB1 iB (aa (ac 1) ah)) ah) ρ) jY) ck (fM (ud) (fC (.str ".")) (aa (sE (ac 1) (bP (ac 0)) cm) ah)))))
def c8:List Dv→Option (Rs Dv):=bt 2 c0
def T33:ci:=("ends_longest_first",1,["name"],c8) :: T32
theorem gY (A:Af K "ends_longest_first" (top 25) f) (t:HA P w K mg base T32):HA P w K mg base T33 :=
 av (aH XI Gn ["name","parts"] ["name"] c0 A (by walk_at "d") (by delta c0; walk_at "b")) t
def fP:FnS:=(ar (aM (fB (f2 inD (ac 1) (ac 0))) (ay (fC (.bl c_))) (fun ρ=>a_ (.nx ρ))) (ay (cC (f2 inD (fC (.str ".")) (ac 1)) (f2 inD (f2 cZ (fC (.str "*.")) (ai dP 1 (aa (ac 1) ah))) (ac 0)))))
def iy:List Dv→Option (Rs Dv):=bt 2 fP
def T34:ci:=("is_told_open",2,["table","end"],iy) :: T33
theorem kK (A:Af K "is_told_open" (top 27) f) (t:HA P w K mg base T33):HA P w K mg base T34 :=
 av (aH XI Gn ["table","end"] ["table","end"] fP A (by walk_at "d") (by delta fP; walk_at "b")) t
def gc:FnS:=(aM (fB (f2 inD (f2 cZ (fC (.str "!")) (ac 3)) (ac 0))) (ay (ai dP 1 (aa (ac 3) ah))) (fun ρ=>a_ (.nx ρ)))
def gd:FnS:=(aM (fB (ai iy 2 (aa (ac 0) (aa (ac 3) ah)))) (ay (ac 3)) (fun ρ=>a_ (.nx ρ)))
def fA:FnS:=(ar (aL 2 (ai c8 1 (aa (ac 1) ah))) (ar (wf 3 [] (ef (ac 2)) gc) (ar (wf 3 [3] (ef (ac 2)) gd) (ay (f2 ixD (ac 2) (f1 wg (fC (.int 1))))))))
def cG:List Dv→Option (Rs Dv):=bt 4 fA
def T35:ci:=("find_open_end",3,["table","name"],cG) :: T34
theorem jZ (A:Af K "find_open_end" (top 28) f) (t:HA P w K mg base T34):HA P w K mg base T35 :=
 av (aH XI Gn ["table","name","ends","end"] ["table","name"] fA A (by walk_at "d") (by delta fA gc gd; walk_at "b")) t
def jf:FnS:=(ay (f2 eqX (ai cG 2 (aa (ac 0) (aa (ac 1) ah))) (ac 1)))
def gf:List Dv→Option (Rs Dv):=bt 2 jf
def T36:ci:=("is_open",4,["table","house"],gf) :: T35
theorem sg (A:Af K "is_open" (top 85) f) (t:HA P w K mg base T35):HA P w K mg base T36 :=
 av (aH XI Gn ["table","house"] ["table","house"] jf A (by walk_at "d") (by delta jf; walk_at "b")) t
def gg:FnS:=(ar (aL 3 (f2 ixD (ac 2) (fC (.int 2)))) (ar (aM (fB (f2 isN (ac 3) (fC .non))) (ay (fC (.bl c_))) (fun ρ=>a_ (.nx ρ))) (ay (cC (f2 eqX (ac 3) (f2 ixD (ac 1) (fC (.int 1)))) (ai gf 2 (aa (ac 0) (aa (ac 3) ah)))))))
def cT:List Dv→Option (Rs Dv):=bt 4 gg
def T37:ci:=("is_exact",5,["table","ask","given"],cT) :: T36
theorem pS (A:Af K "is_exact" (top 86) f) (t:HA P w K mg base T36):HA P w K mg base T37 :=
 av (aH XI Gn ["table","ask","given","house"] ["table","ask","given"] gg A (by walk_at "d") (by delta gg; walk_at "b")) t
def cr:FnS:=(ar (aM (br (fB (ai cy 2 (aa (ac 0) (aa (fC (.int 8)) ah))))) (ay (fC (.bl d_))) (fun ρ=>a_ (.nx ρ))) (ay (fB1 ju (aa (bz (aa (ai aJ 1 (aa (f2 ixD (ac 0) (fC (.int 0))) ah)) (aa (ai bC 1 (aa (f2 ixD (ac 0) (fC (.int 1))) ah)) (aa (vOr (f2 isN (f2 ixD (ac 0) (fC (.int 2))) (fC .non)) (ai bX 1 (aa (f2 ixD (ac 0) (fC (.int 2))) ah))) (aa (vOr (f2 isN (f2 ixD (ac 0) (fC (.int 3))) (fC .non)) (ai cz 1 (aa (f2 ixD (ac 0) (fC (.int 3))) ah))) (aa (ai az 1 (aa (f2 ixD (ac 0) (fC (.int 4))) ah)) (aa (ai az 1 (aa (f2 ixD (ac 0) (fC (.int 5))) ah)) (aa (f1 (cQ aO) (f2 ixD (ac 0) (fC (.int 6)))) (aa (ai eR 1 (aa (f2 ixD (ac 0) (fC (.int 7))) ah)) ah))))))))) ah))))
def bU:List Dv→Option (Rs Dv):=bt 1 cr
def T38:ci:=("is_given",4,["thing"],bU) :: T37
theorem pU (A:Af K "is_given" (top 68) f) (t:HA P w K mg base T37):HA P w K mg base T38 :=
 av (aH XI Gn ["thing"] ["thing"] cr A (by walk_at "d") (by delta cr; walk_at "b")) t
def eQ:FnS:=(aM (br (fB (ai bU 1 (aa (ac 0) ah)))) (aG 4 (fC (.str "this can't be given"))) (fun ρ=>a_ (.nx ρ)))
def dR:List Dv→Option (Rs Dv):=fT 1 eQ
def TE8:ci:=("need_given",5,["thing"],dR) :: TE7
theorem mx (A:Af K "need_given" (top 69) f) (t:HA P w K mg base T38) (te:HAE P w K mg base TE7):HAE P w K mg base TE8 :=
 cf (cF XI Gn ["thing"] ["thing"] eQ A (by walk_at "d") (by delta eQ; walk_at "b")) te
def gZ:FnS:=(aM (br (fB (ai cz 1 (aa (ac 0) ah)))) (aG 2 (fC (.str "this is no path"))) (fun ρ=>a_ (.nx ρ)))
def jV:List Dv→Option (Rs Dv):=fT 1 gZ
def TE9:ci:=("need_path",3,["thing"],jV) :: TE8
theorem oi (A:Af K "need_path" (top 34) f) (t:HA P w K mg base T38) (te:HAE P w K mg base TE8):HAE P w K mg base TE9 :=
 cf (cF XI Gn ["thing"] ["thing"] gZ A (by walk_at "d") (by delta gZ; walk_at "b")) te
def kL:FnS:=(ar (bi (ao jV 1 (aa (ac 0) ah))) (ar (aL 1 (fM (yJ Qq) (ac 0) (aa (fC (.str "/")) ah))) (ar (aM (fB (f2 eqX (ac 1) (fC (.int 0)))) (ay (fC (.str "/"))) (fun ρ=>a_ (.nx ρ))) (ay (sE (ac 0) cm (bP (ac 1)))))))
def jg:List Dv→Option (Rs Dv):=fT 2 kL
def Ic:ci:=("folder",4,["path"],jg) :: TE9
theorem vj (A:Af K "folder" (top 35) f) (te:HAE P w K mg base TE9):HAE P w K mg base Ic :=
 cf (cF XI Gn ["path","place"] ["path"] kL A (by walk_at "d") (by delta kL; walk_at "b")) te
def fD:FnS:=(ar (aM (fB (f2 isN (f2 ixD (ac 1) (fC (.int 3))) (fC .non))) (ay (ao jg 1 (aa (f2 ixD (ac 0) (fC (.int 2))) ah))) (fun ρ=>a_ (.nx ρ))) (ay (f2 ixD (ac 1) (fC (.int 3)))))
def el:List Dv→Option (Rs Dv):=fT 2 fD
def Ie:ci:=("path_for",5,["ask","given"],el) :: Ic
theorem pV (A:Af K "path_for" (top 91) f) (te:HAE P w K mg base Ic):HAE P w K mg base Ie :=
 cf (cF XI Gn ["ask","given"] ["ask","given"] fD A (by walk_at "d") (by delta fD; walk_at "b")) te
def fQ:FnS:=(ar (aL 2 (ai cG 2 (aa (ac 0) (aa (ac 1) ah)))) (ar (aL 3 (ai c8 1 (aa (ac 1) ah))) (ar (aL 4 (fML Gk (ac 3) (aa (ac 2) ah))) (ar (aM (fB (f2 eqX (ac 4) (fC (.int 0)))) (ay (fC .non)) (fun ρ=>a_ (.nx ρ))) (ay (f2 ixD (ac 3) (f2 yD (ac 4) (fC (.int 1)))))))))
def db:List Dv→Option (Rs Dv):=bt 5 fQ
def T39:ci:=("find_own_end",4,["table","name"],db) :: T38
theorem kM (A:Af K "find_own_end" (top 29) f) (t:HA P w K mg base T38):HA P w K mg base T39 :=
 av (aH XI Gn ["table","name","end","ends","place"] ["table","name"] fQ A (by walk_at "d") (by delta fQ; walk_at "b")) t
def bw:FnS:=(ar (aL 2 (f2 ixD (ac 1) (fC (.int 1)))) (ar (aL 3 (f2 ixD (ac 1) (fC (.int 3)))) (ar (aM (bOr (fB (f2 isN (ac 3) (fC .non))) (fB (f2 eqX (ac 3) (ac 2)))) (ay (fC (.bl c_))) (fun ρ=>a_ (.nx ρ))) (ar (aL 4 (ai db 2 (aa (ac 0) (aa (ac 2) ah)))) (ay (cC (f2 cP (ac 4) (fC .non)) (f2 eqX (ac 4) (ai db 2 (aa (ac 0) (aa (ac 3) ah))))))))))
def bb:List Dv→Option (Rs Dv):=bt 5 bw
def T40:ci:=("comes_from_near",5,["table","ask"],bb) :: T39
theorem jh (A:Af K "comes_from_near" (top 49) f) (t:HA P w K mg base T39):HA P w K mg base T40 :=
 av (aH XI Gn ["table","ask","house","origin","own"] ["table","ask"] bw A (by walk_at "d") (by delta bw; walk_at "b")) t
def ce:FnS:=(ar (aL 3 (f2 ixD (ac 2) (fC (.int 0)))) (ar (aM (fB (fM (jS A_) (ac 3) (aa (fC (.str "safe-")) ah))) (ay (f2 ixD (ac 2) (fC (.int 6)))) (fun ρ=>a_ (.nx ρ))) (ar (aM (fB (fM (jS A_) (ac 3) (aa (fC (.str "own-")) ah))) (ay (cC (f2 ixD (ac 2) (fC (.int 6))) (cC (ai cT 3 (aa (ac 0) (aa (ac 1) (aa (ac 2) ah)))) (f2 eqX (f2 ixD (ac 2) (fC (.int 3))) (fC (.str "/")))))) (fun ρ=>a_ (.nx ρ))) (ay (fC (.bl c_))))))
def bK:List Dv→Option (Rs Dv):=bt 4 ce
def T41:ci:=("keeps_its_mark",6,["table","ask","given"],bK) :: T40
theorem jI (A:Af K "keeps_its_mark" (top 87) f) (t:HA P w K mg base T40):HA P w K mg base T41 :=
 av (aH XI Gn ["table","ask","given","name"] ["table","ask","given"] ce A (by walk_at "d") (by delta ce; walk_at "b")) t
def gx:FnS:=(ay (vOr (f2 eqX (ac 0) (ac 1)) (fM (jS Np) (ac 0) (aa (f2 cZ (fC (.str ".")) (ac 1)) ah))))
def bc:List Dv→Option (Rs Dv):=bt 2 gx
def T42:ci:=("lies_within",1,["one","other"],bc) :: T41
theorem lg (A:Af K "lies_within" (top 24) f) (t:HA P w K mg base T41):HA P w K mg base T42 :=
 av (aH XI Gn ["one","other"] ["one","other"] gx A (by walk_at "d") (by delta gx; walk_at "b")) t
def bR:FnS:=(ar (bi (ao aW 1 (aa (ac 0) ah))) (ar (bi (ao bJ 1 (aa (ac 1) ah))) (ar (bi (ao dR 1 (aa (ac 2) ah))) (ar (aL 3 (f2 ixD (ac 2) (fC (.int 2)))) (ar (aM (bS (fB (f2 cP (ac 3) (fC .non))) (br (fB (ai bc 2 (aa (f2 ixD (ac 1) (fC (.int 1))) (aa (ac 3) ah)))))) (ay (fC (.str "foreign"))) (fun ρ=>a_ (.nx ρ))) (ar (aM (bS (fB (f2 cP (ac 3) (fC .non))) (bS (fB (f2 neX (ac 3) (f2 ixD (ac 1) (fC (.int 1))))) (fB (ai gf 2 (aa (ac 0) (aa (ac 3) ah)))))) (ay (fC (.str "open"))) (fun ρ=>a_ (.nx ρ))) (ar (aM (bS (fB (f2 ixD (ac 2) (fC (.int 6)))) (br (fB (f2 ixD (ac 1) (fC (.int 0)))))) (ay (fC (.str "unsafe"))) (fun ρ=>a_ (.nx ρ))) (ar (aM (br (fB (ai bK 3 (aa (ac 0) (aa (ac 1) (aa (ac 2) ah)))))) (ay (fC (.str "marked"))) (fun ρ=>a_ (.nx ρ))) (ar (aM (bS (fB (f2 eqX (f2 ixD (ac 2) (fC (.int 7))) (fC (.str "near")))) (br (fB (ai bb 2 (aa (ac 0) (aa (ac 1) ah)))))) (ay (fC (.str "far"))) (fun ρ=>a_ (.nx ρ))) (ay (fC .non)))))))))))
def aP:List Dv→Option (Rs Dv):=fT 4 bR
def Ig:ci:=("why_refused",7,["table","ask","given"],aP) :: Ie
theorem lh (A:Af K "why_refused" (top 88) f) (t:HA P w K mg base T42) (te:HAE P w K mg base Ie):HAE P w K mg base Ig :=
 cf (cF XI Gn ["table","ask","given","house"] ["table","ask","given"] bR A (by walk_at "d") (by delta bR; walk_at "b")) te
def my:FnS:=(ar (bi (ao aW 1 (aa (ac 0) ah))) (ar (bi (ao bJ 1 (aa (ac 1) ah))) (ar (bi (ao dR 1 (aa (ac 2) ah))) (ar (bi (ao bF 1 (aa (ac 3) ah))) (ar (aM (fB (f2 cP (ao aP 3 (aa (ac 0) (aa (ac 1) (aa (ac 2) ah)))) (fC .non))) (aG 4 (fC (.str "this may not be given by this ask"))) (fun ρ=>a_ (.nx ρ))) (ay (bp (aa (f2 ixD (ac 2) (fC (.int 0))) (aa (f2 ixD (ac 2) (fC (.int 1))) (aa (ai fz 2 (aa (ac 1) (aa (ac 2) ah))) (aa (ai cT 3 (aa (ac 0) (aa (ac 1) (aa (ac 2) ah)))) (aa (ao el 2 (aa (ac 1) (aa (ac 2) ah))) (aa (ai gX 2 (aa (ac 2) (aa (ac 3) ah))) (aa (f2 ixD (ac 2) (fC (.int 6))) (aa (f2 ixD (ac 2) (fC (.int 7))) (aa (ac 3) (aa (ac 3) ah)))))))))))))))))
def du:List Dv→Option (Rs Dv):=fT 4 my
def Ih:ci:=("made",8,["table","ask","given","now"],du) :: Ig
theorem Be (A:Af K "made" (top 93) f) (t:HA P w K mg base T42) (te:HAE P w K mg base Ig):HAE P w K mg base Ih :=
 cf (cF XI Gn ["table","ask","given","now"] ["table","ask","given","now"] my A (by walk_at "d") (by delta my; walk_at "b")) te
def pW:FnS:=(ar (aL 2 (bB 1 [("note",1)] (ef (ac 0)) (gN 0) (a_ (fB (f2 eqX (ai eN 1 (aa (ac 0) ah)) (ai eN 1 (aa (ac 1) ah))))) (ac 0))) (ar (aM (fB (f2 eqX (ac 2) (bz ah))) (ay (f2 bZ (ac 0) (bp (aa (ac 1) ah)))) (fun ρ=>a_ (.nx ρ))) (ar (aL 3 (f2 bZ (f2 bZ (cR (ac 1) cm (bP (fC (.int 8)))) (bp (aa (f2 ixD (f2 ixD (ac 2) (fC (.int 0))) (fC (.int 8))) ah))) (cR (ac 1) (bP (f2 bZ (fC (.int 8)) (fC (.int 1)))) cm))) (ay (fB1 cD (aa (cq [("note",1),("newer",3)] (ef (ac 0)) ck (fIf (fB (f2 eqX (ai eN 1 (aa (ac 0) ah)) (ai eN 1 (aa (ac 1) ah)))) (ac 2) (ac 0))) ah))))))
def xW:List Dv→Option (Rs Dv):=bt 4 pW
def T43:ci:=("put",2,["jar","note"],xW) :: T42
theorem EZ (A:Af K "put" (top 104) f) (t:HA P w K mg base T42):HA P w K mg base T43 :=
 av (aH XI Gn ["jar","note","same","newer"] ["jar","note"] pW A (by walk_at "d") (by delta pW; walk_at "b")) t
def gz:FnS:=(ay (cC (f2 cP (f2 ixD (ac 0) (fC (.int 5))) (fC .non)) (f2 leX (f2 ixD (ac 0) (fC (.int 5))) (ac 1))))
def bL:List Dv→Option (Rs Dv):=bt 2 gz
def T44:ci:=("has_ended",1,["note","now"],bL) :: T43
theorem oj (A:Af K "has_ended" (top 95) f) (t:HA P w K mg base T43):HA P w K mg base T44 :=
 av (aH XI Gn ["note","now"] ["note","now"] gz A (by walk_at "d") (by delta gz; walk_at "b")) t
def cH:FnS:=(ay (fB1 cD (aa (cq [("now",1)] (ef (ac 0)) (a_ (br (fB (ai bL 2 (aa (ac 0) (aa (ac 1) ah)))))) (ac 0)) ah)))
def cu:List Dv→Option (Rs Dv):=bt 2 cH
def T45:ci:=("without_ended",2,["notes","now"],cu) :: T44
theorem j3 (A:Af K "without_ended" (top 103) f) (t:HA P w K mg base T44):HA P w K mg base T45 :=
 av (aH XI Gn ["notes","now"] ["notes","now"] cH A (by walk_at "d") (by delta cH; walk_at "b")) t
def g7:FnS:=(ar (aM (fB (f2 eqX (ac 0) (ac 1))) (ay (fC (.bl c_))) (fun ρ=>a_ (.nx ρ))) (ar (aM (br (fB (fM (jS A_) (ac 0) (aa (ac 1) ah)))) (ay (fC (.bl d_))) (fun ρ=>a_ (.nx ρ))) (ay (vOr (fM (jS Np) (ac 1) (aa (fC (.str "/")) ah)) (f2 eqX (f2 ixD (ac 0) (fB1 iB (aa (ac 1) ah))) (fC (.str "/")))))))
def cK:List Dv→Option (Rs Dv):=bt 2 g7
def T46:ci:=("lies_under",1,["path","top"],cK) :: T45
theorem mz (A:Af K "lies_under" (top 36) f) (t:HA P w K mg base T45):HA P w K mg base T46 :=
 av (aH XI Gn ["path","top"] ["path","top"] g7 A (by walk_at "d") (by delta g7; walk_at "b")) t
def hU:FnS:=(ar (aM (bOr (br (fB (f2 ixD (ac 0) (fC (.int 6))))) (bOr (fB (ai bL 2 (aa (ac 0) (aa (ac 2) ah)))) (fB (f2 neX (f2 ixD (ac 0) (fC (.int 0))) (f2 ixD (ac 1) (fC (.int 0))))))) (ay (fC (.bl d_))) (fun ρ=>a_ (.nx ρ))) (ar (aM (bS (br (fB (ai bc 2 (aa (f2 ixD (ac 1) (fC (.int 2))) (aa (f2 ixD (ac 0) (fC (.int 2))) ah))))) (br (fB (ai bc 2 (aa (f2 ixD (ac 0) (fC (.int 2))) (aa (f2 ixD (ac 1) (fC (.int 2))) ah)))))) (ay (fC (.bl d_))) (fun ρ=>a_ (.nx ρ))) (ay (ai cK 2 (aa (f2 ixD (ac 1) (fC (.int 4))) (aa (f2 ixD (ac 0) (fC (.int 4))) ah))))))
def hV:List Dv→Option (Rs Dv):=bt 3 hU
def T47:ci:=("shadows",2,["old","note","now"],hV) :: T46
theorem sh (A:Af K "shadows" (top 108) f) (t:HA P w K mg base T46):HA P w K mg base T47 :=
 av (aH XI Gn ["old","note","now"] ["old","note","now"] hU A (by walk_at "d") (by delta hU; walk_at "b")) t
def er:FnS:=(ar (aL 5 (ao aP 3 (aa (ac 0) (aa (ac 2) (aa (ac 3) ah))))) (ar (aM (fB (f2 cP (ac 5) (fC .non))) (ay (ac 5)) (fun ρ=>a_ (.nx ρ))) (ar (aL 6 (ao du 4 (aa (ac 0) (aa (ac 2) (aa (ac 3) (aa (ac 4) ah)))))) (ar (aM (bS (br (fB (f2 ixD (ac 2) (fC (.int 0))))) (fB (fB1 AH (aa (cq [("now",4),("note",6)] (ef (ac 1)) ck (ai hV 3 (aa (ac 0) (aa (ac 2) (aa (ac 1) ah))))) ah)))) (ay (fC (.str "shadowed"))) (fun ρ=>a_ (.nx ρ))) (ar (aM (fB (ai bL 2 (aa (ac 6) (aa (ac 4) ah)))) (ay (fC (.str "gone"))) (fun ρ=>a_ (.nx ρ))) (ay (fC (.str "kept"))))))))
def bD:List Dv→Option (Rs Dv):=fT 7 er
def Ii:ci:=("word_of",9,["table","jar","ask","given","now"],bD) :: Ih
theorem si (A:Af K "word_of" (top 107) f) (t:HA P w K mg base T47) (te:HAE P w K mg base Ih):HAE P w K mg base Ii :=
 cf (cF XI Gn ["table","jar","ask","given","now","refused","note"] ["table","jar","ask","given","now"] er A (by walk_at "d") (by delta er; walk_at "b")) te
def cU:FnS:=(ar (aL 5 (ao bD 5 (aa (ac 0) (aa (ac 1) (aa (ac 2) (aa (ac 3) (aa (ac 4) ah))))))) (ar (aL 6 (ai cu 2 (aa (ac 1) (aa (ac 4) ah)))) (ar (aM (fB (f2 eqX (ac 5) (fC (.str "kept")))) (ay (ai xW 2 (aa (ac 6) (aa (ao du 4 (aa (ac 0) (aa (ac 2) (aa (ac 3) (aa (ac 4) ah))))) ah)))) (fun ρ=>a_ (.nx ρ))) (ar (aM (fB (f2 eqX (ac 5) (fC (.str "gone")))) (ar (aL 7 (ai eN 1 (aa (ao du 4 (aa (ac 0) (aa (ac 2) (aa (ac 3) (aa (ac 4) ah))))) ah))) (ay (fB1 cD (aa (cq [("ended",7)] (ef (ac 6)) (a_ (fB (f2 neX (ai eN 1 (aa (ac 0) ah)) (ac 1)))) (ac 0)) ah)))) (fun ρ=>a_ (.nx ρ))) (ay (ac 6))))))
def cV:List Dv→Option (Rs Dv):=fT 8 cU
def Ij:ci:=("take_in",10,["table","jar","ask","given","now"],cV) :: Ii
theorem sj (A:Af K "take_in" (top 110) f) (t:HA P w K mg base T47) (te:HAE P w K mg base Ii):HAE P w K mg base Ij :=
 cf (cF XI Gn ["table","jar","ask","given","now","word","notes","ended"] ["table","jar","ask","given","now"] cU A (by walk_at "d") (by delta cU; walk_at "b")) te
def gA:FnS:=(ar (aL 5 (ao aj 5 (aa (ac 0) (aa (ac 1) (aa (ac 2) (aa (ac 3) (aa (ac 4) ah))))))) (ar (aM (fB (fB1 AH (aa (cq [("now",4)] (ef (ac 1)) ck (f2 gtD (f2 ixD (ac 0) (fC (.int 9))) (ac 1))) ah))) (aG 6 (fC (.str "some note was used later than this moment"))) (fun ρ=>a_ (.nx ρ))) (ar (aL 6 (ao cV 5 (aa (ac 0) (aa (ac 1) (aa (ac 2) (aa (ac 5) (aa (ac 4) ah))))))) (ar (bi (ao aS 1 (aa (ac 6) ah))) (ay (ac 6))))))
def gB:List Dv→Option (Rs Dv):=fT 7 gA
def Ik:ci:=("taken",11,["table","jar","ask","text","now"],gB) :: Ij
theorem xX (A:Af K "taken" (top 109) f) (te:HAE P w K mg base Ij):HAE P w K mg base Ik :=
 cf (cF XI Gn ["table","jar","ask","text","now","given","notes"] ["table","jar","ask","text","now"] gA A (by walk_at "d") (by delta gA; walk_at "b")) te
def gh:FnS:=(ar (aL 5 (ao aj 5 (aa (ac 0) (aa (ac 1) (aa (ac 2) (aa (ac 3) (aa (ac 4) ah))))))) (ay (ao bD 5 (aa (ac 0) (aa (ac 1) (aa (ac 2) (aa (ac 5) (aa (ac 4) ah))))))))
def eU:List Dv→Option (Rs Dv):=fT 6 gh
def Ju:ci:=("verdict",10,["table","jar","ask","text","now"],eU) :: Ik
theorem sm (A:Af K "verdict" (top 106) f) (te:HAE P w K mg base Ik):HAE P w K mg base Ju :=
 cf (cF XI Gn ["table","jar","ask","text","now","given"] ["table","jar","ask","text","now"] gh A (by walk_at "d") (by delta gh; walk_at "b")) te
def dv:FnS:=(Ad 7 6 7 (fIf (fB (f2 eqX (ac 0) (fC (.int 0)))) (ao eU 5 (aa (ac 1) (aa (ac 2) (aa (ac 3) (aa (ac 4) (aa (ac 5) ah)))))) (ao gB 5 (aa (ac 1) (aa (ac 2) (aa (ac 3) (aa (ac 4) (aa (ac 5) ah))))))) (ai bh 1 (aa (ac 6) ah)))
def am:List Dv→Option (Rs Dv):=bt 7 dv
def T48:ci:=("_law_told",12,["_law_way","_law_table_here","_law_jar_here","_law_ask_here","_law_text_here","_law_now"],am) :: T47
theorem om (A:Af K "_law_told" (top 133) f) (t:HA P w K mg base T47) (te:HAE P w K mg base Ju) (tm:HAM P w K mg base TM1):HA P w K mg base T48 :=
 av (aH XI Gn ["_law_way","_law_table_here","_law_jar_here","_law_ask_here","_law_text_here","_law_now","_law_e"] ["_law_way","_law_table_here","_law_jar_here","_law_ask_here","_law_text_here","_law_now"] dv A (by walk_at "d") (by delta dv; walk_at "b")) t
def iL:FnS:=(ar (aL 1 (fM (fV) (ac 0) (aa (fC (.str ".")) ah))) (ay (cq [("_law_parts",1)] (fun ρ=>bnd ((aa (fB1 iB (aa (ac 1) ah)) ah) ρ) jY) ck (fM (ud) (fC (.str ".")) (aa (cR (ac 1) (bP (ac 0)) cm) ah)))))
def iM:List Dv→Option (Rs Dv):=bt 2 iL
def T49:ci:=("_law_ends",1,["_law_name_here"],iM) :: T48
theorem oo (A:Af K "_law_ends" (top 118) f) (t:HA P w K mg base T48):HA P w K mg base T49 :=
 av (aH XI Gn ["_law_name_here","_law_parts"] ["_law_name_here"] iL A (by walk_at "d") (by delta iL; walk_at "b")) t
def iN:FnS:=(ar (aL 2 (ai iM 1 (aa (ac 1) ah))) (ar (aL 3 (bB 1 [("_law_table_here",0)] (ef (ac 2)) (gN 0) (a_ (fB (f2 inX (f2 bZ (fC (.str "!")) (ac 0)) (ac 1)))) (ac 0))) (ar (aM (fB (f2 neX (ac 3) (bz ah))) (ay (cR (f2 ixD (ac 3) (fC (.int 0))) (bP (f2 bZ (fM BM (f2 ixD (ac 3) (fC (.int 0))) (aa (fC (.str ".")) ah)) (fC (.int 1)))) cm)) (fun ρ=>a_ (.nx ρ))) (ar (aL 4 (bB 1 [("_law_table_here",0)] (ef (ac 2)) (gN 0) (a_ (bOr (fB (f2 inX (ac 0) (ac 1))) (bS (fB (f2 inX (f2 bZ (fC (.str "*")) (cR (ac 0) (bP (fM (yJ Txt.find) (ac 0) (aa (fC (.str ".")) ah))) cm)) (ac 1))) (fB (f2 inX (fC (.str ".")) (ac 0)))))) (ac 0))) (ay (f2 ixD (f2 bZ (ac 4) (cR (ac 2) (bP (f1 wg (fC (.int 1)))) cm)) (fC (.int 0))))))))
def bE:List Dv→Option (Rs Dv):=bt 5 iN
def T50:ci:=("_law_open",2,["_law_table_here","_law_name_here"],bE) :: T49
theorem oq (A:Af K "_law_open" (top 119) f) (t:HA P w K mg base T49):HA P w K mg base T50 :=
 av (aH XI Gn ["_law_table_here","_law_name_here","_law_ends_here","_law_called","_law_met"] ["_law_table_here","_law_name_here"] iN A (by walk_at "d") (by delta iN; walk_at "b")) t
def fE:FnS:=(ar (oW [4,5,6,7] (cR (ac 2) cm (bP (fC (.int 4))))) (ar (oW [8,9,10,11] (cR (ac 2) (bP (fC (.int 4))) cm)) (ar (aL 12 (vOr (f2 isN (ac 6) (fC .non)) (cC (f2 eqX (ac 6) (f2 ixD (ac 1) (fC (.int 1)))) (f2 eqX (ai bE 2 (aa (ac 0) (aa (ac 6) ah))) (ac 6))))) (ar (aL 13 (cR (f2 ixD (ac 1) (fC (.int 2))) cm (bP (fB1 Gu (aa (fC (.int 1)) (aa (fM (yJ Qq) (f2 ixD (ac 1) (fC (.int 2))) (aa (fC (.str "/")) ah)) ah)))))) (ar (aL 14 (fIf (fB (f2 isN (ac 9) (fC .non))) (ac 8) (fB1 Ar (aa (fC (.int 9999)) (aa (f2 bZ (ac 3) (ac 9)) ah))))) (ar (aL 15 (bp (aa (ac 4) (aa (ac 5) (aa (fIf (fB (f2 isN (ac 6) (fC .non))) (f2 ixD (ac 1) (fC (.int 1))) (ac 6)) (aa (ac 12) (aa (fIf (fB (f2 isN (ac 7) (fC .non))) (ac 13) (ac 7)) ah))))))) (ay (f2 bZ (ac 15) (bp (aa (ac 14) (aa (ac 10) (aa (ac 11) (aa (ac 3) (aa (ac 3) ah))))))))))))))
def bM:List Dv→Option (Rs Dv):=bt 16 fE
def T51:ci:=("_law_made",3,["_law_table_here","_law_ask_here","_law_given_here","_law_now"],bM) :: T50
theorem ot (A:Af K "_law_made" (top 127) f) (t:HA P w K mg base T50):HA P w K mg base T51 :=
 av (aH XI Gn ["_law_table_here","_law_ask_here","_law_given_here","_law_now","_law_name_here","_law_worth","_law_house","_law_path_here","_law_until","_law_lasts","_law_safe","_law_reach","_law_exact","_law_above","_law_ends_here","_law_head"] ["_law_table_here","_law_ask_here","_law_given_here","_law_now"] fE A (by walk_at "d") (by delta fE; walk_at "b")) t
def hZ:FnS:=(ay (vOr (f2 eqX (ac 0) (ac 1)) (cC (fM (jS A_) (ac 0) (aa (ac 1) ah)) (vOr (fM (jS Np) (ac 1) (aa (fC (.str "/")) ah)) (fM (jS A_) (ac 0) (aa (f2 cZ (ac 1) (fC (.str "/"))) ah))))))
def cL:List Dv→Option (Rs Dv):=bt 2 hZ
def T52:ci:=("_law_under",1,["_law_path_here","_law_top"],cL) :: T51
theorem mB (A:Af K "_law_under" (top 122) f) (t:HA P w K mg base T51):HA P w K mg base T52 :=
 av (aH XI Gn ["_law_path_here","_law_top"] ["_law_path_here","_law_top"] hZ A (by walk_at "d") (by delta hZ; walk_at "b")) t
def jJ:FnS:=(ar (aL 2 (ai iM 1 (aa (ac 1) ah))) (ar (aL 3 (bB 1 [("_law_table_here",0),("_law_name_here",1)] (ef (ac 2)) (gN 0) (a_ (fB (f2 gtD (fB1 iB (aa (ac 0) ah)) (fB1 iB (aa (ai bE 2 (aa (ac 1) (aa (ac 2) ah))) ah))))) (ac 0))) (ay (fIf (fB (f2 neX (ac 3) (bz ah))) (f2 ixD (ac 3) (f1 wg (fC (.int 1)))) (fC .non)))))
def eV:List Dv→Option (Rs Dv):=bt 4 jJ
def T53:ci:=("_law_own",3,["_law_table_here","_law_name_here"],eV) :: T52
theorem pX (A:Af K "_law_own" (top 120) f) (t:HA P w K mg base T52):HA P w K mg base T53 :=
 av (aH XI Gn ["_law_table_here","_law_name_here","_law_ends_here","_law_longer"] ["_law_table_here","_law_name_here"] jJ A (by walk_at "d") (by delta jJ; walk_at "b")) t
def cM:FnS:=(ar (aM (bOr (fB (f2 isN (f2 ixD (ac 1) (fC (.int 3))) (fC .non))) (fB (f2 eqX (f2 ixD (ac 1) (fC (.int 3))) (f2 ixD (ac 1) (fC (.int 1)))))) (ay (fC (.bl c_))) (fun ρ=>a_ (.nx ρ))) (ay (cC (f2 cP (ai eV 2 (aa (ac 0) (aa (f2 ixD (ac 1) (fC (.int 1))) ah))) (fC .non)) (f2 eqX (ai eV 2 (aa (ac 0) (aa (f2 ixD (ac 1) (fC (.int 1))) ah))) (ai eV 2 (aa (ac 0) (aa (f2 ixD (ac 1) (fC (.int 3))) ah)))))))
def bN:List Dv→Option (Rs Dv):=bt 2 cM
def T54:ci:=("_law_near",4,["_law_table_here","_law_ask_here"],bN) :: T53
theorem ou (A:Af K "_law_near" (top 123) f) (t:HA P w K mg base T53):HA P w K mg base T54 :=
 av (aH XI Gn ["_law_table_here","_law_ask_here"] ["_law_table_here","_law_ask_here"] cM A (by walk_at "d") (by delta cM; walk_at "b")) t
def gC:FnS:=(ay (vOr (f2 eqX (ac 0) (ac 1)) (fM (jS Np) (ac 0) (aa (f2 cZ (fC (.str ".")) (ac 1)) ah))))
def aD:List Dv→Option (Rs Dv):=bt 2 gC
def T55:ci:=("_law_within",1,["_law_one","_law_other"],aD) :: T54
theorem li (A:Af K "_law_within" (top 121) f) (t:HA P w K mg base T54):HA P w K mg base T55 :=
 av (aH XI Gn ["_law_one","_law_other"] ["_law_one","_law_other"] gC A (by walk_at "d") (by delta gC; walk_at "b")) t
def gk:FnS:=(ar (oW [3,4,5,6] (cR (ac 2) cm (bP (fC (.int 4))))) (ar (oW [7,8,9,10] (cR (ac 2) (bP (fC (.int 4))) cm)) (ar (aL 11 (vOr (f2 isN (ac 5) (fC .non)) (cC (f2 eqX (ac 5) (f2 ixD (ac 1) (fC (.int 1)))) (f2 eqX (ai bE 2 (aa (ac 0) (aa (ac 5) ah))) (ac 5))))) (ar (aM (bS (fB (f2 cP (ac 5) (fC .non))) (br (fB (ai aD 2 (aa (f2 ixD (ac 1) (fC (.int 1))) (aa (ac 5) ah)))))) (ay (fC (.str "foreign"))) (fun ρ=>a_ (.nx ρ))) (ar (aM (bS (fB (f2 cP (ac 5) (fC .non))) (bS (fB (f2 neX (ac 5) (f2 ixD (ac 1) (fC (.int 1))))) (fB (f2 eqX (ai bE 2 (aa (ac 0) (aa (ac 5) ah))) (ac 5))))) (ay (fC (.str "open"))) (fun ρ=>a_ (.nx ρ))) (ar (aM (bS (fB (ac 9)) (br (fB (f2 ixD (ac 1) (fC (.int 0)))))) (ay (fC (.str "unsafe"))) (fun ρ=>a_ (.nx ρ))) (ar (aM (bS (fB (fM (jS A_) (ac 3) (aa (fC (.str "safe-")) ah))) (br (fB (ac 9)))) (ay (fC (.str "marked"))) (fun ρ=>a_ (.nx ρ))) (ar (aM (bS (fB (fM (jS A_) (ac 3) (aa (fC (.str "own-")) ah))) (br (bS (fB (ac 9)) (bS (fB (ac 11)) (fB (f2 eqX (ac 6) (fC (.str "/")))))))) (ay (fC (.str "marked"))) (fun ρ=>a_ (.nx ρ))) (ay (fIf (bS (fB (f2 eqX (ac 10) (fC (.str "near")))) (br (fB (ai bN 2 (aa (ac 0) (aa (ac 1) ah)))))) (fC (.str "far")) (fC .non)))))))))))
def dF:List Dv→Option (Rs Dv):=bt 12 gk
def T56:ci:=("_law_why",5,["_law_table_here","_law_ask_here","_law_given_here"],dF) :: T55
theorem pY (A:Af K "_law_why" (top 126) f) (t:HA P w K mg base T55):HA P w K mg base T56 :=
 av (aH XI Gn ["_law_table_here","_law_ask_here","_law_given_here","_law_name_here","_law_worth","_law_house","_law_path_here","_law_until","_law_lasts","_law_safe","_law_reach","_law_exact"] ["_law_table_here","_law_ask_here","_law_given_here"] gk A (by walk_at "d") (by delta gk; walk_at "b")) t
def bj:FnS:=(ar (aL 8 (vOr (f2 isN (f2 ixD (ac 7) (fC (.int 5))) (fC .non)) (f2 gtD (f2 ixD (ac 7) (fC (.int 5))) (ac 4)))) (ar (aL 9 (vOr (ai aD 2 (aa (f2 ixD (ac 7) (fC (.int 2))) (aa (f2 ixD (ac 6) (fC (.int 2))) ah))) (ai aD 2 (aa (f2 ixD (ac 6) (fC (.int 2))) (aa (f2 ixD (ac 7) (fC (.int 2))) ah))))) (aM (bS (fB (ac 8)) (bS (fB (f2 ixD (ac 7) (fC (.int 6)))) (bS (fB (f2 eqX (f2 ixD (ac 7) (fC (.int 0))) (f2 ixD (ac 6) (fC (.int 0))))) (bS (fB (ac 9)) (br (fB (f2 ixD (ac 2) (fC (.int 0))))))))) (aM (fB (ai cL 2 (aa (f2 ixD (ac 6) (fC (.int 4))) (aa (f2 ixD (ac 7) (fC (.int 4))) ah)))) (ay (fC (.str "shadowed"))) (fun ρ=>a_ (.nx ρ))) (fun ρ=>a_ (.nx ρ)))))
def cj:FnS:=(ar (aL 5 (ai dF 3 (aa (ac 0) (aa (ac 2) (aa (ac 3) ah))))) (ar (aM (fB (f2 cP (ac 5) (fC .non))) (ay (ac 5)) (fun ρ=>a_ (.nx ρ))) (ar (aL 6 (ai bM 4 (aa (ac 0) (aa (ac 2) (aa (ac 3) (aa (ac 4) ah)))))) (ar (wf 7 [7,8,9] (ef (ac 1)) bj) (ay (fIf (bS (fB (f2 cP (f2 ixD (ac 6) (fC (.int 5))) (fC .non))) (fB (f2 leX (f2 ixD (ac 6) (fC (.int 5))) (ac 4)))) (fC (.str "gone")) (fC (.str "kept"))))))))
def aV:List Dv→Option (Rs Dv):=bt 10 cj
def T57:ci:=("_law_verdict",6,["_law_table_here","_law_jar_here","_law_ask_here","_law_given_here","_law_now"],aV) :: T56
theorem kN (A:Af K "_law_verdict" (top 130) f) (t:HA P w K mg base T56):HA P w K mg base T57 :=
 av (aH XI Gn ["_law_table_here","_law_jar_here","_law_ask_here","_law_given_here","_law_now","_law_word","_law_note","_law_old","_law_lives","_law_near_here"] ["_law_table_here","_law_jar_here","_law_ask_here","_law_given_here","_law_now"] cj A (by walk_at "d") (by delta cj bj; walk_at "b")) t
def fK:FnS:=(ar (aL 3 (bp (aa (fC (.str "n")) (aa (fC (.str "1")) (aa (ac 1) (aa (fC (.bl d_)) (aa (fC (.str "/")) (aa (fC .non) (aa (fC (.bl c_)) (aa (fC (.str "any")) (aa (fC (.int 0)) (aa (fC (.int 0)) ah)))))))))))) (ar (aL 4 (bp (aa (fC (.bl d_)) (aa (ac 2) (aa (fC (.str "/")) (aa (fC .non) ah)))))) (ar (aL 5 (bp (aa (fC (.str "n")) (aa (fC (.str "2")) (aa (fC .non) (aa (fC .non) (aa (fC .non) (aa (fC .non) (aa (fC (.bl d_)) (aa (fC (.str "any")) ah)))))))))) (aM (fB (f2 neX (ai am 6 (aa (fC (.int 0)) (aa (ac 0) (aa (bp (aa (ac 3) ah)) (aa (ac 4) (aa (fC (.str "n=2")) (aa (fC (.int 1)) ah))))))) (ai aV 5 (aa (ac 0) (aa (bp (aa (ac 3) ah)) (aa (ac 4) (aa (ac 5) (aa (fC (.int 1)) ah)))))))) (ay (fC (.bl d_))) (fun ρ=>a_ (.nx ρ))))))
def eF:FnS:=(ar (pE (gP 1 2) [1,2,3,4,5] (ef (bp (aa (bp (aa (fC (.str "q.p.q")) (aa (fC (.str "p.q")) ah))) (aa (bp (aa (fC (.str "p.q")) (aa (fC (.str "q.p.q")) ah))) (aa (bp (aa (fC (.str "p.q")) (aa (fC (.str "r.p.q")) ah))) (aa (bp (aa (fC (.str "q.p.q")) (aa (fC (.str "r.p.q")) ah))) ah)))))) fK) (ay (fC (.bl c_))))
def aK:List Dv→Option (Rs Dv):=bt 6 eF
def T58:ci:=("_law_near_ones",13,["_law_table_here"],aK) :: T57
theorem jK (A:Af K "_law_near_ones" (top 135) f) (t:HA P w K mg base T57):HA P w K mg base T58 :=
 av (aH XI Gn ["_law_table_here","_law_house","_law_other","_law_safe","_law_ask_here","_law_given_here"] ["_law_table_here"] eF A (by walk_at "d") (by delta eF fK; walk_at "b")) t
def dc:FnS:=(ar (aL 5 (f2 ixD (bz (aa (f1 wg (fC (.int 1))) (aa (fC (.int 10000)) (aa (fC .non) (aa (fC (.bl c_)) ah))))) (ai ag 3 (aa (ac 0) (aa (fC (.int 131)) (aa (fC (.int 4)) ah)))))) (ar (aM (fB (f2 neX (cq [("_law_table_here",1),("_law_jar_here",2),("_law_ask_here",3),("_law_text_here",4),("_law_odd",5)] (fun ρ=>bnd ((aa (fC (.int 2)) ah) ρ) jY) ck (ai am 6 (aa (ac 0) (aa (ac 1) (aa (ac 2) (aa (ac 3) (aa (ac 4) (aa (ac 5) ah)))))))) (f2 oY (bz (aa (bp (aa (fC (.str "refused")) (aa (fC (.int 6)) ah))) ah)) (fC (.int 2))))) (ay (fC (.bl d_))) (fun ρ=>a_ (.nx ρ))) (ar (aL 6 (f2 ixD (bz (aa (fC (.str "")) (aa (fC (.str "n")) (aa (fC .non) (aa (fC (.str "n=1=2")) ah))))) (ai ag 3 (aa (ac 0) (aa (fC (.int 132)) (aa (fC (.int 4)) ah)))))) (ar (aM (fB (f2 neX (cq [("_law_table_here",1),("_law_jar_here",2),("_law_ask_here",3),("_law_odd",5),("_law_bad",6)] (fun ρ=>bnd ((aa (fC (.int 2)) ah) ρ) jY) ck (ai am 6 (aa (ac 0) (aa (ac 1) (aa (ac 2) (aa (ac 3) (aa (ac 5) (aa (ac 4) ah)))))))) (f2 oY (bz (aa (bp (aa (fC (.str "refused")) (aa (fC (.int 4)) ah))) ah)) (fC (.int 2))))) (ay (fC (.bl d_))) (fun ρ=>a_ (.nx ρ))) (ar (aM (fB (f2 neX (cq [("_law_table_here",1),("_law_jar_here",2),("_law_ask_here",3),("_law_odd",5),("_law_bad",6)] (fun ρ=>bnd ((aa (fC (.int 2)) ah) ρ) jY) ck (ai am 6 (aa (ac 0) (aa (ac 1) (aa (ac 2) (aa (cR (ac 3) cm (bP (fC (.int 3)))) (aa (ac 5) (aa (ac 4) ah)))))))) (f2 oY (bz (aa (bp (aa (fC (.str "refused")) (aa (fC (.int 3)) ah))) ah)) (fC (.int 2))))) (ay (fC (.bl d_))) (fun ρ=>a_ (.nx ρ))) (ar (aM (fB (f2 neX (cq [("_law_table_here",1),("_law_jar_here",2),("_law_ask_here",3),("_law_odd",5),("_law_bad",6)] (fun ρ=>bnd ((aa (fC (.int 2)) ah) ρ) jY) ck (ai am 6 (aa (ac 0) (aa (ac 1) (aa (fB1 rO (aa (ac 2) ah)) (aa (cR (ac 3) cm (bP (fC (.int 3)))) (aa (ac 5) (aa (ac 4) ah)))))))) (f2 oY (bz (aa (bp (aa (fC (.str "refused")) (aa (fC (.int 5)) ah))) ah)) (fC (.int 2))))) (ay (fC (.bl d_))) (fun ρ=>a_ (.nx ρ))) (ay (f2 eqX (cq [("_law_table_here",1),("_law_jar_here",2),("_law_ask_here",3),("_law_odd",5),("_law_bad",6)] (fun ρ=>bnd ((aa (fC (.int 2)) ah) ρ) jY) ck (ai am 6 (aa (ac 0) (aa (fB1 rO (aa (ac 1) ah)) (aa (fB1 rO (aa (ac 2) ah)) (aa (ac 3) (aa (ac 5) (aa (ac 4) ah)))))))) (f2 oY (bz (aa (bp (aa (fC (.str "refused")) (aa (fC (.int 1)) ah))) ah)) (fC (.int 2)))))))))))
def fR:List Dv→Option (Rs Dv):=bt 7 dc
def T59:ci:=("_law_refuses",13,["_law_script","_law_table_here","_law_jar_here","_law_ask_here","_law_text_here"],fR) :: T58
theorem kO (A:Af K "_law_refuses" (top 136) f) (t:HA P w K mg base T58):HA P w K mg base T59 :=
 av (aH XI Gn ["_law_script","_law_table_here","_law_jar_here","_law_ask_here","_law_text_here","_law_odd","_law_bad"] ["_law_script","_law_table_here","_law_jar_here","_law_ask_here","_law_text_here"] dc A (by walk_at "d") (by delta dc; walk_at "b")) t
def h8:FnS:=(ar (aL 2 (bz (aa (fC (.str "!w.ck")) (aa (fC (.str "*.ck")) (aa (fC (.str "*.uk")) (aa (fC (.str "a.b")) (aa (fC (.str "b")) (aa (fC (.str "c.uk")) (aa (fC (.str "q")) (aa (fC (.str "uk")) ah)))))))))) (ay (fB1 cD (aa (bB 2 [("_law_script",0),("_law_at",1)] (fun ρ=>bnd ((aa (ac 2) ah) ρ) kj) (gP 0 1) (a_ (fB (f2 eqX (ai ag 3 (aa (ac 2) (aa (f2 cZ (ac 3) (ac 0)) (aa (fC (.int 2)) ah)))) (fC (.int 0))))) (ac 1)) ah))))
def eD:List Dv→Option (Rs Dv):=bt 3 h8
def T60:ci:=("_law_table",3,["_law_script","_law_at"],eD) :: T59
theorem mC (A:Af K "_law_table" (top 115) f) (t:HA P w K mg base T59):HA P w K mg base T60 :=
 av (aH XI Gn ["_law_script","_law_at","_law_some"] ["_law_script","_law_at"] h8 A (by walk_at "d") (by delta h8; walk_at "b")) t
def eE:FnS:=(ar (aL 5 (ai aV 5 (aa (ac 0) (aa (ac 1) (aa (ac 2) (aa (ac 3) (aa (ac 4) ah))))))) (rY 6 (bB 1 [("_law_now",4)] (ef (ac 1)) (gN 0) (a_ (bOr (fB (f2 isN (f2 ixD (ac 0) (fC (.int 5))) (fC .non))) (fB (f2 gtD (f2 ixD (ac 0) (fC (.int 5))) (ac 1))))) (ac 0)) (cX (oIf (fB (f2 gR (ac 5) (bp (aa (fC (.str "kept")) (aa (fC (.str "gone")) ah))))) (kq 6 (fB1 cD (aa (ac 6) ah))) oX) (cX (et 7 (ai bM 4 (aa (ac 0) (aa (ac 2) (aa (ac 3) (aa (ac 4) ah)))))) (cX (et 8 (bp (aa (f2 ixD (ac 7) (fC (.int 0))) (aa (f2 ixD (ac 7) (fC (.int 2))) (aa (f2 ixD (ac 7) (fC (.int 4))) ah))))) (cX (nR 6 9 (bB 2 [("_law_own_here",8)] (fun ρ=>bnd ((aa (ac 6) ah) ρ) kj) (gP 0 1) (a_ (fB (f2 eqX (bp (aa (f2 ixD (ac 1) (fC (.int 0))) (aa (f2 ixD (ac 1) (fC (.int 2))) (aa (f2 ixD (ac 1) (fC (.int 4))) ah)))) (ac 2)))) (ac 0))) (cX (oIf (fB (f2 eqX (ac 5) (fC (.str "gone")))) (kq 6 (fB1 cD (aa (bB 2 [("_law_places",9)] (fun ρ=>bnd ((aa (ac 6) ah) ρ) kj) (gP 0 1) (a_ (fB (f2 gR (ac 0) (ac 2)))) (ac 1)) ah))) oX) (cX (oIf (fB (f2 eqX (ac 9) (bz ah))) (kq 6 (fB1 cD (aa (f2 bZ (ac 6) (bz (aa (ac 7) ah))) ah))) oX) (cX (jA 6 (f2 ixD (ac 9) (fC (.int 0))) (f2 bZ (cR (ac 7) cm (bP (fC (.int 8)))) (bp (aa (f2 ixD (f2 ixD (ac 6) (f2 ixD (ac 9) (fC (.int 0)))) (fC (.int 8))) (aa (ac 4) ah))))) (kq 6 (fB1 cD (aa (ac 6) ah))))))))))))
def cO:List Dv→Option (Rs Dv):=bt 10 eE
def T61:ci:=("_law_taken",7,["_law_table_here","_law_jar_here","_law_ask_here","_law_given_here","_law_now"],cO) :: T60
theorem mD (A:Af K "_law_taken" (top 131) f) (t:HA P w K mg base T60):HA P w K mg base T61 :=
 av (aH XI Gn ["_law_table_here","_law_jar_here","_law_ask_here","_law_given_here","_law_now","_law_word","_law_rest","_law_note","_law_own_here","_law_places"] ["_law_table_here","_law_jar_here","_law_ask_here","_law_given_here","_law_now"] eE A (by walk_at "d") (by delta eE; walk_at "b")) t
def aN:FnS:=(aM (fB (f2 cP (ac 11) (fC .non))) (aL 9 (f2 bZ (f2 bZ (f2 bZ (f2 bZ (ac 9) (fC (.str "; "))) (ac 10)) (fC (.str " "))) (fB1 BQ (aa (ac 11) ah)))) (fun ρ=>a_ (.nx ρ)))
def fF:FnS:=(ar (oW [1,2,3,4] (cR (ac 0) cm (bP (fC (.int 4))))) (ar (oW [5,6,7,8] (cR (ac 0) (bP (fC (.int 4))) cm)) (ar (aL 9 (f2 bZ (f2 bZ (ac 1) (fC (.str "="))) (ac 2))) (ar (pE (gP 10 11) [11,10] (fun ρ=>bnd ((aa (bp (aa (fC (.str "for")) (aa (fC (.str "under")) (aa (fC (.str "until")) (aa (fC (.str "lasts")) ah))))) (aa (cR (ac 0) (bP (fC (.int 2))) (bP (fC (.int 6)))) ah)) ρ) BP) aN) (ay (f2 bZ (f2 bZ (ac 9) (fIf (fB (ac 7)) (fC (.str "; safe")) (fC (.str "")))) (fIf (fB (f2 eqX (ac 8) (fC (.str "near")))) (fC (.str "; near")) (fC (.str "")))))))))
def gD:List Dv→Option (Rs Dv):=bt 12 fF
def T62:ci:=("_law_text",1,["_law_given_here"],gD) :: T61
theorem ow (A:Af K "_law_text" (top 125) f) (t:HA P w K mg base T61):HA P w K mg base T62 :=
 av (aH XI Gn ["_law_given_here","_law_name_here","_law_worth","_law_house","_law_path_here","_law_until","_law_lasts","_law_safe","_law_reach","_law_text_here","_law_word","_law_thing"] ["_law_given_here"] fF A (by walk_at "d") (by delta fF aN; walk_at "b")) t
def pZ:FnE:=(ai eD 2 (aa (ac 0) (aa (fC (.int 0)) ah)))
def p4:FnE:=(ai ik 3 (aa (ac 0) (aa (fC (.int 10)) (aa (fC (.int 5)) ah))))
def p6:FnE:=(ai ij 2 (aa (ac 0) (aa (fC (.int 90)) ah)))
def mE:FnE:=(ai iI 5 (aa (ac 0) (aa (fC (.int 120)) (aa (ac 2) (aa (ac 3) (aa (ai ez 3 (aa (ac 0) (aa (fC (.int 100)) (aa (f2 ixD (ac 3) (fC (.int 1))) ah)))) ah))))))
def mF:FnE:=(fB1 Eg (aa (f2 bZ (cq [] (ef (ac 2)) ck (f2 ixD (ac 0) (fC (.int 9)))) (bz (aa (fC (.int 0)) ah))) ah))
def p7:FnE:=(f2 bZ (ac 5) (ai ag 3 (aa (ac 0) (aa (fC (.int 130)) (aa (fC (.int 40)) ah)))))
def p8:FnE:=(ai gD 1 (aa (ac 4) ah))
def mG:FnB:=(fB (f2 neX (ai am 6 (aa (fC (.int 0)) (aa (ac 1) (aa (ac 2) (aa (ac 3) (aa (ac 7) (aa (ac 6) ah))))))) (ai aV 5 (aa (ac 1) (aa (ac 2) (aa (ac 3) (aa (ac 4) (aa (ac 6) ah))))))))
def p9:FnB:=(fB (f2 neX (ai am 6 (aa (fC (.int 1)) (aa (ac 1) (aa (ac 2) (aa (ac 3) (aa (ac 7) (aa (ac 6) ah))))))) (ai cO 5 (aa (ac 1) (aa (ac 2) (aa (ac 3) (aa (ac 4) (aa (ac 6) ah))))))))
def mH:FnB:=(fB (f2 gtD (ac 5) (fC (.int 0))))
def kP:FnE:=(ai am 6 (aa (fC (.int 1)) (aa (ac 1) (aa (ac 2) (aa (ac 3) (aa (ac 7) (aa (f2 yD (ac 5) (fC (.int 1))) ah)))))))
def qa:FnB:=(fB (f2 neX (ac 8) (bp (aa (fC (.str "refused")) (aa (fC (.int 6)) ah)))))
def kQ:FnE:=(fB1 cD (aa (cq [] (fun ρ=>bnd ((aa (fC (.int 20)) ah) ρ) jY) ck (bp (aa (fC (.str "n")) (aa (fC (.str "")) (aa (fC (.str "a.b")) (aa (fC (.bl d_)) (aa (f2 bZ (fC (.str "/x")) (fB1 BN (aa (ac 0) ah))) (aa (fC .non) (aa (fC (.bl d_)) (aa (fC (.str "any")) (aa (fC (.int 1)) (aa (fC (.int 2)) ah)))))))))))) ah))
def kT:FnE:=(bp (aa (fC (.bl c_)) (aa (fC (.str "p.q")) (aa (fC (.str "/")) (aa (fC .non) ah)))))
def ji:FnE:=(bB 1 [("_law_table_here",1),("_law_full",9),("_law_more",10)] (ef (bp (aa (fC (.str "m=1")) (aa (fC (.str "m=1; lasts 0")) ah)))) (gN 0) ck (ai am 6 (aa (fC (.int 1)) (aa (ac 1) (aa (ac 2) (aa (ac 3) (aa (ac 0) (aa (fC (.int 9)) ah))))))))
def mI:FnB:=(bOr (fB (f2 neX (ac 11) (bz (aa (bp (aa (fC (.str "refused")) (aa (fC (.int 5)) ah))) (aa (ac 9) ah))))) (br (fB (ai aK 1 (aa (ac 1) ah)))))
def qb:FnE:=(ai fR 5 (aa (ac 0) (aa (ac 1) (aa (ac 2) (aa (ac 3) (aa (ac 7) ah))))))
def vk:FnS:=(ar (aL 1 pZ) (ar (aL 2 p4) (ar (aL 3 p6) (ar (oW [3,4] mE) (ar (aL 5 mF) (ar (aL 6 p7) (ar (aL 7 p8) (ar (aM mG (ay (fC (.bl d_))) (fun ρ=>a_ (.nx ρ))) (ar (aM p9 (ay (fC (.bl d_))) (fun ρ=>a_ (.nx ρ))) (ar (aM mH (ar (aL 8 kP) (aM qa (ay (fC (.bl d_))) (fun ρ=>a_ (.nx ρ)))) (fun ρ=>a_ (.nx ρ))) (ar (aL 9 kQ) (ar (aL 10 kT) (ar (aL 11 ji) (ar (aM mI (ay (fC (.bl d_))) (fun ρ=>a_ (.nx ρ))) (ay qb)))))))))))))))
def vm:List Dv→Option (Rs Dv):=bt 12 vk
theorem Fa {fd:LK} (A:Fun K "law" "law" (top 137) f fd) (t:HA P w K mg base T62):FnOk P w K mg base CX0 14 f fd ["_law_script"] (spF K vm 1) :=
 yB ["_law_script","_law_table_here","_law_jar_here","_law_ask_here","_law_given_here","_law_last","_law_now","_law_text_here","_law_early","_law_full","_law_more","_law_told_here"] ["_law_script"] vk (by kernel_rfl) (by kernel_rfl) A (Gy (by kernel_rfl)) (by delta vk pZ p4 p6 mE mF p7 p8 mG p9 mH kP qa kQ kT ji mI qb; walk_at "b")
end
theorem af {K:e_} {x:Str} {st:LY} (f:k_) (m:String:="law_notejar_k51_taken") (t:Nat:=839) (c:Nat:=Nat.pred f) (a:nsM K x=a_ (a_ (.ref f)):=by kernel_rfl) (l:K.lookup f=a_ ⟨v_ "function",ck,.func (M6 x x (jq st) (dG st) (aF st) .none .none .none (kS m t) ck (kR c) .none),#[]⟩:=by kernel_rfl) (cc:OJ K (kR c) x=c_:=by kernel_rfl) (k:LZ K (.ref f)=c_:=by kernel_rfl):Af K x st f:=⟨a,⟨_,Cq l cc k⟩,k⟩
theorem all_mk {l:PQ} {w:E_} {K:e_} {h:K5} {mg:Str→Option g_} {fa:k_} (X:K.In h) (G:h.Ns C_ mg) (hfa:mg "law"=a_ (.ref fa))
 {f1 f2 f3 f4 f5 f6 f7 f8 f9 f10 f11 f12 f13 f14 f15 f16 f17 f18 f19 f20 f21 f22 f23 f24 f25 f26 f27 f28 f29 f30 f31 f32 f33 f34 f35 f36 f37 f38 f39 f40 f41 f42 f43 f44 f45 f46 f47 f48 f49 f50 f51 f52 f53 f54 f55 f56 f57 f58 f59 f60 f61 f62 f63 f64 f65 f66 f67 f68 f69 f70 f71 f72 f73 f74 f75 f76 f77 f78 f79 f80 fl:k_}
 (A1:Af K "_law_cell" (top 112) f1)
 (A2:Af K "_law_drawn" (top 113) f2)
 (A3:Af K "_law_name" (top 114) f3)
 (A4:Af K "_law_path" (top 116) f4)
 (A5:Af K "_law_ask" (top 117) f5)
 (A6:Af K "_law_given" (top 124) f6)
 (A7:Af K "_law_jar" (top 129) f7)
 (A8:Af K "_law_like" (top 134) f8)
 (A9:Af K "_law_refused" (top 132) f9)
 (A10:Af K "need_no_more_than_a_jar_has" (top 102) f10)
 (A11:Af K "is_text_of" (top 10) f11)
 (A12:Af K "is_label" (top 19) f12)
 (A13:Af K "is_name" (top 20) f13)
 (A14:Af K "is_path" (top 33) f14)
 (A15:Af K "is_tuple_of" (top 12) f15)
 (A16:Af K "is_ask" (top 47) f16)
 (A17:Af K "need_ask" (top 48) f17)
 (A18:Af K "key" (top 94) f18)
 (A19:Af K "has_no_key_twice" (top 100) f19)
 (A20:Af K "is_by_made" (top 99) f20)
 (A21:Af K "is_whole_number" (top 11) f21)
 (A22:Af K "is_moment" (top 44) f22)
 (A23:Af K "is_moment_or_none" (top 45) f23)
 (A24:Af K "is_note_name" (top 65) f24)
 (A25:Af K "is_reach" (top 67) f25)
 (A26:Af K "is_worth" (top 66) f26)
 (A27:Af K "is_note" (top 89) f27)
 (A28:Af K "is_jar" (top 98) f28)
 (A29:Af K "need_jar" (top 101) f29)
 (A30:Af K "need_moment" (top 46) f30)
 (A31:Af K "is_rule" (top 21) f31)
 (A32:Af K "is_table" (top 22) f32)
 (A33:Af K "need_table" (top 23) f33)
 (A34:Af K "is_written_moment" (top 70) f34)
 (A35:Af K "what_is_told" (top 71) f35)
 (A36:Af K "read_given" (top 72) f36)
 (A37:Af K "read_what_is_given" (top 105) f37)
 (A38:Af K "end_for" (top 92) f38)
 (A39:Af K "house_for" (top 90) f39)
 (A40:Af K "behind_first_dot" (top 26) f40)
 (A41:Af K "ends_longest_first" (top 25) f41)
 (A42:Af K "is_told_open" (top 27) f42)
 (A43:Af K "find_open_end" (top 28) f43)
 (A44:Af K "is_open" (top 85) f44)
 (A45:Af K "is_exact" (top 86) f45)
 (A46:Af K "is_given" (top 68) f46)
 (A47:Af K "need_given" (top 69) f47)
 (A48:Af K "need_path" (top 34) f48)
 (A49:Af K "folder" (top 35) f49)
 (A50:Af K "path_for" (top 91) f50)
 (A51:Af K "find_own_end" (top 29) f51)
 (A52:Af K "comes_from_near" (top 49) f52)
 (A53:Af K "keeps_its_mark" (top 87) f53)
 (A54:Af K "lies_within" (top 24) f54)
 (A55:Af K "why_refused" (top 88) f55)
 (A56:Af K "made" (top 93) f56)
 (A57:Af K "put" (top 104) f57)
 (A58:Af K "has_ended" (top 95) f58)
 (A59:Af K "without_ended" (top 103) f59)
 (A60:Af K "lies_under" (top 36) f60)
 (A61:Af K "shadows" (top 108) f61)
 (A62:Af K "word_of" (top 107) f62)
 (A63:Af K "take_in" (top 110) f63)
 (A64:Af K "taken" (top 109) f64)
 (A65:Af K "verdict" (top 106) f65)
 (A66:Af K "_law_told" (top 133) f66)
 (A67:Af K "_law_ends" (top 118) f67)
 (A68:Af K "_law_open" (top 119) f68)
 (A69:Af K "_law_made" (top 127) f69)
 (A70:Af K "_law_under" (top 122) f70)
 (A71:Af K "_law_own" (top 120) f71)
 (A72:Af K "_law_near" (top 123) f72)
 (A73:Af K "_law_within" (top 121) f73)
 (A74:Af K "_law_why" (top 126) f74)
 (A75:Af K "_law_verdict" (top 130) f75)
 (A76:Af K "_law_near_ones" (top 135) f76)
 (A77:Af K "_law_refuses" (top 136) f77)
 (A78:Af K "_law_table" (top 115) f78)
 (A79:Af K "_law_taken" (top 131) f79)
 (A80:Af K "_law_text" (top 125) f80)
 (AL:Af K "law" (top 137) fl) (ma:CC.all (HR K)=c_) {C0 C1 C2 C3 C4 C5 C6 CJ:k_} (cb:caB K [0,1,2,3,4,5,6] [C0,C1,C2,C3,C4,C5,C6] CJ 7=c_) :
 ∃ fd:LK,(∀ (s:h_) (v:g_),O3 s fd ⟨[v],[]⟩ [("_law_script",v)])∧∀ base:K5,K.In base→base.Ns C_ mg→FnOk l.prog w K mg base CX0 14 fa fd ["_law_script"] (spF K vm 1):=by
 have e:=hfa.symm.trans (NB X G AL.a);cases e;have M:=Eo X G CC ma;obtain ⟨fd,Fn⟩:=AL.F;refine ⟨fd,?_,fun base _ _=>?_⟩
 · obtain ⟨oc,od,kV,doc,pm,an,cdv,ct,osl,rfl,lk,hcd⟩:=Fn.ex;exact fun s v=>.of_eq rfl
 obtain ⟨xa,ca⟩:=HY X G cb;have t0:HA l.prog w K mg base T0:=El;have te0:HAE l.prog w K mg base TE0:=AN;have tm0:HAM l.prog w K mg base TM0:=AO;have t1:=nW X G M xa ca A1 t0;have t2:=mo X G M xa ca A2 t1;have t3:=nX X G M xa ca A3 t2;have t4:=nY X G M xa ca A4 t3;have t5:=pK X G M xa ca A5 t4;have t6:=mq X G M xa ca A6 t5;have t7:=pL X G M xa ca A7 t6;have t8:=nZ X G M xa ca A8 t7;have tm1:=kz X G M xa ca A9 tm0;have te1:=eC X G M xa ca A10 te0;have t9:=mr X G M xa ca A11 t8;have t10:=pM X G M xa ca A12 t9;have t11:=rZ X G M xa ca A13 t10;have t12:=r8 X G M xa ca A14 t11;have t13:=lb X G M xa ca A15 t12;have t14:=vh X G M xa ca A16 t13;have te2:=pN X G M xa ca A17 t14 te1;have t15:=EY X G M xa ca A18 t14;have t16:=iJ X G M xa ca A19 t15;have t17:=ms X G M xa ca A20 t16;have t18:=ja X G M xa ca A21 t17;have t19:=oa X G M xa ca A22 t18;have t20:=iq X G M xa ca A23 t19;have t21:=kG X G M xa ca A24 t20;have t22:=pO X G M xa ca A25 t21;have t23:=pP X G M xa ca A26 t22;have t24:=r9 X G M xa ca A27 t23;have t25:=vi X G M xa ca A28 t24;have te3:=pQ X G M xa ca A29 t25 te2;have te4:=lc X G M xa ca A30 t25 te3;have t26:=se X G M xa ca A31 t25;have t27:=pR X G M xa ca A32 t26;have te5:=mv X G M xa ca A33 t27 te4;have t28:=iu X G M xa ca A34 t27;have t29:=kJ X G M xa ca A35 t28;have te6:=mw X G M xa ca A36 t29 te5;have te7:=gU X G M xa ca A37 te6;have t30:=sf X G M xa ca A38 t29;have t31:=oh X G M xa ca A39 t30;have t32:=iK X G M xa ca A40 t31;have t33:=gY X G M xa ca A41 t32;have t34:=kK X G M xa ca A42 t33;have t35:=jZ X G M xa ca A43 t34;have t36:=sg X G M xa ca A44 t35;have t37:=pS X G M xa ca A45 t36;have t38:=pU X G M xa ca A46 t37;have te8:=mx X G M xa ca A47 t38 te7;have te9:=oi X G M xa ca A48 t38 te8;have te10:=vj X G M xa ca A49 te9;have te11:=pV X G M xa ca A50 te10;have t39:=kM X G M xa ca A51 t38;have t40:=jh X G M xa ca A52 t39;have t41:=jI X G M xa ca A53 t40;have t42:=lg X G M xa ca A54 t41;have te12:=lh X G M xa ca A55 t42 te11;have te13:=Be X G M xa ca A56 t42 te12;have t43:=EZ X G M xa ca A57 t42;have t44:=oj X G M xa ca A58 t43;have t45:=j3 X G M xa ca A59 t44;have t46:=mz X G M xa ca A60 t45;have t47:=sh X G M xa ca A61 t46;have te14:=si X G M xa ca A62 t47 te13;have te15:=sj X G M xa ca A63 t47 te14;have te16:=xX X G M xa ca A64 te15;have te17:=sm X G M xa ca A65 te16;have t48:=om X G M xa ca A66 t47 te17 tm1;have t49:=oo X G M xa ca A67 t48;have t50:=oq X G M xa ca A68 t49;have t51:=ot X G M xa ca A69 t50;have t52:=mB X G M xa ca A70 t51;have t53:=pX X G M xa ca A71 t52;have t54:=ou X G M xa ca A72 t53;have t55:=li X G M xa ca A73 t54;have t56:=pY X G M xa ca A74 t55;have t57:=kN X G M xa ca A75 t56;have t58:=jK X G M xa ca A76 t57;have t59:=kO X G M xa ca A77 t58;have t60:=mC X G M xa ca A78 t59;have t61:=mD X G M xa ca A79 t60;have t62:=ow X G M xa ca A80 t61;exact Fa X G M xa ca Fn t62
end G
set_option maxHeartbeats 4000000
namespace FD
open PySem PySem.Spec
open PySem.StrLaws PySem.Builtin PySem.Builtin.Str
def J (S:List Nat):List Nat→List (List Nat)→List Nat
 | p,[]=>p
 | p,q :: r=>p ++ (S ++ J S q r)
theorem at_iff {x sep:Str} {k:Nat}:At x sep x.length k↔k + sep.length≤x.length∧(x.cps.toList.drop k).take sep.length=sep.cps.toList:=by
 unfold At;rw [subAt_eq];simp
theorem vn {x sep:Str} {c:Nat} {rest:List Nat} (hS:sep.cps.toList=c :: rest) {k:Nat} (h:At x sep x.length k):x.cps.toList[k]?=a_ c:=by
 obtain ⟨_,h2⟩:=at_iff.mp h;rw [hS] at h2;have h3:=congrArg (fun l=>l[0]?) h2;simp only [Pq] at h3;have hl:0 < sep.length:=by
  show 0 < sep.cps.size;rw [← Lf,hS];simp
 rw [Pd hl,OU] at h3;simpa using h3
theorem Bf {x sep:Str} {c:Nat} {rest:List Nat} (hS:sep.cps.toList=c :: rest) {p tl:List Nat} {a k:Nat} (hd:x.cps.toList.drop a=p ++ tl) (hp:c ∉ p) (h1:a≤k) (h2:k < a + p.length):¬ At x sep x.length k:=by
 intro h;have e:=vn hS h;have e2:(x.cps.toList.drop a)[k - a]?=a_ c:=by rw [OU,show a + (k - a)=k by omega]; exact e
 rw [hd,LS (by omega)] at e2;exact hp (LN e2)
theorem qY {x sep:Str} {c:Nat} {rest:List Nat} (hS:sep.cps.toList=c :: rest):∀ (parts:List (List Nat)) (p:List Nat) (a:Nat) (cuts:List Nat) (f:Nat),(∀ q∈p :: parts,c ∉ q)→x.cps.toList.drop a=J sep.cps.toList p parts→a≤x.length →
 ChainG x sep x.length a cuts f→(∀ k,f≤k→¬ At x sep x.length k)→(partsFrom x sep.length a cuts).map (fun s=>s.cps.toList)=p :: parts
 | [],p,a,cuts,f,hp,hd,ha,hG,hn=>by
  have hlen:x.cps.toList.length=x.length:=by simp [OL]
  have hno:∀ k,a≤k→¬ At x sep x.length k:=fun k hk h=>by
   have e:=vn hS h;have e2:(x.cps.toList.drop a)[k - a]?=a_ c:=by rw [OU,show a + (k - a)=k by omega]; exact e
   rw [hd] at e2;exact hp p o_ (LN e2)
  cases cuts with
  | nil =>
   show [(strSub x a x.length).cps.toList]=[p];rw [strSub_toList,hd];show [p.take (x.length - a)]=[p];have:p.length=x.length - a:=by
    have:=congrArg Oo hd;rw [Nr,hlen] at this;exact this.symm
   rw [PH (by omega)]
  | cons k ks=>exact absurd hG.2.1 (hno k hG.1)
 | q :: r,p,a,cuts,f,hp,hd,ha,hG,hn=>by
  have hlen:x.cps.toList.length=x.length:=by simp [OL]
  have hsl:sep.cps.toList.length=sep.length:=by simp [OL]
  have hd':x.cps.toList.drop a=p ++ (sep.cps.toList ++ J sep.cps.toList q r):=hd;have hdp:x.cps.toList.drop (a + p.length)=sep.cps.toList ++ J sep.cps.toList q r:=by
   rw [← List.drop_drop,hd',List.drop_left]
  have hl1:=congrArg Oo hdp;rw [Nr,hlen,LG,hsl] at hl1;have hs0:0 < sep.length:=by rw [← hsl,hS]; simp
  have hat:At x sep x.length (a + p.length):=at_iff.mpr ⟨by omega,by rw [hdp,← hsl,List.take_left]⟩;have hbe:∀ k,a≤k→k < a + p.length→¬ At x sep x.length k:=fun k h1 h2=>Bf hS hd' (hp p o_) h1 h2;cases cuts with
  | nil=>exact absurd hat (hn _ (by have:f=a:=hG; omega))
  | cons k ks =>
   obtain ⟨g1,g2,g3,g4⟩:=hG;have ek:k=a + p.length:=by
    rcases Rf k (a + p.length) with h | h | h
    · exact absurd g2 (hbe k g1 h)
    · exact h
    · exact absurd hat (g3 _ (by omega) h)
   subst ek;show (strSub x a (a + p.length)).cps.toList :: (partsFrom x sep.length (a + p.length + sep.length) ks).map (fun s=>s.cps.toList)=p :: q :: r;rw [qY hS r q (a + p.length + sep.length) ks f (fun z hz=>hp z (pi _ hz)) (by rw [← List.drop_drop,hdp,← hsl,List.drop_left]) (by omega) g4 hn,strSub_toList,hd',show a + p.length - a=p.length by omega,List.take_left]
theorem vo {a b:Str} (h:a.cps.toList=b.cps.toList):a=b:=by
 obtain ⟨⟨a⟩⟩:=a; obtain ⟨⟨b⟩⟩:=b;simp at h;rw [h]
theorem iO:∀ {l m:List Str},l.map (fun s=>s.cps.toList)=m.map (fun s=>s.cps.toList)→l=m
 | [],[],_=>rfl
 | a :: l,b :: m,h=>by
  simp only [Lg,List.cons.injEq] at h;rw [vo h.1,iO h.2]
 | [],_ :: _,h=>by simp at h
 | _ :: _,[],h=>by simp at h
theorem qc {x sep:Str} {c:Nat} {rest:List Nat} (hS:sep.cps.toList=c :: rest) (hk:Mv sep=1) {p:Str} {parts:List Str} (hp:∀ q∈p :: parts,c ∉ q.cps.toList) (hx:x.cps.toList=J sep.cps.toList p.cps.toList (parts.map fun s=>s.cps.toList)) :
 MH x sep=p :: parts:=by
 have hsl:sep.cps.toList.length=sep.length:=by simp [OL]
 have hlen:x.cps.toList.length=x.length:=by simp [OL]
 obtain ⟨f,hG,hn⟩:=occ_tight x sep (by rw [← hsl,hS]; simp);have main:=qY hS (parts.map fun s=>s.cps.toList) p.cps.toList 0 _ f (by
  intro q hq;rcases rl.mp hq with rfl | hq
  · exact hp p o_
  · obtain ⟨s,hs,rfl⟩:=Lp.mp hq;exact hp s (pi _ hs)) (by rw [Ql]; exact hx) (Mh _) hG hn
 have hx1:1≤Mv x:=by unfold Mv; split; omega; split <;> omega
 unfold MH;split
 · rename_i hc;rw [RT,decide_eq_true_eq,decide_eq_true_eq] at hc;rcases hc with h | h
   · cases parts with
     | nil=>rw [vo (a:=x) (b:=p) hx]
     | cons q r =>
      have:=congrArg Oo hx;rw [hlen] at this;simp only [Lg,J,LG,hsl] at this;omega
   · omega
 · split
   · rename_i he;have e0:occurrences x sep 0 x.length (x.length + 1)=[]:=List.isEmpty_iff.mp he;rw [e0] at main;have m2:[(strSub x 0 x.length).cps.toList]=p.cps.toList :: (parts.map fun s=>s.cps.toList):=main;rw [sub_whole] at m2;exact iO (l:=[x]) (m:=p :: parts) m2
   · rw [partsBetween_eq];exact iO (by rw [main]; rfl)
end FD
namespace FD
open PySem PySem.Spec PyProof.Rows L2
theorem qZ {elt:FnE} {cap:Ev} {α:Type} (en:α→Dv) (f:α→Dv):∀ {l:List α},(∀ a∈l,elt (cap.set 0 (a_ (en a)))=a_ (.ok (f a)))→tZ ck elt cap (l.map en)=a_ (l.map f)
 | [],_=>rfl
 | a :: l,h=>by
  have ih:=qZ (elt:=elt) (cap:=cap) en f (l:=l) fun b hb=>h b (pi _ hb);rw [Lg,Lg];unfold tZ;dsimp only;rw [h a o_,ih]
theorem oy {tst:FnB} {elt:FnE} {cap:Ev} {α:Type} (en:α→Dv) (p:α→Bool) (f:α→Dv):∀ {l:List α},(∀ a∈l,tst (cap.set 0 (a_ (en a)))=a_ (.ok (p a))∧elt (cap.set 0 (a_ (en a)))=a_ (.ok (f a)))→tZ (a_ tst) elt cap (l.map en)=a_ ((l.filter p).map f)
 | [],_=>rfl
 | a :: l,h=>by
  have ih:=oy (tst:=tst) (elt:=elt) (cap:=cap) en p f (l:=l) fun b hb=>h b (pi _ hb);obtain ⟨h1,h2⟩:=h a o_;rw [Lg];unfold tZ;dsimp only;rw [h1,ih];cases q:p a with
  | true=>dsimp only; rw [h2,NQ q]; rfl
  | false=>dsimp only; rw [NR (by rw [q]; decide)]
theorem q8 {elt:FnE} {cap:Ev} {α:Type} (en:α→Dv) (f:α→Dv):∀ {l:List α},(∀ a∈l,elt (cap.set 0 (a_ (en a)))=a_ (.ok (f a)))→iW (gN 0) ck elt cap (l.map en)=a_ (l.map f)
 | [],_=>rfl
 | a :: l,h=>by
  have ih:=q8 (elt:=elt) (cap:=cap) en f (l:=l) fun b hb=>h b (pi _ hb);rw [Lg,Lg];unfold iW;show (match elt (cap.set 0 (a_ (en a))) with | some (.ok y)=>_ | _=>_)=_
  rw [h a o_,ih]
theorem oz {tst:FnB} {elt:FnE} {cap:Ev} {α:Type} (en:α→Dv) (p:α→Bool) (f:α→Dv):∀ {l:List α},(∀ a∈l,tst (cap.set 0 (a_ (en a)))=a_ (.ok (p a))∧elt (cap.set 0 (a_ (en a)))=a_ (.ok (f a)))→iW (gN 0) (a_ tst) elt cap (l.map en)=a_ ((l.filter p).map f)
 | [],_=>rfl
 | a :: l,h=>by
  have ih:=oz (tst:=tst) (elt:=elt) (cap:=cap) en p f (l:=l) fun b hb=>h b (pi _ hb);obtain ⟨h1,h2⟩:=h a o_;rw [Lg];unfold iW;show (match tst (cap.set 0 (a_ (en a))) with | some (.ok c_)=>_ | some (.ok d_)=>_ | _=>_)=_
  rw [h1,ih];cases q:p a with
  | true=>dsimp only; rw [h2,NQ q]; rfl
  | false=>dsimp only; rw [NR (by rw [q]; decide)]
theorem dU {cs:List (Str×Nat)} {src:FnA} {elt:FnE} {ρ:Ev} {α:Type} (en f:α→Dv) {l:List α} (hs:src ρ=a_ (.ok (l.map en))) (hl:l.length≤100000) (h:∀ a∈l,elt ((yC cs ρ).set 0 (a_ (en a)))=a_ (.ok (f a))):cq cs src ck elt ρ=a_ (.ok (.lst (l.map f))):=by
 unfold cq;rw [hs];show (match tZ ck elt (yC cs ρ) (l.map en) with | some ys=>_ | none=>_)=_
 rw [qZ en f h];dsimp only;rw [if_pos ⟨by simpa using hl,by simpa using hl⟩]
theorem kU {cs:List (Str×Nat)} {src:FnA} {tst:FnB} {elt:FnE} {ρ:Ev} {α:Type} (en:α→Dv) (p:α→Bool) (f:α→Dv) {l:List α} (hs:src ρ=a_ (.ok (l.map en))) (hl:l.length≤100000) (h:∀ a∈l,tst ((yC cs ρ).set 0 (a_ (en a)))=a_ (.ok (p a))∧elt ((yC cs ρ).set 0 (a_ (en a)))=a_ (.ok (f a))) :
 cq cs src (a_ tst) elt ρ=a_ (.ok (.lst ((l.filter p).map f))):=by
 unfold cq;rw [hs];show (match tZ (a_ tst) elt (yC cs ρ) (l.map en) with | some ys=>_ | none=>_)=_
 rw [oy en p f h];dsimp only;have:=ME p l;rw [if_pos ⟨by simp; omega,by simpa using hl⟩]
theorem kW {cs:List (Str×Nat)} {src:FnA} {elt:FnE} {ρ:Ev} {α:Type} (en f:α→Dv) {l:List α} (hs:src ρ=a_ (.ok (l.map en))) (hl:l.length≤100000) (h:∀ a∈l,elt ((gq 1 cs ρ).set 0 (a_ (en a)))=a_ (.ok (f a))):bB 1 cs src (gN 0) ck elt ρ=a_ (.ok (.lst (l.map f))):=by
 unfold bB;rw [hs];show (match iW (gN 0) ck elt (gq 1 cs ρ) (l.map en) with | some ys=>_ | none=>_)=_
 rw [q8 en f h];dsimp only;rw [if_pos ⟨by simpa using hl,by simpa using hl⟩]
theorem lG {cs:List (Str×Nat)} {src:FnA} {tst:FnB} {elt:FnE} {ρ:Ev} {α:Type} (en:α→Dv) (p:α→Bool) (f:α→Dv) {l:List α} (hs:src ρ=a_ (.ok (l.map en))) (hl:l.length≤100000) (h:∀ a∈l,tst ((gq 1 cs ρ).set 0 (a_ (en a)))=a_ (.ok (p a))∧elt ((gq 1 cs ρ).set 0 (a_ (en a)))=a_ (.ok (f a))) :
 bB 1 cs src (gN 0) (a_ tst) elt ρ=a_ (.ok (.lst ((l.filter p).map f))):=by
 unfold bB;rw [hs];show (match iW (gN 0) (a_ tst) elt (gq 1 cs ρ) (l.map en) with | some ys=>_ | none=>_)=_
 rw [oz en p f h];dsimp only;have:=ME p l;rw [if_pos ⟨by simp; omega,by simpa using hl⟩]
theorem Bg {i j:Int} (h:-(2 ^ 62)≤i∧i < 2 ^ 62∧-(2 ^ 62)≤j∧j < 2 ^ 62):we [.int i,.int j]=a_ (.ok (rng i (j - i).toNat)):=by rw [we,if_pos h]
theorem Bh {j:Int} (h:-(2 ^ 62)≤j∧j < 2 ^ 62):jY [.int j]=a_ (.ok (rng 0 j.toNat)):=by rw [jY,if_pos h]
theorem Bi {n:Nat} (h:n≤1000):-(2 ^ 62)≤(1:Int)∧(1:Int) < 2 ^ 62∧-(2 ^ 62)≤(n:Int)∧(n:Int) < 2 ^ 62:=by omega
theorem Fb {n:Nat} (h:n≤1000):we [.int 1,.int (n:Int)]=a_ (.ok (rng 1 ((n:Int) - 1).toNat)):=Bg (Bi h)
theorem y4 {n:Nat} (h:n≤1000):jY [.int (n:Int)]=a_ (.ok (rng 0 n)):=by
 rw [Bh (by omega)]; rfl
theorem kX {α:Type} (p:α→Bool):∀ l:List α,fG (l.map fun a=>Dv.bl (p a))=a_ (l.map p)
 | []=>rfl
 | a :: l=>by
  show (match fG (l.map fun a=>Dv.bl (p a)) with | some bs=>a_ (p a :: bs) | none=>ck)=_
  rw [kX p l];rfl
mutual
def pln:Dv→Bool
 | .exn _=>d_
 | .tup ds=>plns ds
 | .lst ds=>plns ds
 | _=>c_
def plns:List Dv→Bool
 | []=>c_
 | d :: ds=>pln d && plns ds
end
mutual
theorem q9:∀ d:Dv,pln d=c_→Ll (de d) (de d)=c_
 | .non,_=>by simp [de,Ll]
 | .bl b,_=>by simp [de,Ll]
 | .int b,_=>by simp [de,Ll]
 | .str b,_=>by simp [de,Ll]
 | .tup ds,h=>by simp only [de,Ll]; exact eqvs_refl ds (by simpa [pln] using h)
 | .lst ds,h=>by simp only [de,Ll]; exact eqvs_refl ds (by simpa [pln] using h)
 | .scr ns,_=>by
  simp only [de,Ll]
  induction ns with
  | nil=>simp [Mn]
  | cons n ns ih=>simp [Mn,Ll]; exact ih rfl
 | .exn _,h=>by simp [pln] at h
theorem eqvs_refl:∀ ds:List Dv,plns ds=c_→Mn (toPys ds) (toPys ds)=c_
 | [],_=>by simp [toPys,Mn]
 | d :: ds,h=>by
  have h':pln d=c_∧plns ds=c_:=by simpa [plns] using h
  simp only [toPys,Mn,n_];exact ⟨q9 d h'.1,eqvs_refl ds h'.2⟩
end
theorem Bj {d:Dv} (h1:okP d=c_) (h2:pln d=c_):neX d d=a_ (.ok (.bl d_)):=by
 unfold neX;split
 · rename_i b hb;have:b=c_:=by
    cases d <;> simp [eqS] at hb
    · exact hb
    · exact hb
    · exact hb
    · rw [← hb]; unfold seq; simp
   rw [this]; rfl
 · rw [h1,q9 d h2]; rfl
structure It1 (k:Nat) (d:Dv):Prop where
 c:Lh (de d)=c_
 dp:(de d).depth≤k
 p:pln d=c_
theorem Bk {k:Nat}:∀ {ds:List Dv},(∀ d∈ds,It1 k d)→LX (toPys ds)=c_∧MI (toPys ds)≤k∧plns ds=c_
 | [],_=>by simp [toPys,LX,MI,plns]
 | d :: ds,h=>by
  obtain ⟨h1,h2,h3⟩:=Bk (ds:=ds) fun d' hd=>h d' (pi _ hd);have h0:=h d o_;simp only [toPys,LX,MI,plns,n_];exact ⟨⟨h0.c,h1⟩,by have:=h0.dp; omega,h0.p,h3⟩
theorem vp {k:Nat} {ds:List Dv} (h:∀ d∈ds,It1 k d):It1 (k + 1) (.tup ds):=by
 obtain ⟨h1,h2,h3⟩:=Bk h;exact ⟨by simpa [de,Lh] using h1,by simp [de,NX]; exact h2,by simpa [pln] using h3⟩
theorem vq {k:Nat} {ds:List Dv} (h:∀ d∈ds,It1 k d):It1 (k + 1) (.lst ds):=by
 obtain ⟨h1,h2,h3⟩:=Bk h;exact ⟨by simpa [de,Lh] using h1,by simp [de,NX]; exact h2,by simpa [pln] using h3⟩
theorem It1.okP {k:Nat} {d:Dv} (h:It1 k d) (hk:k≤64):okP d=c_:=by
 unfold FD.okP SeqAt.shaped;rw [h.c];have:=h.dp;simp;omega
theorem It1.le {k m:Nat} {d:Dv} (h:It1 k d) (hk:k≤m):It1 m d:=⟨h.c,K0 h.dp hk,h.p⟩
theorem jW {x:Str} (h:Lh (.str x)=c_):It1 0 (.str x):=⟨h,by simp [de,NX],rfl⟩
theorem oA {i:Int}:It1 0 (.int i):=⟨rfl,by simp [de,NX],rfl⟩
theorem Fc {i:Bool}:It1 0 (.bl i):=⟨rfl,by simp [de,NX],rfl⟩
theorem y6:It1 0 .non:=⟨rfl,by simp [de,NX],rfl⟩
end FD
namespace G
open PySem PySem.Spec PyProof.Rows L2 FD
theorem mJ {n:Nat} {B:FnS} {ds:List Dv} {d:Dv} (h:B (ds.map a_ ++ u_ (n - ds.length) ck)=a_ (.rt d)):fT n B ds=a_ (.ok d):=by unfold fT; rw [h]
theorem y8 {n:Nat} {B:FnS} {ds:List Dv} {c:Nat} (h:B (ds.map a_ ++ u_ (n - ds.length) ck)=a_ (.exc c)):fT n B ds=a_ (.exc c):=by unfold fT; rw [h]
theorem cE (F:List Dv→Option (Rs Dv)) {n:Nat} {g:FnA} {ρ:Ev} {ds:List Dv} {r:Option (Rs Dv)} (h:g ρ=a_ (.ok ds)) (hl:ds.length=n) (hF:F ds=r):ao F n g ρ=r:=by
 unfold ao;rw [h,← hF];exact if_pos hl
theorem Kg {v:FnE} {ρ:Ev} {c:Nat} (h:v ρ=a_ (.exc c)):bi v ρ=a_ (.exc c):=by unfold bi; rw [h]; rfl
theorem y9 {a b:FnS} {ρ:Ev} {c:Nat} (h:a ρ=a_ (.exc c)):ar a b ρ=a_ (.exc c):=by unfold ar; rw [h]; rfl
theorem Il {c:FnB} {f:FnS} {g:FnS} {ρ:Ev} {k:Nat} (h:c ρ=a_ (.ok c_)) (hf:f ρ=a_ (.exc k)):aM c f g ρ=a_ (.exc k):=by rw [pI h,hf]
theorem Bl (ns:List Int) (hl:ns.length≤63) (k:Int):∃ c,dj [.scr ns,.int k]=a_ (.ok (.int c)):=by
 cases ns with
 | nil=>exact ⟨7 * k,by kernel_rfl⟩
 | cons n r =>
  have h0:0 < (n :: r).length:=by simp
  have h1:(0:Int) < ((n :: r).length:Int):=by omega
  have h2:((n :: r).length:Int) < 1073741824:=by omega
  have h3:0≤k % ((n :: r).length:Int):=MJ _ (by omega);have h4:k % ((n :: r).length:Int) < ((n :: r).length:Int):=L6 _ h1;have h5:(k % ((n :: r).length:Int)).toNat < (n :: r).length:=by omega
  refine ⟨(n :: r)[(k % ((n :: r).length:Int)).toNat] + 6553 * (k / ((n :: r).length:Int)),?_⟩;have hat:atD (n :: r) (k % ((n :: r).length:Int))=a_ (n :: r)[(k % ((n :: r).length:Int)).toNat]:=by
   unfold atD;rw [if_pos h3,Lb h5]
  have hm:iQ (.int k) (.int ((n :: r).length:Int))=a_ (.ok (.int (k % ((n :: r).length:Int)))):=by
   show (if 0 < ((n :: r).length:Int) then _ else _)=_;rw [if_pos h1]
  have hd:iU (.int k) (.int ((n :: r).length:Int))=a_ (.ok (.int (k / ((n :: r).length:Int)))):=by
   show (if 0 < ((n :: r).length:Int)∧((n :: r).length:Int) < 1073741824 then _ else _)=_;rw [if_pos ⟨h1,h2⟩]
  have hi:ixD (.scr (n :: r)) (.int (k % ((n :: r).length:Int)))=a_ (.ok (.int (n :: r)[(k % ((n :: r).length:Int)).toNat])):=by
   show (match atD (n :: r) (k % ((n :: r).length:Int)) with | some d=>_ | none=>_)=_
   rw [hat]
  show (match fg [a_ (.scr (n :: r)),a_ (.int k)] with | some (.nx _)=>_ | some (.rt d)=>_ | _=>_)=_
  have e:fg [a_ (.scr (n :: r)),a_ (.int k)]=bO (bnd (bnd (iQ (.int k) (.int ((n :: r).length:Int))) fun i=>ixD (.scr (n :: r)) i) fun x=>bnd (bnd (iU (.int k) (.int ((n :: r).length:Int))) fun q=>jR (.int 6553) q) fun y=>cZ x y) fun d=>a_ (.rt d):=by kernel_rfl
  rw [e,hm,hd];show (match bO (bnd (ixD (.scr (n :: r)) (.int (k % ((n :: r).length:Int)))) fun x=>_) _ with | some (.nx _)=>_ | some (.rt d)=>_ | _=>_)=_
  rw [hi]
  kernel_rfl
def dr1 (c k:Int):Int:=(c % 2147483563 * 69069 + 104723 * (k + 1)) % 2147483563
def dr2 (c:Int):Int:=(c * c + c / 3) % 2147483399
def dr3 (c m:Int):Int:=(c * c + c / 7) % 2147483647 / 11 % m
theorem oE {i j:Int} (h:(-18446744073709551616 < i∧i < 18446744073709551616)∨(-18446744073709551616 < j∧j < 18446744073709551616)):jR (.int i) (.int j)=a_ (.ok (.int (i * j))):=by
 show (if _ then _ else _)=_;rw [if_pos h]
theorem oF {i j:Int} (h:0 < j):iQ (.int i) (.int j)=a_ (.ok (.int (i % j))):=by
 show (if _ then _ else _)=_;rw [if_pos h]
theorem aQ (ns:List Int) (hl:ns.length≤63) (k m:Int) (hm:0 < m):∃ d:Int,0≤d∧d < m∧ag [.scr ns,.int k,.int m]=a_ (.ok (.int d)):=by
 obtain ⟨c,hc⟩:=Bl ns hl k;refine ⟨dr3 (dr2 (dr1 c k)) m,MJ _ (by omega),L6 _ hm,?_⟩;have b1:0≤dr1 c k∧dr1 c k < 2147483563:=⟨MJ _ (by omega),L6 _ (by omega)⟩;have b2:0≤dr2 (dr1 c k)∧dr2 (dr1 c k) < 2147483399:=⟨MJ _ (by omega),L6 _ (by omega)⟩;have b0:0≤c % 2147483563∧c % 2147483563 < 2147483563:=⟨MJ _ (by omega),L6 _ (by omega)⟩;show bt 4 dz [.scr ns,.int k,.int m]=_;have s1:(ai dj 2 (aa (ac 0) (aa (ac 1) ah))) [a_ (.scr ns),a_ (.int k),a_ (.int m),ck]=a_ (.ok (.int c)):=by
  show (match dj [.scr ns,.int k] with | some (.ok d)=>(a_ (.ok d):Option (Rs Dv)) | _=>ck)=_
  rw [hc]
 have e1:(aL 3 (f2 iQ (f2 cZ (f2 jR (f2 iQ (ai dj 2 (aa (ac 0) (aa (ac 1) ah))) (fC (.int 2147483563))) (fC (.int 69069))) (f2 jR (fC (.int 104723)) (f2 cZ (ac 1) (fC (.int 1))))) (fC (.int 2147483563)))) [a_ (.scr ns),a_ (.int k),a_ (.int m),ck]=a_ (.nx [a_ (.scr ns),a_ (.int k),a_ (.int m),a_ (.int (dr1 c k))]):=by
  show bO (bnd (bnd (bnd (bnd ((ai dj 2 (aa (ac 0) (aa (ac 1) ah))) [a_ (.scr ns),a_ (.int k),a_ (.int m),ck]) fun x=>iQ x (.int 2147483563)) fun x=>jR x (.int 69069)) fun x=>bnd (jR (.int 104723) (.int (k + 1))) fun y=>cZ x y) fun x=>iQ x (.int 2147483563)) (fun d=>a_ (.nx [a_ (.scr ns),a_ (.int k),a_ (.int m),a_ d]))=_;rw [s1];show bO (bnd (bnd (bnd (iQ (.int c) (.int 2147483563)) fun x=>jR x (.int 69069)) fun x=>bnd (jR (.int 104723) (.int (k + 1))) fun y=>cZ x y) fun x=>iQ x (.int 2147483563)) _=_;rw [oF (by omega),oE (i:=104723) (.inl (by omega))];show bO (bnd (bnd (jR (.int (c % 2147483563)) (.int 69069)) fun x=>cZ x (.int (104723 * (k + 1)))) fun x=>iQ x (.int 2147483563)) _=_;rw [oE (.inl (by omega))];show bO (iQ (.int (c % 2147483563 * 69069 + 104723 * (k + 1))) (.int 2147483563)) _=_;rw [oF (by omega)];rfl
 generalize hd1:dr1 c k=d1 at *;have e2:(aL 3 (f2 iQ (f2 cZ (f2 jR (ac 3) (ac 3)) (f2 iU (ac 3) (fC (.int 3)))) (fC (.int 2147483399)))) [a_ (.scr ns),a_ (.int k),a_ (.int m),a_ (.int d1)]=a_ (.nx [a_ (.scr ns),a_ (.int k),a_ (.int m),a_ (.int (dr2 d1))]):=by
  show bO (bnd (bnd (jR (.int d1) (.int d1)) fun x=>cZ x (.int (d1 / 3))) fun x=>iQ x (.int 2147483399)) (fun d=>a_ (.nx [a_ (.scr ns),a_ (.int k),a_ (.int m),a_ d]))=_;rw [oE (.inl (by omega))];show bO (iQ (.int (d1 * d1 + d1 / 3)) (.int 2147483399)) _=_;rw [oF (by omega)];rfl
 generalize hd2:dr2 d1=d2 at *;have e3:(ay (f2 iQ (f2 iU (f2 iQ (f2 cZ (f2 jR (ac 3) (ac 3)) (f2 iU (ac 3) (fC (.int 7)))) (fC (.int 2147483647))) (fC (.int 11))) (ac 2))) [a_ (.scr ns),a_ (.int k),a_ (.int m),a_ (.int d2)]=a_ (.rt (.int (dr3 d2 m))):=by
  show bO (bnd (bnd (bnd (bnd (jR (.int d2) (.int d2)) fun x=>cZ x (.int (d2 / 7))) fun x=>iQ x (.int 2147483647)) fun x=>iU x (.int 11)) fun x=>iQ x (.int m)) (fun d=>a_ (.rt d))=_;rw [oE (.inl (by omega))];show bO (bnd (bnd (iQ (.int (d2 * d2 + d2 / 7)) (.int 2147483647)) fun x=>iU x (.int 11)) fun x=>iQ x (.int m)) _=_;rw [oF (by omega)];show bO (iQ (.int ((d2 * d2 + d2 / 7) % 2147483647 / 11)) (.int m)) _=_;rw [oF hm];rfl
 show (match dz [a_ (.scr ns),a_ (.int k),a_ (.int m),ck] with | some (.nx _)=>_ | some (.rt d)=>_ | _=>_)=_
 have e:dz [a_ (.scr ns),a_ (.int k),a_ (.int m),ck]=a_ (.rt (.int (dr3 d2 m))):=by
  show sq ((aL 3 _) _) (fun ρ=>sq ((aL 3 _) ρ) _)=_;rw [e1];show sq ((aL 3 _) [a_ (.scr ns),a_ (.int k),a_ (.int m),a_ (.int d1)]) _=_;rw [e2];exact e3
 rw [e]
def menu:List Str:=[b_ "a.b",b_ "b",b_ "x.a.b",b_ "y.x.a.b",b_ "c.uk",b_ "uk",b_ "d.c.uk",b_ "e.d.c.uk",b_ "w.ck",b_ "v.w.ck",b_ "ck",b_ "g-1.a.b",b_ "7.b",b_ "p.q"]
def rules:List Dv:=[.str "!w.ck",.str "*.ck",.str "*.uk",.str "a.b",.str "b",.str "c.uk",.str "q",.str "uk"]
def j4:List Dv→List (List Dv)
 | []=>[[]]
 | x :: r=>(j4 r).map (x :: ·) ++ j4 r
def okO (o:Option (Rs Dv)):Option (Rs Dv):=match o with
 | some (.ok d)=>a_ (.ok d)
 | _=>ck
theorem mK (ns:List Int) (hl:ns.length≤63) (k:Int):∃ p∈menu,bq [.scr ns,.int k]=a_ (.ok (.str p)):=by
 obtain ⟨d,h0,h1,hd⟩:=aQ ns hl k 14 (by omega);have e:bq [.scr ns,.int k]=(match bO (bnd (match ag [.scr ns,.int k,.int 14] with | some (.ok d)=>(a_ (.ok d):Option (Rs Dv)) | _=>ck) fun i=>ixD (.lst (menu.map Dv.str)) i) fun d=>a_ (.rt d) with
  | some (.nx _)=>a_ (.ok .non)
  | some (.rt d)=>a_ (.ok d)
  | _=>ck):=by kernel_rfl
 rw [e,hd];have hc:d=0∨d=1∨d=2∨d=3∨d=4∨d=5∨d=6∨d=7∨d=8∨d=9∨d=10∨d=11∨d=12∨d=13:=by omega
 rcases hc with rfl | rfl | rfl | rfl | rfl | rfl | rfl | rfl | rfl | rfl | rfl | rfl | rfl | rfl
 · exact ⟨b_ "a.b",by simp [menu],by kernel_rfl⟩
 · exact ⟨b_ "b",by simp [menu],by kernel_rfl⟩
 · exact ⟨b_ "x.a.b",by simp [menu],by kernel_rfl⟩
 · exact ⟨b_ "y.x.a.b",by simp [menu],by kernel_rfl⟩
 · exact ⟨b_ "c.uk",by simp [menu],by kernel_rfl⟩
 · exact ⟨b_ "uk",by simp [menu],by kernel_rfl⟩
 · exact ⟨b_ "d.c.uk",by simp [menu],by kernel_rfl⟩
 · exact ⟨b_ "e.d.c.uk",by simp [menu],by kernel_rfl⟩
 · exact ⟨b_ "w.ck",by simp [menu],by kernel_rfl⟩
 · exact ⟨b_ "v.w.ck",by simp [menu],by kernel_rfl⟩
 · exact ⟨b_ "ck",by simp [menu],by kernel_rfl⟩
 · exact ⟨b_ "g-1.a.b",by simp [menu],by kernel_rfl⟩
 · exact ⟨b_ "7.b",by simp [menu],by kernel_rfl⟩
 · exact ⟨b_ "p.q",by simp [menu],by kernel_rfl⟩
def Bm:FnB:=fB (f2 eqX (ai ag 3 (aa (ac 2) (aa (f2 cZ (ac 3) (ac 0)) (aa (fC (.int 2)) ah)))) (fC (.int 0)))
theorem za (ns:List Int) (hl:ns.length≤63) (z:Int):∀ (l:List Dv) (k:Nat),∃ t∈j4 l,iW (gP 0 1) (a_ Bm) (ac 1) [ck,ck,a_ (.scr ns),a_ (.int z)] (io k l)=a_ t
 | [],k=>⟨[],by simp [j4],rfl⟩
 | x :: r,k=>by
  obtain ⟨t,ht,e⟩:=za ns hl z r (k + 1);obtain ⟨d,h0,h1,hd⟩:=aQ ns hl (z + k) 2 (by omega);have ht':Bm [a_ (.int k),a_ x,a_ (.scr ns),a_ (.int z)]=bnd (bnd (okO (ag [.scr ns,.int (z + k),.int 2])) fun x=>eqX x (.int 0)) toB:=by kernel_rfl
  have hu:iW (gP 0 1) (a_ Bm) (ac 1) [ck,ck,a_ (.scr ns),a_ (.int z)] (io k (x :: r))=(match Bm [a_ (.int k),a_ x,a_ (.scr ns),a_ (.int z)] with
   | some (.ok c_)=>(match iW (gP 0 1) (a_ Bm) (ac 1) [ck,ck,a_ (.scr ns),a_ (.int z)] (io (k + 1) r) with | some ys=>a_ (x :: ys) | none=>ck)
   | some (.ok d_)=>iW (gP 0 1) (a_ Bm) (ac 1) [ck,ck,a_ (.scr ns),a_ (.int z)] (io (k + 1) r)
   | _=>ck):=by kernel_rfl
  rw [hu,ht',hd,e];have hc:d=0∨d=1:=by omega
  rcases hc with rfl | rfl
  · exact ⟨x :: t,by simp [j4,ht],by kernel_rfl⟩
  · exact ⟨t,by simp [j4,ht],by kernel_rfl⟩
theorem mL:∀ {l t:List Dv},t∈j4 l→t.length≤l.length
 | [],t,h=>by simp [j4] at h; simp [h]
 | x :: r,t,h=>by
  simp only [j4,K8,Lp] at h;rcases h with ⟨u,hu,rfl⟩ | h
  · have:=mL hu; simp; omega
  · have:=mL h; simp; omega
theorem xY (ns:List Int) (hl:ns.length≤63):∃ t∈j4 rules,eD [.scr ns,.int 0]=a_ (.ok (.tup t)):=by
 obtain ⟨t,ht,e⟩:=za ns hl 0 rules 0;refine ⟨t,ht,?_⟩;have hle:t.length≤100000:=by have:=mL ht; have:rules.length=8:=rfl; omega
 have hu:eD [.scr ns,.int 0]=(match bO (bnd (bnd (match iW (gP 0 1) (a_ Bm) (ac 1) [ck,ck,a_ (.scr ns),a_ (.int 0)] (io 0 rules) with
  | some ys=>if ys.length≤100000∧(io 0 rules).length≤100000 then (a_ (.ok (.lst ys)):Option (Rs Dv)) else ck
  | none=>ck) fun x=>bnd (a_ (.ok [])) fun ys=>a_ (.ok (x :: ys))) cD) fun d=>a_ (.rt d) with
  | some (.nx _)=>a_ (.ok .non)
  | some (.rt d)=>a_ (.ok d)
  | _=>ck):=by kernel_rfl
 rw [hu,e];dsimp only;rw [if_pos ⟨hle,by decide⟩];rfl
def pths : List Str := [b_ "/", b_ "/x", b_ "/x/", b_ "/x/y", b_ "/xy", b_ "/x/y/z.q", b_ "//", b_ "/-_.9", b_ "/x/y/"]
theorem qd (ns:List Int) (hl:ns.length≤63) (k:Int):∃ p∈pths,cx [.scr ns,.int k]=a_ (.ok (.str p)):=by
 obtain ⟨d,h0,h1,hd⟩:=aQ ns hl k 9 (by omega);have e:cx [.scr ns,.int k]=(match bO (bnd (match ag [.scr ns,.int k,.int 9] with | some (.ok d)=>(a_ (.ok d):Option (Rs Dv)) | _=>ck) fun i=>ixD (.lst (pths.map Dv.str)) i) fun d=>a_ (.rt d) with
  | some (.nx _)=>a_ (.ok .non)
  | some (.rt d)=>a_ (.ok d)
  | _=>ck):=by kernel_rfl
 rw [e,hd];have hc:d=0∨d=1∨d=2∨d=3∨d=4∨d=5∨d=6∨d=7∨d=8:=by omega
 rcases hc with rfl | rfl | rfl | rfl | rfl | rfl | rfl | rfl | rfl
 · exact ⟨b_ "/",by simp [pths],by kernel_rfl⟩
 · exact ⟨b_ "/x",by simp [pths],by kernel_rfl⟩
 · exact ⟨b_ "/x/",by simp [pths],by kernel_rfl⟩
 · exact ⟨b_ "/x/y",by simp [pths],by kernel_rfl⟩
 · exact ⟨b_ "/xy",by simp [pths],by kernel_rfl⟩
 · exact ⟨b_ "/x/y/z.q",by simp [pths],by kernel_rfl⟩
 · exact ⟨b_ "//",by simp [pths],by kernel_rfl⟩
 · exact ⟨b_ "/-_.9", by simp [pths], by kernel_rfl⟩
 · exact ⟨b_ "/x/y/",by simp [pths],by kernel_rfl⟩
theorem jj (F:List Dv→Option (Rs Dv)) {f g k:FnE} {ρ:Ev} {a b c d:Dv} (h:f ρ=a_ (.ok a)) (h':g ρ=a_ (.ok b)) (h'':k ρ=a_ (.ok c)) (hF:F [a,b,c]=a_ (.ok d)):ai F 3 (aa f (aa g (aa k ah))) ρ=a_ (.ok d):=dH (ae h (ae h' (ae h'' aw))) rfl hF
theorem xZ (ns:List Int) (hl:ns.length≤63) (z:Int):∃ s h p O,h∈menu∧p∈pths∧(O=Dv.non∨∃ o∈menu,O=.str o)∧ij [.scr ns,.int z]=a_ (.ok (.tup [.bl s,.str h,.str p,O])):=by
 obtain ⟨d2,a0,a1,hd2⟩:=aQ ns hl (z + 2) 3 (by omega);obtain ⟨o,ho,hn3⟩:=mK ns hl (z + 3);obtain ⟨d0,b0,b1,hd0⟩:=aQ ns hl z 2 (by omega);obtain ⟨h,hh,hn1⟩:=mK ns hl (z + 1);obtain ⟨p,hp,hp4⟩:=qd ns hl (z + 4);have hO:∃ O,(O=Dv.non∨∃ o∈menu,O=.str o)∧ixD (.lst [.non,.str o,.str o]) (.int d2)=a_ (.ok O):=by
  have hc:d2=0∨d2=1∨d2=2:=by omega
  rcases hc with rfl | rfl | rfl
  · exact ⟨.non,.inl rfl,rfl⟩
  · exact ⟨.str o,.inr ⟨o,ho,rfl⟩,rfl⟩
  · exact ⟨.str o,.inr ⟨o,ho,rfl⟩,rfl⟩
 obtain ⟨O,hO,hix⟩:=hO;refine ⟨(d0 == 0),h,p,O,hh,hp,hO,dI ?_⟩;show fZ [a_ (.scr ns),a_ (.int z),ck]=_;unfold fZ;have e:f2 ixD (bz (aa (fC .non) (aa (ai bq 2 (aa (ac 0) (aa (f2 cZ (ac 1) (fC (.int 3))) ah))) (aa (ai bq 2 (aa (ac 0) (aa (f2 cZ (ac 1) (fC (.int 3))) ah))) ah)))) (ai ag 3 (aa (ac 0) (aa (f2 cZ (ac 1) (fC (.int 2))) (aa (fC (.int 3)) ah)))) [a_ (.scr ns),a_ (.int z),ck]=a_ (.ok O):=by
  rw [aT (iC (ae rfl (ae (fW bq rfl rfl hn3) (ae (fW bq rfl rfl hn3) aw))) (by show 3≤100000; decide)) (jj ag rfl rfl rfl hd2)];exact hix
 rw [al (ρ':=[a_ (.scr ns),a_ (.int z),a_ O]) (aI e rfl)];refine di (gQ (ae ?_ (ae (fW bq rfl rfl hn1) (ae (fW cx rfl rfl hp4) (ae rfl aw)))) (by show 4≤100000; decide));rw [aT (jj ag rfl rfl rfl hd0) rfl];rfl
abbrev bo (k:Bool):Option (Rs Dv):=a_ (.ok (.bl k))
def En:List Str:=menu ++ [b_ "q"]
theorem dh {x y:Str} (h:seq x y=c_):x=y:=by
 unfold seq at h;obtain ⟨⟨a⟩⟩:=x; obtain ⟨⟨b⟩⟩:=y;simp at h;rw [h]
theorem x3 (x:Str):seq x x=c_:=by unfold seq; simp
theorem c9 {α:Type} {l:List α} {p:α→Bool} (n:Nat) (h1:(l.take n).all p=c_) (h2:(l.drop n).all p=c_):l.all p=c_:=by
 rw [← N9 n l,RQ,h1,h2]; rfl
def Im (t:List Dv) (n:Str):Bool:=match cG [.tup t,.str n],bE [.tup t,.str n],db [.tup t,.str n],eV [.tup t,.str n] with
 | some (.ok (.str m)),a_ (.ok (.str m')),a_ (.ok .non),a_ (.ok .non)=>seq m m'
 | some (.ok (.str m)),a_ (.ok (.str m')),a_ (.ok (.str z)),a_ (.ok (.str z'))=>seq m m' && seq z z'
 | _,_,_,_=>d_
def gI (t:List Dv):Bool:=En.all fun n=>Im t n
def cW:Nat→List (List Dv)
 | 0=>j4 rules
 | k + 1=>(cW k).drop 16
theorem Kh:((cW 0).take 16).all gI=c_:=by kernel_rfl
theorem Ki:((cW 1).take 16).all gI=c_:=by kernel_rfl
theorem Kj:((cW 2).take 16).all gI=c_:=by kernel_rfl
theorem Kk:((cW 3).take 16).all gI=c_:=by kernel_rfl
theorem Kl:((cW 4).take 16).all gI=c_:=by kernel_rfl
theorem Km:((cW 5).take 16).all gI=c_:=by kernel_rfl
theorem Kn:((cW 6).take 16).all gI=c_:=by kernel_rfl
theorem Ko:((cW 7).take 16).all gI=c_:=by kernel_rfl
theorem Kp:((cW 8).take 16).all gI=c_:=by kernel_rfl
theorem Kq:((cW 9).take 16).all gI=c_:=by kernel_rfl
theorem Io:((cW 10).take 16).all gI=c_:=by kernel_rfl
theorem Ip:((cW 11).take 16).all gI=c_:=by kernel_rfl
theorem Iq:((cW 12).take 16).all gI=c_:=by kernel_rfl
theorem Ir:((cW 13).take 16).all gI=c_:=by kernel_rfl
theorem Iu:((cW 14).take 16).all gI=c_:=by kernel_rfl
theorem Iv:((cW 15).take 16).all gI=c_:=by kernel_rfl
theorem Fd:(j4 rules).all gI=c_:=(c9 (l:=cW 0) 16 Kh (c9 (l:=cW 1) 16 Ki (c9 (l:=cW 2) 16 Kj (c9 (l:=cW 3) 16 Kk (c9 (l:=cW 4) 16 Kl (c9 (l:=cW 5) 16 Km (c9 (l:=cW 6) 16 Kn (c9 (l:=cW 7) 16 Ko (c9 (l:=cW 8) 16 Kp (c9 (l:=cW 9) 16 Kq (c9 (l:=cW 10) 16 Io (c9 (l:=cW 11) 16 Ip (c9 (l:=cW 12) 16 Iq (c9 (l:=cW 13) 16 Ir (c9 (l:=cW 14) 16 Iu (c9 (l:=cW 15) 16 Iv (show (cW 16).all gI=c_ by kernel_rfl)))))))))))))))))
theorem Bn {t:List Dv} (ht:t∈j4 rules) {n:Str} (hn:n∈En):∃ m o,cG [.tup t,.str n]=a_ (.ok (.str m))∧bE [.tup t,.str n]=a_ (.ok (.str m))∧(o=Dv.non∨∃ z,o=.str z)∧db [.tup t,.str n]=a_ (.ok o)∧eV [.tup t,.str n]=a_ (.ok o):=by
 have h:=ba (show (En.all fun n=>Im t n)=c_ from ba Fd ht) hn;unfold Im at h;split at h
 · rename_i m m' h1 h2 h3 h4;have e:=dh h;subst e;exact ⟨m,_,h1,h2,.inl rfl,h3,h4⟩
 · rename_i m m' z z' h1 h2 h3 h4;rw [n_] at h;have e:=dh h.1;have e':=dh h.2;subst e e';exact ⟨m,_,h1,h2,.inr ⟨z,rfl⟩,h3,h4⟩
 · cases h
def okY:Option (Rs Dv)→Bool
 | some (.ok (.bl c_))=>c_
 | _=>d_
theorem gl {o:Option (Rs Dv)} (h:okY o=c_):o=a_ (.ok (.bl c_)):=by
 unfold okY at h; split at h
 · rfl
 · cases h
def okF:Option (Rs Dv)→Bool
 | some (.ok (.bl d_))=>c_
 | _=>d_
theorem vt:((j4 rules).all fun t=>okY (bI [.tup t]))=c_:=by kernel_rfl
theorem ib {t:List Dv} (ht:t∈j4 rules):bI [.tup t]=bo c_:=gl (ba (p:=fun t=>okY (bI [.tup t])) vt ht)
def nms:List Str:=[b_ "n",b_ "safe-a",b_ "own-b",b_ "N_2",b_ "m-1",b_ "safe-",b_ "own"]
def wts:List Str:=[b_ "5",b_ "",b_ "a!b~",b_ "x/y?z",b_ "123456789012",b_ "1"]
theorem vv:(nms.all fun n=>okY (aJ [.str n]))=c_:=by kernel_rfl
theorem Fe:(nms.all fun n=>!(A_ n (b_ "safe-") && A_ n (b_ "own-")))=c_:=by kernel_rfl
theorem vw:(wts.all fun n=>okY (bC [.str n]))=c_:=by kernel_rfl
theorem vx:(En.all fun n=>okY (bX [.str n]))=c_:=by kernel_rfl
theorem vy:(pths.all fun n=>okY (cz [.str n]))=c_:=by kernel_rfl
def Gz (p q:Str):Bool:=match bc [.str p,.str q],aD [.str p,.str q] with
 | some (.ok (.bl a)),a_ (.ok (.bl b))=>a == b
 | _,_=>d_
theorem Ff:(En.all fun p=>En.all fun q=>Gz p q)=c_:=by kernel_rfl
def lH:FnE:=(cR (f2 ixD (ac 1) (fC (.int 2))) cm (bP (fB1 Gu (aa (fC (.int 1)) (aa (fM (yJ Qq) (f2 ixD (ac 1) (fC (.int 2))) (aa (fC (.str "/")) ah)) ah)))))
def Iw (p:Str):Bool:=match lH [ck,a_ (.tup [.non,.non,.str p])],jg [.str p] with
 | some (.ok (.str f)),a_ (.ok (.str g))=>seq g f && pths.any (fun q=>seq q f)
 | _,_=>d_
theorem Fg:(pths.all Iw)=c_:=by kernel_rfl
theorem Ix {n:Str} (h:n∈nms):aJ [.str n]=bo c_:=gl (ba (p:=fun n=>okY (aJ [.str n])) vv h)
theorem Kr {n:Str} (h:n∈nms):A_ n (b_ "safe-")=d_∨A_ n (b_ "own-")=d_:=by
 have:=ba (p:=fun n=>!(A_ n (b_ "safe-") && A_ n (b_ "own-"))) Fe h;simpa using this
theorem Iy {n:Str} (h:n∈wts):bC [.str n]=bo c_:=gl (ba (p:=fun n=>okY (bC [.str n])) vw h)
theorem zb {n:Str} (h:n∈En):bX [.str n]=bo c_:=gl (ba (p:=fun n=>okY (bX [.str n])) vx h)
theorem Bo {n:Str} (h:n∈pths):cz [.str n]=bo c_:=gl (ba (p:=fun n=>okY (cz [.str n])) vy h)
theorem Jv {p q:Str} (h:p∈En) (h':q∈En):∃ k,bc [.str p,.str q]=bo k∧aD [.str p,.str q]=bo k:=by
 have z:=ba (p:=fun q=>Gz p q) (ba (p:=fun p=>En.all fun q=>Gz p q) Ff h) h';unfold Gz at z;split at z
 · rename_i a b h1 h2;have e:a=b:=by simpa using z
   subst e;exact ⟨a,h1,h2⟩
 · cases z
theorem Jw {p:Str} (h:p∈pths):∃ f∈pths,jg [.str p]=a_ (.ok (.str f))∧lH [ck,a_ (.tup [.non,.non,.str p])]=a_ (.ok (.str f)):=by
 have q:=ba (p:=Iw) Fg h;unfold Iw at q;split at q
 · rename_i f g h1 h2;simp only [n_] at q;obtain ⟨q1,q2⟩:=q;have e:=dh q1;subst e;obtain ⟨y,hy,ey⟩:=Mz.mp q2;have e:=dh ey;subst e;exact ⟨y,hy,h2,h1⟩
 · cases q
section
variable {T:Dv}
theorem Bp (h:bI [T]=bo c_):aW [T]=a_ (.ok .non):=by simp [aW,fT,dJ,sq,aM,bg,bO,bnd,br,fB,toB,ai,aa,ah,ac,fC,aG,h]
theorem Fh (h:df [T]=bo c_):bJ [T]=a_ (.ok .non):=by simp [bJ,fT,fk,sq,aM,bg,bO,bnd,br,fB,toB,ai,aa,ah,ac,fC,aG,h]
theorem Jx (h:bU [T]=bo c_):dR [T]=a_ (.ok .non):=by simp [dR,fT,eQ,sq,aM,bg,bO,bnd,br,fB,toB,ai,aa,ah,ac,fC,aG,h]
theorem Fi (h:aX [T]=bo c_):bF [T]=a_ (.ok .non):=by simp [bF,fT,da,sq,aM,bg,bO,bnd,br,fB,toB,ai,aa,ah,ac,fC,aG,h]
theorem Ks (h:bI [T]=bo d_):aW [T]=a_ (.exc 1):=by simp [aW,fT,dJ,sq,aM,bg,bO,bnd,br,fB,toB,ai,aa,ah,ac,fC,aG,h]
theorem Kt (h:df [T]=bo d_):bJ [T]=a_ (.exc 3):=by simp [bJ,fT,fk,sq,aM,bg,bO,bnd,br,fB,toB,ai,aa,ah,ac,fC,aG,h]
theorem Ku (h:aX [T]=bo d_):bF [T]=a_ (.exc 6):=by simp [bF,fT,da,sq,aM,bg,bO,bnd,br,fB,toB,ai,aa,ah,ac,fC,aG,h]
end
theorem oG {i:Int} (h0:0≤i) (h1:i≤9999):aX [.int i]=bo c_:=by
 have e:aU [.int i,.int 0,.int 9999]=bo c_:=by
  simp [aU,bt,bu,ar,sq,aM,ay,bg,bO,bnd,bOr,br,fB,toB,ac,fC,f1,f2,cC,cQ,aO,bW,leX,h0,h1]
 simp [aX,bt,ei,ar,sq,aM,ay,bg,bi,aL,bO,bnd,bOr,bS,br,fB,toB,ai,ao,aa,ah,ac,fC,f1,f2,ixD,atD,vOr,cC,fH,fIf,bp,bz,fB1,fM,aG,bx,isN,cP,cQ,aO,bV,bT,bW,e]
def Mo (u:Dv):Prop:=u=.non∨∃ i:Int,0≤i∧i≤9999∧u=.int i
theorem rg {u:Dv} (h:Mo u):az [u]=bo c_:=by
 rcases h with rfl | ⟨i,h0,h1,rfl⟩
 · simp [az,bt,aY,sq,ay,bg,bO,bnd,toB,ai,aa,ah,ac,fC,f2,vOr,isN]
 · simp [az,bt,aY,ar,sq,aM,ay,bg,bi,aL,bO,bnd,bOr,bS,br,fB,toB,ai,ao,aa,ah,ac,fC,f1,f2,ixD,atD,vOr,cC,fH,fIf,bp,bz,fB1,fM,aG,bx,isN,cP,cQ,aO,bV,bT,bW,oG h0 h1]
structure Ak (h p:Str) (O:Dv):Prop where
 h:h∈En
 p:p∈pths
 o:O=.non∨∃ o∈menu,O=.str o
theorem me {h:Str} (q:h∈menu):h∈En:=y_ _ q
abbrev akn (s:Bool) (h p:Str) (O:Dv):Dv:=.tup [.bl s,.str h,.str p,O]
theorem vz {s:Bool} {h p:Str} {O:Dv} (a:Ak h p O):df [akn s h p O]=bo c_:=by
 have e0:cy [.tup [.bl s,.str h,.str p,O],.int 4]=bo c_:=by kernel_rfl
 have e1:=zb (a.h);have e2:=Bo a.p;rcases a.o with rfl | ⟨o,ho,rfl⟩
 · simp [df,bt,i7,ar,sq,aM,ay,bg,bO,bnd,br,fB,toB,ai,aa,ah,ac,fC,f1,f2,ixD,atD,vOr,bz,fB1,isN,cQ,aO,e0,e1,e2,ju,fG]
 · have e3:=zb (me ho);simp [df,bt,i7,ar,sq,aM,ay,bg,bi,aL,bO,bnd,bOr,bS,br,fB,toB,ai,ao,aa,ah,ac,fC,f1,f2,ixD,atD,vOr,cC,fH,fIf,bp,bz,fB1,fM,aG,bx,isN,cP,cQ,aO,bV,bT,bW,e0,e1,e2,e3,ju,fG]
theorem Fj {t:List Dv} (ht:t∈j4 rules) {h p:Str} {O:Dv} (a:Ak h p O):∃ k,∀ s,bb [.tup t,akn s h p O]=bo k∧bN [.tup t,akn s h p O]=bo k:=by
 rcases a.o with rfl | ⟨o,ho,rfl⟩
 · exact ⟨c_,fun s=>⟨by simp [bb,bt,bw,ar,sq,aM,ay,bg,aL,bO,bnd,bOr,fB,toB,ai,aa,ah,ac,fC,f2,ixD,atD,cC,isN,cP],by simp [bN,bt,cM,ar,sq,aM,ay,bg,bi,aL,bO,bnd,bOr,bS,br,fB,toB,ai,ao,aa,ah,ac,fC,f1,f2,ixD,atD,vOr,cC,fH,fIf,bp,bz,fB1,fM,aG,bx,isN,cP,cQ,aO,bV,bT,bW]⟩⟩
 · obtain ⟨m1,o1,_,_,h1,e1,f1'⟩:=Bn ht (a.h);obtain ⟨m2,o2,_,_,h2,e2,f2'⟩:=Bn ht (me ho);cases q:seq o h with
   | true=>exact ⟨c_,fun s=>⟨by simp [bb,bt,bw,ar,sq,aM,ay,bg,bi,aL,bO,bnd,bOr,bS,br,fB,toB,ai,ao,aa,ah,ac,fC,f1,f2,ixD,atD,vOr,cC,fH,fIf,bp,bz,fB1,fM,aG,bx,isN,cP,cQ,aO,bV,bT,bW,eqX,eqS,q],by simp [bN,bt,cM,ar,sq,aM,ay,bg,bi,aL,bO,bnd,bOr,bS,br,fB,toB,ai,ao,aa,ah,ac,fC,f1,f2,ixD,atD,vOr,cC,fH,fIf,bp,bz,fB1,fM,aG,bx,isN,cP,cQ,aO,bV,bT,bW,eqX,eqS,q]⟩⟩
   | false =>
    rcases h1 with rfl | ⟨z1,rfl⟩
    · exact ⟨d_,fun s=>⟨by simp [bb,bt,bw,ar,sq,aM,ay,bg,bi,aL,bO,bnd,bOr,bS,br,fB,toB,ai,ao,aa,ah,ac,fC,f1,f2,ixD,atD,vOr,cC,fH,fIf,bp,bz,fB1,fM,aG,bx,isN,cP,cQ,aO,bV,bT,bW,eqX,eqS,q,e1,e2],by simp [bN,bt,cM,ar,sq,aM,ay,bg,bi,aL,bO,bnd,bOr,bS,br,fB,toB,ai,ao,aa,ah,ac,fC,f1,f2,ixD,atD,vOr,cC,fH,fIf,bp,bz,fB1,fM,aG,bx,isN,cP,cQ,aO,bV,bT,bW,eqX,eqS,q,f1',f2']⟩⟩
    · rcases h2 with rfl | ⟨z2,rfl⟩
      · exact ⟨d_,fun s=>⟨by simp [bb,bt,bw,ar,sq,aM,ay,bg,bi,aL,bO,bnd,bOr,bS,br,fB,toB,ai,ao,aa,ah,ac,fC,f1,f2,ixD,atD,vOr,cC,fH,fIf,bp,bz,fB1,fM,aG,bx,isN,cP,cQ,aO,bV,bT,bW,eqX,eqS,q,e1,e2],by simp [bN,bt,cM,ar,sq,aM,ay,bg,bi,aL,bO,bnd,bOr,bS,br,fB,toB,ai,ao,aa,ah,ac,fC,f1,f2,ixD,atD,vOr,cC,fH,fIf,bp,bz,fB1,fM,aG,bx,isN,cP,cQ,aO,bV,bT,bW,eqX,eqS,q,f1',f2']⟩⟩
      · exact ⟨seq z1 z2,fun s=>⟨by simp [bb,bt,bw,ar,sq,aM,ay,bg,bi,aL,bO,bnd,bOr,bS,br,fB,toB,ai,ao,aa,ah,ac,fC,f1,f2,ixD,atD,vOr,cC,fH,fIf,bp,bz,fB1,fM,aG,bx,isN,cP,cQ,aO,bV,bT,bW,eqX,eqS,q,e1,e2],by simp [bN,bt,cM,ar,sq,aM,ay,bg,bi,aL,bO,bnd,bOr,bS,br,fB,toB,ai,ao,aa,ah,ac,fC,f1,f2,ixD,atD,vOr,cC,fH,fIf,bp,bz,fB1,fM,aG,bx,isN,cP,cQ,aO,bV,bT,bW,eqX,eqS,q,f1',f2']⟩⟩
theorem eK {l:List Dv} {d:Int} (h0:0≤d) (h1:d < l.length):∃ x∈l,ixD (.lst l) (.int d)=a_ (.ok x):=by
 have h2:d.toNat < l.length:=by omega
 refine ⟨l[d.toNat],Nt h2,?_⟩;show (match atD l d with | some d=>_ | none=>_)=_
 unfold atD;rw [if_pos h0,Lb h2]
structure Gv (nm w:Str) (H P u l:Dv) (S:Bool) (R:Str):Prop where
 nm:nm∈nms
 w:w∈wts
 hh:H=.non∨∃ n∈En,H=.str n
 pp:P=.non∨∃ p∈pths,P=.str p
 u:u=.non∨∃ i:Int,0≤i∧i < 60∧u=.int i
 l:l=.non∨∃ i:Int,0≤i∧i < 30∧l=.int i
 r:R=b_ "any"∨R=b_ "near"
abbrev gvn (nm w:Str) (H P u l:Dv) (S:Bool) (R:Str):Dv:=.tup [.str nm,.str w,H,P,u,l,.bl S,.str R]
def BR:Option (Rs Dv)→Bool
 | some (.ok (.str z))=>En.any fun q=>seq q z
 | _=>d_
theorem vA {o:Option (Rs Dv)} (h:BR o=c_):∃ n∈En,o=a_ (.ok (.str n)):=by
 unfold BR at h;split at h
 · rename_i z;obtain ⟨y,hy,ey⟩:=Mz.mp h;have e:=dh ey;subst e;exact ⟨y,hy,rfl⟩
 · cases h
def ya:FnE:=(f2 ixD (fM (fV) (ac 2) (aa (fC (.str ".")) ah)) (f1 wg (fC (.int 1))))
def yb:FnE:=(fIf (fB (f2 inD (fC (.str ".")) (ac 2))) (sE (ac 2) (bP (f2 cZ (fM BM (ac 2) (aa (fC (.str ".")) ah)) (fC (.int 1)))) cm) (ac 2))
theorem yc:(menu.all fun h=>BR (ya [ck,ck,a_ (.str h)]))=c_:=by kernel_rfl
theorem yd:(menu.all fun h=>BR (yb [ck,ck,a_ (.str h)]))=c_:=by kernel_rfl
theorem Fk {h:Str} (q:h∈menu) {a b:Option Dv} {r:Ev}:∃ n∈En,ya (a :: b :: a_ (.str h) :: r)=a_ (.ok (.str n)):=vA (ba (p:=fun h=>BR (ya [ck,ck,a_ (.str h)])) yc q)
theorem Fm {h:Str} (q:h∈menu) {a b:Option Dv} {r:Ev}:∃ n∈En,yb (a :: b :: a_ (.str h) :: r)=a_ (.ok (.str n)):=vA (ba (p:=fun h=>BR (yb [ck,ck,a_ (.str h)])) yd q)
theorem ye (ns:List Int) (hl:ns.length≤63) (z:Int) {h:Str} (hh:h∈menu):∃ nm w H P u l S R,Gv nm w H P u l S R∧ez [.scr ns,.int z,.str h]=a_ (.ok (gvn nm w H P u l S R)):=by
 obtain ⟨d0,a0,b0,e0⟩:=aQ ns hl z 7 (by omega);obtain ⟨d1,a1,b1,e1⟩:=aQ ns hl (z + 1) 5 (by omega);obtain ⟨d2,a2,b2,e2⟩:=aQ ns hl (z + 2) 6 (by omega);obtain ⟨d4,a4,b4,e4⟩:=aQ ns hl (z + 4) 3 (by omega);obtain ⟨d6,a6,b6,e6⟩:=aQ ns hl (z + 6) 3 (by omega);obtain ⟨d7,a7,b7,e7⟩:=aQ ns hl (z + 7) 60 (by omega);obtain ⟨d8,a8,b8,e8⟩:=aQ ns hl (z + 8) 3 (by omega);obtain ⟨d9,a9,b9,e9⟩:=aQ ns hl (z + 9) 30 (by omega);obtain ⟨d10,a10,b10,e10⟩:=aQ ns hl (z + 10) 2 (by omega);obtain ⟨d11,a11,b11,e11⟩:=aQ ns hl (z + 11) 2 (by omega);obtain ⟨n3,hn3,e3⟩:=mK ns hl (z + 3);obtain ⟨p5,hp5,e5⟩:=qd ns hl (z + 5);obtain ⟨x0,m0,i0⟩:=eK (l:=[.str "n",.str "safe-a",.str "own-b",.str "N_2",.str "m-1",.str "safe-",.str "n"]) a0 b0;obtain ⟨x1,m1,i1⟩:=eK (l:=[.str "5",.str "",.str "a!b~",.str "x/y?z",.str "123456789012"]) a1 b1;obtain ⟨L,hL,eL⟩:=Fk hh (a:=a_ (.scr ns)) (b:=a_ (.int z)) (r:=[a_ x0,a_ x1,ck,ck,ck,ck,ck,ck]);obtain ⟨TL,hT,eT⟩:=Fm hh (a:=a_ (.scr ns)) (b:=a_ (.int z)) (r:=[a_ x0,a_ x1,ck,ck,ck,ck,ck,ck]);obtain ⟨x2,m2,i2⟩:=eK (l:=[.non,.non,.str h,.str L,.str n3,.str TL]) a2 b2;obtain ⟨x4,m4,i4⟩:=eK (l:=[.non,.str "/",.str p5]) a4 b4;obtain ⟨x6,m6,i6⟩:=eK (l:=[.non,.non,.int d7]) a6 b6;obtain ⟨x8,m8,i8⟩:=eK (l:=[.non,.non,.int d9]) a8 b8;obtain ⟨x11,m11,i11⟩:=eK (l:=[.str "any",.str "near"]) a11 b11;have g0:∃ nm∈nms,x0=.str nm:=by
  simp only [rl,I_,or_false] at m0;rcases m0 with rfl | rfl | rfl | rfl | rfl | rfl | rfl <;> exact ⟨_,by simp [nms],rfl⟩
 have g1:∃ nm∈wts,x1=.str nm:=by
  simp only [rl,I_,or_false] at m1;rcases m1 with rfl | rfl | rfl | rfl | rfl <;> exact ⟨_,by simp [wts],rfl⟩
 have g2:x2=.non∨∃ n∈En,x2=.str n:=by
  simp only [rl,I_,or_false] at m2;rcases m2 with rfl | rfl | rfl | rfl | rfl | rfl
  · exact .inl rfl
  · exact .inl rfl
  · exact .inr ⟨_,me hh,rfl⟩
  · exact .inr ⟨_,hL,rfl⟩
  · exact .inr ⟨_,me hn3,rfl⟩
  · exact .inr ⟨_,hT,rfl⟩
 have g4:x4=.non∨∃ n∈pths,x4=.str n:=by
  simp only [rl,I_,or_false] at m4;rcases m4 with rfl | rfl | rfl
  · exact .inl rfl
  · exact .inr ⟨_,by simp [pths],rfl⟩
  · exact .inr ⟨_,hp5,rfl⟩
 have g6:x6=.non∨∃ i:Int,0≤i∧i < 60∧x6=.int i:=by
  simp only [rl,I_,or_false] at m6;rcases m6 with rfl | rfl | rfl
  · exact .inl rfl
  · exact .inl rfl
  · exact .inr ⟨_,a7,b7,rfl⟩
 have g8:x8=.non∨∃ i:Int,0≤i∧i < 30∧x8=.int i:=by
  simp only [rl,I_,or_false] at m8;rcases m8 with rfl | rfl | rfl
  · exact .inl rfl
  · exact .inl rfl
  · exact .inr ⟨_,a9,b9,rfl⟩
 have g11:∃ R,(R=b_ "any"∨R=b_ "near")∧x11=.str R:=by
  simp only [rl,I_,or_false] at m11;rcases m11 with rfl | rfl
  · exact ⟨_,.inl rfl,rfl⟩
  · exact ⟨_,.inr rfl,rfl⟩
 obtain ⟨nm,hnm,rfl⟩:=g0;obtain ⟨w,hw,rfl⟩:=g1;obtain ⟨R,hR,rfl⟩:=g11;refine ⟨nm,w,x2,x4,x6,x8,d10 == 0,R,⟨hnm,hw,g2,g4,g6,g8,hR⟩,?_⟩;have eB:fI=(ar (aL 3 (f2 ixD (bz (aa (fC (.str "n")) (aa (fC (.str "safe-a")) (aa (fC (.str "own-b")) (aa (fC (.str "N_2")) (aa (fC (.str "m-1")) (aa (fC (.str "safe-")) (aa (fC (.str "n")) ah)))))))) (ai ag 3 (aa (ac 0) (aa (ac 1) (aa (fC (.int 7)) ah)))))) (ar (aL 4 (f2 ixD (bz (aa (fC (.str "5")) (aa (fC (.str "")) (aa (fC (.str "a!b~")) (aa (fC (.str "x/y?z")) (aa (fC (.str "123456789012")) ah)))))) (ai ag 3 (aa (ac 0) (aa (f2 cZ (ac 1) (fC (.int 1))) (aa (fC (.int 5)) ah)))))) (uA 5 (aa (fC .non) (aa (fC .non) (aa (ac 2) (aa ya (aa (ai bq 2 (aa (ac 0) (aa (f2 cZ (ac 1) (fC (.int 3))) ah))) ah))))) (cX (xh yb) (cX (et 6 (f2 ixD (bz (aa (fC .non) (aa (fC (.str "/")) (aa (ai cx 2 (aa (ac 0) (aa (f2 cZ (ac 1) (fC (.int 5))) ah))) ah)))) (ai ag 3 (aa (ac 0) (aa (f2 cZ (ac 1) (fC (.int 4))) (aa (fC (.int 3)) ah)))))) (cX (et 7 (f2 ixD (bz (aa (fC .non) (aa (fC .non) (aa (ai ag 3 (aa (ac 0) (aa (f2 cZ (ac 1) (fC (.int 7))) (aa (fC (.int 60)) ah)))) ah)))) (ai ag 3 (aa (ac 0) (aa (f2 cZ (ac 1) (fC (.int 6))) (aa (fC (.int 3)) ah)))))) (cX (et 8 (f2 ixD (bz (aa (fC .non) (aa (fC .non) (aa (ai ag 3 (aa (ac 0) (aa (f2 cZ (ac 1) (fC (.int 9))) (aa (fC (.int 30)) ah)))) ah)))) (ai ag 3 (aa (ac 0) (aa (f2 cZ (ac 1) (fC (.int 8))) (aa (fC (.int 3)) ah)))))) (cX (et 9 (f2 ixD (bz (aa (fC (.str "any")) (aa (fC (.str "near")) ah))) (ai ag 3 (aa (ac 0) (aa (f2 cZ (ac 1) (fC (.int 11))) (aa (fC (.int 2)) ah)))))) (cX (et 10 (f2 eqX (ai ag 3 (aa (ac 0) (aa (f2 cZ (ac 1) (fC (.int 10))) (aa (fC (.int 2)) ah)))) (fC (.int 0)))) (kq 5 (bp (aa (ac 3) (aa (ac 4) (aa (f2 ixD (ac 5) (ai ag 3 (aa (ac 0) (aa (f2 cZ (ac 1) (fC (.int 2))) (aa (fC (.int 6)) ah))))) (aa (ac 6) (aa (ac 7) (aa (ac 8) (aa (ac 10) (aa (ac 9) ah))))))))))))))))))):=rfl;unfold ez bt;rw [eB];simp [ar,sq,ay,aL,bO,bnd,ai,aa,ah,ac,fC,f2,bp,bz,uA,cX,xh,et,kq,lz,cZ,e0,e1,e2,e3,e4,e5,e6,e7,e8,e9,e10,e11,i0,i1,i2,i4,i6,i8,i11,eL,eT,eqX,eqS]
section
variable {nm w:Str} {H P u l:Dv} {S:Bool} {R:Str} {t:List Dv} {h p:Str} {O:Dv}
theorem mM (h:R=b_ "any"∨R=b_ "near"):eR [.str R]=bo c_∧∃ r,eqX (.str R) (.str "near")=bo (!r):=by
 rcases h with rfl | rfl
 · exact ⟨by kernel_rfl,c_,by kernel_rfl⟩
 · exact ⟨by kernel_rfl,d_,by kernel_rfl⟩
theorem Gv.mu (g:Gv nm w H P u l S R):Mo u:=by
 rcases g.u with h | ⟨i,h0,h1,h2⟩
 · exact .inl h
 · exact .inr ⟨i,h0,by omega,h2⟩
theorem Gv.ml (g:Gv nm w H P u l S R):Mo l:=by
 rcases g.l with h | ⟨i,h0,h1,h2⟩
 · exact .inl h
 · exact .inr ⟨i,h0,by omega,h2⟩
theorem yf (x:Str) {k:Bool} (e1:aJ [.str x]=bo k) (g:Gv nm w H P u l S R):bU [gvn x w H P u l S R]=bo k:=by
 have e0:cy [gvn x w H P u l S R,.int 8]=bo c_:=by kernel_rfl
 have e2:=Iy g.w;have e3:=rg g.mu;have e4:=rg g.ml;have e5:=(mM g.r).1;cases k
 · rcases g.hh with rfl | ⟨n,hn,rfl⟩
   · rcases g.pp with rfl | ⟨q,hq,rfl⟩
     · simp [bU,bt,cr,ar,sq,aM,ay,bg,bO,bnd,br,fB,toB,ai,aa,ah,ac,fC,f1,f2,ixD,atD,vOr,bz,fB1,isN,cQ,aO,e0,e1,e2,e3,e4,e5,ju,fG]
     · simp [bU,bt,cr,ar,sq,aM,ay,bg,bi,aL,bO,bnd,bOr,bS,br,fB,toB,ai,ao,aa,ah,ac,fC,f1,f2,ixD,atD,vOr,cC,fH,fIf,bp,bz,fB1,fM,aG,bx,isN,cP,cQ,aO,bV,bT,bW,e0,e1,e2,e3,e4,e5,Bo hq,ju,fG]
   · rcases g.pp with rfl | ⟨q,hq,rfl⟩
     · simp [bU,bt,cr,ar,sq,aM,ay,bg,bi,aL,bO,bnd,bOr,bS,br,fB,toB,ai,ao,aa,ah,ac,fC,f1,f2,ixD,atD,vOr,cC,fH,fIf,bp,bz,fB1,fM,aG,bx,isN,cP,cQ,aO,bV,bT,bW,e0,e1,e2,e3,e4,e5,zb hn,ju,fG]
     · simp [bU,bt,cr,ar,sq,aM,ay,bg,bi,aL,bO,bnd,bOr,bS,br,fB,toB,ai,ao,aa,ah,ac,fC,f1,f2,ixD,atD,vOr,cC,fH,fIf,bp,bz,fB1,fM,aG,bx,isN,cP,cQ,aO,bV,bT,bW,e0,e1,e2,e3,e4,e5,zb hn,Bo hq,ju,fG]
 · rcases g.hh with rfl | ⟨n,hn,rfl⟩
   · rcases g.pp with rfl | ⟨q,hq,rfl⟩
     · simp [bU,bt,cr,ar,sq,aM,ay,bg,bi,aL,bO,bnd,bOr,bS,br,fB,toB,ai,ao,aa,ah,ac,fC,f1,f2,ixD,atD,vOr,cC,fH,fIf,bp,bz,fB1,fM,aG,bx,isN,cP,cQ,aO,bV,bT,bW,e0,e1,e2,e3,e4,e5,ju,fG]
     · simp [bU,bt,cr,ar,sq,aM,ay,bg,bi,aL,bO,bnd,bOr,bS,br,fB,toB,ai,ao,aa,ah,ac,fC,f1,f2,ixD,atD,vOr,cC,fH,fIf,bp,bz,fB1,fM,aG,bx,isN,cP,cQ,aO,bV,bT,bW,e0,e1,e2,e3,e4,e5,Bo hq,ju,fG]
   · rcases g.pp with rfl | ⟨q,hq,rfl⟩
     · simp [bU,bt,cr,ar,sq,aM,ay,bg,bi,aL,bO,bnd,bOr,bS,br,fB,toB,ai,ao,aa,ah,ac,fC,f1,f2,ixD,atD,vOr,cC,fH,fIf,bp,bz,fB1,fM,aG,bx,isN,cP,cQ,aO,bV,bT,bW,e0,e1,e2,e3,e4,e5,zb hn,ju,fG]
     · simp [bU,bt,cr,ar,sq,aM,ay,bg,bi,aL,bO,bnd,bOr,bS,br,fB,toB,ai,ao,aa,ah,ac,fC,f1,f2,ixD,atD,vOr,cC,fH,fIf,bp,bz,fB1,fM,aG,bx,isN,cP,cQ,aO,bV,bT,bW,e0,e1,e2,e3,e4,e5,zb hn,Bo hq,ju,fG]
theorem vB (g:Gv nm w H P u l S R):bU [gvn nm w H P u l S R]=bo c_:=yf nm (Ix g.nm) g
def word (fo op un mk fr:Bool):Dv:=if fo then .str "foreign" else if op then .str "open" else if un then .str "unsafe" else if mk then .str "marked" else if fr then .str "far" else .non
theorem word_of (ht:t∈j4 rules) (a:Ak h p O) (g:Gv nm w H P u l S R) {fo op km nr r:Bool} {s:Bool}
 (hK:bK [.tup t,akn s h p O,gvn nm w H P u l S R]=bo km)
 (hN:bb [.tup t,akn s h p O]=bo nr) (hr:eqX (.str R) (.str "near")=bo (!r))
 (hH:(H=.non∧fo=d_∧op=d_)∨∃ n q k,H=.str n∧bc [.str h,.str n]=bo (!fo)∧neX (.str n) (.str h)=bo q∧gf [.tup t,.str n]=bo k∧op=(q && k)) :
 aP [.tup t,akn s h p O,gvn nm w H P u l S R]=a_ (.ok (word fo op (S && !s) (!km) (!r && !nr))):=by
 have e1:=Bp (ib ht);have e3:=Jx (vB g);have e2:=Fh (vz (s:=s) a);rcases hH with ⟨rfl,rfl,rfl⟩ | ⟨n,q,k,rfl,h1,h2,h3,rfl⟩
 · cases km <;> cases r <;> cases nr <;> cases S <;> cases s <;> simp [aP,fT,bR,ar,sq,aM,ay,bg,bi,aL,bO,bnd,bS,br,fB,toB,ai,ao,aa,ah,ac,fC,f2,ixD,atD,cP,e1,e2,e3,hK,hN,hr,word]
 · cases fo with
   | true=>simp [aP,fT,bR,ar,sq,aM,ay,bg,bi,aL,bO,bnd,bOr,bS,br,fB,toB,ai,ao,aa,ah,ac,fC,f1,f2,ixD,atD,vOr,cC,fH,fIf,bp,bz,fB1,fM,aG,bx,isN,cP,cQ,aO,bV,bT,bW,e1,e2,e3,hK,hN,hr,word,h1,h2,h3]
   | false =>
    have h4:q=c_∧k=c_∨(q && k)=d_∧(q=d_∨k=d_):=by cases q <;> cases k <;> simp
    rcases h4 with ⟨rfl,rfl⟩ | ⟨h5,h6⟩
    · simp [aP,fT,bR,ar,sq,aM,ay,bg,bi,aL,bO,bnd,bOr,bS,br,fB,toB,ai,ao,aa,ah,ac,fC,f1,f2,ixD,atD,vOr,cC,fH,fIf,bp,bz,fB1,fM,aG,bx,isN,cP,cQ,aO,bV,bT,bW,e1,e2,e3,hK,hN,hr,word,h1,h2,h3]
    · rw [h5];have h6:q=d_∨(q=c_∧k=d_):=by cases q <;> simp at h6 ⊢; exact h6
      rcases h6 with rfl | ⟨rfl,rfl⟩
      · cases km <;> cases r <;> cases nr <;> cases S <;> cases s <;> simp [aP,fT,bR,ar,sq,aM,ay,bg,bi,aL,bO,bnd,bOr,bS,br,fB,toB,ai,ao,aa,ah,ac,fC,f1,f2,ixD,atD,vOr,cC,fH,fIf,bp,bz,fB1,fM,aG,bx,isN,cP,cQ,aO,bV,bT,bW,e1,e2,e3,hK,hN,hr,word,h1,h2,h3]
      · cases km <;> cases r <;> cases nr <;> cases S <;> cases s <;> simp [aP,fT,bR,ar,sq,aM,ay,bg,bi,aL,bO,bnd,bOr,bS,br,fB,toB,ai,ao,aa,ah,ac,fC,f1,f2,ixD,atD,vOr,cC,fH,fIf,bp,bz,fB1,fM,aG,bx,isN,cP,cQ,aO,bV,bT,bW,e1,e2,e3,hK,hN,hr,word,h1,h2,h3]
def mark (q1 q2 S ex pe:Bool):Bool:=(q1 && !S) || (q2 && !(S && (ex && pe)))
theorem vC {pe ex:Bool} {s:Bool} (hnm:nm∈nms) (hP:eqX P (.str "/")=bo pe) (hW:cT [.tup t,akn s h p O,gvn nm w H P u l S R]=bo ex):bK [.tup t,akn s h p O,gvn nm w H P u l S R]=bo (!mark (A_ nm (b_ "safe-")) (A_ nm (b_ "own-")) S ex pe):=by
 have hm:=Kr hnm;cases q1:A_ nm (b_ "safe-") with
 | true =>
  rw [q1] at hm;have q2:A_ nm (b_ "own-")=d_:=by simpa using hm
  rw [q2];cases S <;> simp [bK,bt,ce,ar,sq,aM,ay,bg,aL,bO,bnd,fB,toB,ai,aa,ah,ac,fC,f2,ixD,atD,cC,fM,jS,q1,mark]
 | false =>
  cases q2:A_ nm (b_ "own-") with
  | true =>
   cases S <;> cases ex <;> cases pe <;> simp [bK,bt,ce,ar,sq,aM,ay,bg,bi,aL,bO,bnd,bOr,bS,br,fB,toB,ai,ao,aa,ah,ac,fC,f1,f2,ixD,atD,vOr,cC,fH,fIf,bp,bz,fB1,fM,aG,bx,isN,cP,cQ,aO,bV,bT,bW,jS,q1,q2,hW,hP,mark]
  | false=>simp [bK,bt,ce,ar,sq,aM,ay,bg,bi,aL,bO,bnd,bOr,bS,br,fB,toB,ai,ao,aa,ah,ac,fC,f1,f2,ixD,atD,vOr,cC,fH,fIf,bp,bz,fB1,fM,aG,bx,isN,cP,cQ,aO,bV,bT,bW,jS,q1,q2,mark]
def Jy:FnS:=(ar (aM (bS (fB (f2 cP (ac 5) (fC .non))) (br (fB (ai aD 2 (aa (f2 ixD (ac 1) (fC (.int 1))) (aa (ac 5) ah)))))) (ay (fC (.str "foreign"))) (fun ρ=>a_ (.nx ρ))) (ar (aM (bS (fB (f2 cP (ac 5) (fC .non))) (bS (fB (f2 neX (ac 5) (f2 ixD (ac 1) (fC (.int 1))))) (fB (f2 eqX (ai bE 2 (aa (ac 0) (aa (ac 5) ah))) (ac 5))))) (ay (fC (.str "open"))) (fun ρ=>a_ (.nx ρ))) (ar (aM (bS (fB (ac 9)) (br (fB (f2 ixD (ac 1) (fC (.int 0)))))) (ay (fC (.str "unsafe"))) (fun ρ=>a_ (.nx ρ))) (ar (aM (bS (fB (fM (jS A_) (ac 3) (aa (fC (.str "safe-")) ah))) (br (fB (ac 9)))) (ay (fC (.str "marked"))) (fun ρ=>a_ (.nx ρ))) (ar (aM (bS (fB (fM (jS A_) (ac 3) (aa (fC (.str "own-")) ah))) (br (bS (fB (ac 9)) (bS (fB (ac 11)) (fB (f2 eqX (ac 6) (fC (.str "/")))))))) (ay (fC (.str "marked"))) (fun ρ=>a_ (.nx ρ))) (ay (fIf (bS (fB (f2 eqX (ac 10) (fC (.str "near")))) (br (fB (ai bN 2 (aa (ac 0) (aa (ac 1) ah)))))) (fC (.str "far")) (fC .non))))))))
def exE:FnE:=(vOr (f2 isN (ac 5) (fC .non)) (cC (f2 eqX (ac 5) (f2 ixD (ac 1) (fC (.int 1)))) (f2 eqX (ai bE 2 (aa (ac 0) (aa (ac 5) ah))) (ac 5))))
theorem iP {a b:FnB} {ρ:Ev} {x y:Bool} (ha:a ρ=a_ (.ok x)) (hb:b ρ=a_ (.ok y)):bS a b ρ=a_ (.ok (x && y)):=by
 cases x
 · exact qC ha
 · rw [qB ha,hb]; rfl
theorem vD {c:FnB} {x:Dv} {rest:FnS} {ρ:Ev} {b:Bool} (hc:c ρ=a_ (.ok b)):ar (aM c (ay (fC x)) (fun ρ=>a_ (.nx ρ))) rest ρ=if b=c_ then a_ (.rt x) else rest ρ:=by
 cases b
 · rw [al (bA hc)]; rfl
 · exact kl (by rw [pI hc]; rfl)
theorem vE {pe ex fo op nr r s:Bool} (hP:eqX P (.str "/")=bo pe)
 (hX:exE [a_ (.tup t),a_ (akn s h p O),a_ (gvn nm w H P u l S R),a_ (.str nm),a_ (.str w),a_ H,a_ P,a_ u,a_ l,a_ (.bl S),a_ (.str R),ck]=bo ex)
 (hN:bN [.tup t,akn s h p O]=bo nr) (hr:eqX (.str R) (.str "near")=bo (!r))
 (hH:(H=.non∧fo=d_∧op=d_)∨∃ n q k m,H=.str n∧aD [.str h,.str n]=bo (!fo)∧neX (.str n) (.str h)=bo q∧bE [.tup t,.str n]=a_ (.ok (.str m))∧eqX (.str m) (.str n)=bo k∧op=(q && k)) :
 dF [.tup t,akn s h p O,gvn nm w H P u l S R]=a_ (.ok (word fo op (S && !s) (mark (A_ nm (b_ "safe-")) (A_ nm (b_ "own-")) S ex pe) (!r && !nr))):=by
 refine dI (d:=word fo op (S && !s) (mark (A_ nm (b_ "safe-")) (A_ nm (b_ "own-")) S ex pe) (!r && !nr)) ?_;show gk [a_ (.tup t),a_ (akn s h p O),a_ (gvn nm w H P u l S R),ck,ck,ck,ck,ck,ck,ck,ck,ck]=_;have eB:gk=(ar (oW [3,4,5,6] (cR (ac 2) cm (bP (fC (.int 4))))) (ar (oW [7,8,9,10] (cR (ac 2) (bP (fC (.int 4))) cm)) (ar (aL 11 exE) Jy))):=rfl;rw [eB];rw [al (ρ':=[a_ (.tup t),a_ (akn s h p O),a_ (gvn nm w H P u l S R),a_ (.str nm),a_ (.str w),a_ H,a_ P,ck,ck,ck,ck,ck]) (by kernel_rfl)];rw [al (ρ':=[a_ (.tup t),a_ (akn s h p O),a_ (gvn nm w H P u l S R),a_ (.str nm),a_ (.str w),a_ H,a_ P,a_ u,a_ l,a_ (.bl S),a_ (.str R),ck]) (by kernel_rfl)];rw [al (aI hX rfl)];simp only [KY,KW];generalize hE:([a_ (.tup t),a_ (akn s h p O),a_ (gvn nm w H P u l S R),a_ (.str nm),a_ (.str w),a_ H,a_ P,a_ u,a_ l,a_ (.bl S),a_ (.str R),a_ (.bl ex)]:Ev)=E;have v5:ac 5 E=a_ (.ok H):=by subst hE; rfl
 have v9:fB (ac 9) E=a_ (.ok S):=by subst hE; rfl
 have v11:fB (ac 11) E=a_ (.ok ex):=by subst hE; rfl
 have i0:fB (f2 ixD (ac 1) (fC (.int 0))) E=a_ (.ok s):=by subst hE; rfl
 have i1:f2 ixD (ac 1) (fC (.int 1)) E=a_ (.ok (.str h)):=by subst hE; rfl
 have v0:ac 0 E=a_ (.ok (.tup t)):=by subst hE; rfl
 have v1:ac 1 E=a_ (.ok (akn s h p O)):=by subst hE; rfl
 have v6:ac 6 E=a_ (.ok P):=by subst hE; rfl
 have v10:ac 10 E=a_ (.ok (.str R)):=by subst hE; rfl
 have st:∀ x,fB (fM (jS A_) (ac 3) (aa (fC (.str x)) ah)) E=a_ (.ok (A_ nm x)):=fun x=>by subst hE; rfl
 have c1:(bS (fB (f2 cP (ac 5) (fC .non))) (br (fB (ai aD 2 (aa (f2 ixD (ac 1) (fC (.int 1))) (aa (ac 5) ah)))))) E=a_ (.ok fo):=by
  rcases hH with ⟨rfl,rfl,rfl⟩ | ⟨n,q,k,m,rfl,h1,h2,h3,h4,rfl⟩
  · exact qC (bf ((aT v5 rfl).trans rfl))
  · rw [qB (bf ((aT v5 rfl).trans rfl)),jv (bf (fW aD i1 v5 h1)),OE]
 have c2:(bS (fB (f2 cP (ac 5) (fC .non))) (bS (fB (f2 neX (ac 5) (f2 ixD (ac 1) (fC (.int 1))))) (fB (f2 eqX (ai bE 2 (aa (ac 0) (aa (ac 5) ah))) (ac 5))))) E=a_ (.ok op):=by
  rcases hH with ⟨rfl,rfl,rfl⟩ | ⟨n,q,k,m,rfl,h1,h2,h3,h4,rfl⟩
  · exact qC (bf ((aT v5 rfl).trans rfl))
  · rw [qB (bf ((aT v5 rfl).trans rfl))];exact iP (bf ((aT v5 i1).trans h2)) (bf ((aT (fW bE v0 v5 h3) v5).trans h4))
 have c3:=iP v9 (jv i0);have c4:=iP (st "safe-") (jv v9);have c5:=iP (st "own-") (jv (iP v9 (iP v11 (bf ((aT v6 (rfl:fC (.str "/") E=_)).trans hP)))));have c6:=iP (bf ((aT v10 (rfl:fC (.str "near") E=_)).trans hr)) (jv (bf (fW bN v0 v1 hN)));unfold Jy;rw [vD c1,vD c2,vD c3,vD c4,vD c5];have c7:(ay (fIf (bS (fB (f2 eqX (ac 10) (fC (.str "near")))) (br (fB (ai bN 2 (aa (ac 0) (aa (ac 1) ah)))))) (fC (.str "far")) (fC .non))) E=a_ (.rt (if (!r && !nr)=c_ then .str "far" else .non)):=by
  refine di ?_;cases hb:(!r && !nr) with
  | true=>rw [hb] at c6; rw [Dz c6]; rfl
  | false=>rw [hb] at c6; rw [DA c6]; rfl
 rw [c7];unfold word mark;cases fo <;> cases op <;> cases (S && !s) <;> cases (A_ nm (b_ "safe-") && !S) <;> cases (A_ nm (b_ "own-") && !(S && (ex && pe))) <;> cases (!r && !nr) <;> rfl
structure Wt (t:List Dv) (h p:Str) (O:Dv) (nm w:Str) (H P u l:Dv) (S:Bool) (R:Str) (s:Bool) (house path:Str) (ex:Bool) (wd:Dv):Prop where
 hs:house∈En
 ph:path∈pths
 win:wd=.non∨∃ x∈["foreign","open","unsafe","marked","far"],wd=.str (b_ x)
 why:aP [.tup t,akn s h p O,gvn nm w H P u l S R]=a_ (.ok wd)
 law:dF [.tup t,akn s h p O,gvn nm w H P u l S R]=a_ (.ok wd)
 hf:fz [akn s h p O,gvn nm w H P u l S R]=a_ (.ok (.str house))
 hl:(H=.non∧house=h)∨H=.str house
 ix:cT [.tup t,akn s h p O,gvn nm w H P u l S R]=bo ex
 lx:exE [a_ (.tup t),a_ (akn s h p O),a_ (gvn nm w H P u l S R),a_ (.str nm),a_ (.str w),a_ H,a_ P,a_ u,a_ l,a_ (.bl S),a_ (.str R),ck]=bo ex
 pf:el [akn s h p O,gvn nm w H P u l S R]=a_ (.ok (.str path))
 pl:(P=.non∧lH [ck,a_ (.tup [.non,.non,.str p])]=a_ (.ok (.str path)))∨P=.str path
theorem vF (fo op un mk fr:Bool):word fo op un mk fr=.non∨∃ x∈["foreign","open","unsafe","marked","far"],word fo op un mk fr=.str (b_ x):=by
 cases fo <;> cases op <;> cases un <;> cases mk <;> cases fr <;> first | exact .inl rfl | exact .inr ⟨"foreign",by simp,rfl⟩ | exact .inr ⟨"open",by simp,rfl⟩ | exact .inr ⟨"unsafe",by simp,rfl⟩ | exact .inr ⟨"marked",by simp,rfl⟩ | exact .inr ⟨"far",by simp,rfl⟩
theorem Iz (ht:t∈j4 rules) (a:Ak h p O) (g:Gv nm w H P u l S R) (s:Bool):∃ house path ex wd,Wt t h p O nm w H P u l S R s house path ex wd:=by
 obtain ⟨nr,hN⟩:=Fj ht a;obtain ⟨_,r,r2⟩:=mM g.r;have hP:∃ pe,eqX P (.str "/")=bo pe:=by
  rcases g.pp with rfl | ⟨q,_,rfl⟩
  · exact ⟨d_,rfl⟩
  · exact ⟨_,rfl⟩
 obtain ⟨pe,hP⟩:=hP;have hpath:∃ path∈pths,el [akn s h p O,gvn nm w H P u l S R]=a_ (.ok (.str path))∧((P=.non∧lH [ck,a_ (.tup [.non,.non,.str p])]=a_ (.ok (.str path)))∨P=.str path):=by
  rcases g.pp with rfl | ⟨q,hq,rfl⟩
  · obtain ⟨f,hf,k2,k3⟩:=Jw a.p;exact ⟨f,hf,by simp [el,fT,fD,ar,sq,aM,ay,bg,bO,bnd,fB,toB,ao,aa,ah,ac,fC,f2,ixD,atD,isN,k2],.inl ⟨rfl,k3⟩⟩
  · exact ⟨q,hq,by simp [el,fT,fD,ar,sq,aM,ay,bg,bi,aL,bO,bnd,bOr,bS,br,fB,toB,ai,ao,aa,ah,ac,fC,f1,f2,ixD,atD,vOr,cC,fH,fIf,bp,bz,fB1,fM,aG,bx,isN,cP,cQ,aO,bV,bT,bW],.inr rfl⟩
 obtain ⟨path,hpm,hpf,hpl⟩:=hpath;rcases g.hh with rfl | ⟨n,hn,rfl⟩
 · have hW:cT [.tup t,akn s h p O,gvn nm w .non P u l S R]=bo c_:=by simp [cT,bt,gg,ar,sq,aM,ay,bg,bi,aL,bO,bnd,bOr,bS,br,fB,toB,ai,ao,aa,ah,ac,fC,f1,f2,ixD,atD,vOr,cC,fH,fIf,bp,bz,fB1,fM,aG,bx,isN,cP,cQ,aO,bV,bT,bW]
   have hX:exE [a_ (.tup t),a_ (akn s h p O),a_ (gvn nm w .non P u l S R),a_ (.str nm),a_ (.str w),a_ .non,a_ P,a_ u,a_ l,a_ (.bl S),a_ (.str R),ck]=bo c_:=by simp [exE,ar,sq,aM,ay,bg,bi,aL,bO,bnd,bOr,bS,br,fB,toB,ai,ao,aa,ah,ac,fC,f1,f2,ixD,atD,vOr,cC,fH,fIf,bp,bz,fB1,fM,aG,bx,isN,cP,cQ,aO,bV,bT,bW]
   have k1:=word_of (fo:=d_) (op:=d_) ht a g (vC g.nm hP hW) (hN s).1 r2 (.inl ⟨rfl,rfl,rfl⟩);have k2:=vE (fo:=d_) (op:=d_) hP hX (hN s).2 r2 (.inl ⟨rfl,rfl,rfl⟩);rw [OE] at k1;exact ⟨h,path,c_,_,a.h,hpm,vF _ _ _ _ _,k1,k2,by simp [fz,bt,fw,ar,sq,aM,ay,bg,bi,aL,bO,bnd,bOr,bS,br,fB,toB,ai,ao,aa,ah,ac,fC,f1,f2,ixD,atD,vOr,cC,fH,fIf,bp,bz,fB1,fM,aG,bx,isN,cP,cQ,aO,bV,bT,bW],.inl ⟨rfl,rfl⟩,hW,hX,hpf,hpl⟩
 · obtain ⟨m,o,hm,hm',_,_,_⟩:=Bn ht hn;obtain ⟨wi,hwi,hwi'⟩:=Jv (a.h) hn;have hop:gf [.tup t,.str n]=bo (seq m n):=by simp [gf,bt,jf,ar,sq,aM,ay,bg,bi,aL,bO,bnd,bOr,bS,br,fB,toB,ai,ao,aa,ah,ac,fC,f1,f2,ixD,atD,vOr,cC,fH,fIf,bp,bz,fB1,fM,aG,bx,isN,cP,cQ,aO,bV,bT,bW,hm,eqX,eqS]
   have hW:cT [.tup t,akn s h p O,gvn nm w (.str n) P u l S R]=bo (seq n h && seq m n):=by
    simp [cT,bt,gg,ar,sq,aM,ay,bg,bi,aL,bO,bnd,bOr,bS,br,fB,toB,ai,ao,aa,ah,ac,fC,f1,f2,ixD,atD,vOr,cC,fH,fIf,bp,bz,fB1,fM,aG,bx,isN,cP,cQ,aO,bV,bT,bW,hop,eqX,eqS];cases seq n h <;> simp [ar,sq,aM,ay,bg,bi,aL,bO,bnd,bOr,bS,br,fB,toB,ai,ao,aa,ah,ac,fC,f1,f2,ixD,atD,vOr,cC,fH,fIf,bp,bz,fB1,fM,aG,bx,isN,cP,cQ,aO,bV,bT,bW]
   have hX:exE [a_ (.tup t),a_ (akn s h p O),a_ (gvn nm w (.str n) P u l S R),a_ (.str nm),a_ (.str w),a_ (.str n),a_ P,a_ u,a_ l,a_ (.bl S),a_ (.str R),ck]=bo (seq n h && seq m n):=by
    simp [exE,ar,sq,aM,ay,bg,bi,aL,bO,bnd,bOr,bS,br,fB,toB,ai,ao,aa,ah,ac,fC,f1,f2,ixD,atD,vOr,cC,fH,fIf,bp,bz,fB1,fM,aG,bx,isN,cP,cQ,aO,bV,bT,bW,hm',eqX,eqS];cases seq n h <;> simp [ar,sq,aM,ay,bg,bi,aL,bO,bnd,bOr,bS,br,fB,toB,ai,ao,aa,ah,ac,fC,f1,f2,ixD,atD,vOr,cC,fH,fIf,bp,bz,fB1,fM,aG,bx,isN,cP,cQ,aO,bV,bT,bW]
   have k1:=word_of (fo:=!wi) (op:=!seq n h && seq m n) ht a g (vC g.nm hP hW) (hN s).1 r2 (.inr ⟨n,!seq n h,seq m n,rfl,by rw [hwi,OE],by simp [neX,eqS],hop,rfl⟩);have k2:=vE (fo:=!wi) (op:=!seq n h && seq m n) hP hX (hN s).2 r2 (.inr ⟨n,!seq n h,seq m n,m,rfl,by rw [hwi',OE],by simp [neX,eqS],hm',rfl,rfl⟩);rw [OE] at k1;exact ⟨n,path,_,_,hn,hpm,vF _ _ _ _ _,k1,k2,by simp [fz,bt,fw,ar,sq,aM,ay,bg,bi,aL,bO,bnd,bOr,bS,br,fB,toB,ai,ao,aa,ah,ac,fC,f1,f2,ixD,atD,vOr,cC,fH,fIf,bp,bz,fB1,fM,aG,bx,isN,cP,cQ,aO,bV,bT,bW],.inr rfl,hW,hX,hpf,hpl⟩
end
theorem gE (a b:Str):(a ++ b).length=a.length + b.length:=O8
theorem mO (a b c:Str):a ++ b ++ c=a ++ (b ++ c):=by
 show Str.mk (a.cps ++ b.cps ++ c.cps)=Str.mk (a.cps ++ (b.cps ++ c.cps));rw [OX]
theorem Fp (a:Str):a ++ b_ ""=a:=by
 show Str.mk (a.cps ++ #[])=a;rw [Array.append_empty]
def step (t:Str) (o:Option Str):Str:=match o with
 | none=>t
 | some y=>t ++ b_ "; " ++ y
theorem jm (t:Str) (o:Option Str) (B:Nat) (h:∀ y,o=a_ y→y.length≤B):(step t o).length≤t.length + 2 + B:=by
 cases o with
 | none=>show t.length≤_; omega
 | some y =>
  have:=h y rfl;show (t ++ b_ "; " ++ y).length≤_;rw [gE,gE];have e:(b_ "; ").length=2:=by decide
  omega
theorem kY (sep:Str):∀ (l:List Str) (x:Str),Nk sep (x :: l)=l.foldl (fun t y=>t ++ sep ++ y) x
 | [],x=>rfl
 | y :: l,x=>kY sep l (x ++ sep ++ y)
theorem il (t:Str) (o:Option Str) (l:List Str):(o.toList ++ l).foldl (fun t y=>t ++ b_ "; " ++ y) t=l.foldl (fun t y=>t ++ b_ "; " ++ y) (step t o):=by
 cases o <;> rfl
def eS:Option Str→Dv
 | none=>.non
 | some x=>.str x
def eO:Option Int→Dv
 | none=>.non
 | some x=>.int x
def is (i:Int):Str:=b_ (QX i)
theorem zc {i:Int} (h0:0≤i) (h1:i≤9999):(is i).length≤10001:=by
 have:=PyProof.Rows.len_str_of_int i;unfold is;omega
theorem IA {i:Int} (h0:0≤i) (h1:i≤9999):BN [.int i]=a_ (.ok (.str (is i))):=by
 show (if i.natAbs.log2 < 1920 then _ else ck)=_;rw [if_pos]
 · rfl
 · have e:i.natAbs < 2 ^ 1920:=H_ (show i.natAbs < 2 ^ 14 by omega) (Nat.pow_le_pow_right (by decide) (by decide));by_cases z:i.natAbs=0
   · rw [z]; decide
   · exact (Nat.log2_lt z).mpr e
structure Vv (nm w:Str) (h p:Option Str) (u l:Option Int) (R:Str):Prop where
 nm:nm.length≤50
 w:w.length≤50
 h:∀ x,h=a_ x→x.length≤50
 p:∀ x,p=a_ x→x.length≤50
 u:∀ i,u=a_ i→0≤i∧i≤9999
 l:∀ i,l=a_ i→0≤i∧i≤9999
abbrev gv (nm w:Str) (h p:Option Str) (u l:Option Int) (S:Bool) (R:Str):Dv:=.tup [.str nm,.str w,eS h,eS p,eO u,eO l,.bl S,.str R]
def oS (pre:String) (h:Option Str):Option Str:=h.map fun x=>b_ pre ++ x
def oI (pre:String) (h:Option Int):Option Str:=h.map fun x=>b_ pre ++ is x
def oB (x:String) (b:Bool):Option Str:=if b then a_ (b_ x) else ck
def Tz0 (nm w:Str):Str:=nm ++ b_ "=" ++ w
def jL (R:Str):Bool:=seq R (b_ "near")
def T (nm w:Str) (h p:Option Str) (u l:Option Int) (S:Bool) (R:Str):Str:=step (step (step (step (step (step (Tz0 nm w) (oS "for " h)) (oS "under " p)) (oI "until " u)) (oI "lasts " l)) (oB "safe" S)) (oB "near" (jL R))
theorem IB {x y:Str} (h:x.length + y.length≤100000):cZ (.str x) (.str y)=a_ (.ok (.str (x ++ y))):=by
 show (if x.length + y.length≤100000 then _ else ck)=_;rw [if_pos h]
theorem jX {x y:Str} (h:x.length + y.length≤100000):bZ (.str x) (.str y)=a_ (.ok (.str (x ++ y))):=IB h
theorem lI (o:Option Str):o.toList.length≤1:=by cases o <;> simp
section
variable {nm w:Str} {h p:Option Str} {u l:Option Int} {S:Bool} {R:Str}
theorem Jz {pre:String} (hp:(b_ pre).length≤10) (hh:∀ x,h=a_ x→x.length≤50):∀ y,oS pre h=a_ y→y.length≤60:=by
 intro y hy;cases h with
 | none=>cases hy
 | some x=>cases hy; rw [gE]; have:=hh x rfl; omega
theorem JA {pre:String} (hp:(b_ pre).length≤10) (hh:∀ x,u=a_ x→0≤x∧x≤9999):∀ y,oI pre u=a_ y→y.length≤10020:=by
 intro y hy;cases u with
 | none=>cases hy
 | some x=>cases hy; rw [gE]; have:=zc (hh x rfl).1 (hh x rfl).2; omega
theorem Kv {x:String} {b:Bool} (hp:(b_ x).length≤10):∀ y,oB x b=a_ y→y.length≤60:=by
 intro y hy;cases b with
 | false=>cases hy
 | true=>cases hy; omega
end
theorem yg {f:FnE} {ρ:Ev} {d:Dv} (h:f ρ=a_ (.ok d)):ay f ρ=a_ (.rt d):=by unfold ay; rw [h]; rfl
section
variable {nm w:Str} {h p:Option Str} {u l:Option Int} {S:Bool} {R:Str}
def EL (nm w:Str) (h p:Option Str) (u l:Option Int) (S:Bool) (R:Str) (t:Str) (a b:Option Dv):Ev:=[a_ (gv nm w h p u l S R),a_ (.str nm),a_ (.str w),a_ (eS h),a_ (eS p),a_ (eO u),a_ (eO l),a_ (.bl S),a_ (.str R),a_ (.str t),a,b]
theorem oH {t wd:Str} {a b:Option Dv} {ds:List Dv}:ip (gP 10 11) [11,10] aN (.tup [.str wd,.non] :: ds) (EL nm w h p u l S R t a b)=ip (gP 10 11) [11,10] aN ds (EL nm w h p u l S R t (a_ (.str wd)) (a_ .non)):=rfl
theorem lJ {t wd y:Str} {d:Dv} {a b:Option Dv} {ds:List Dv} (hn:cP d .non=bo c_) (hs:BQ [d]=a_ (.ok (.str y))) (hl:t.length + 2 + wd.length + 1 + y.length≤100000) :
 ip (gP 10 11) [11,10] aN (.tup [.str wd,d] :: ds) (EL nm w h p u l S R t a b)=ip (gP 10 11) [11,10] aN ds (EL nm w h p u l S R (t ++ b_ "; " ++ wd ++ b_ " " ++ y) (a_ (.str wd)) (a_ d)):=by
 have e2:(b_ "; ").length=2:=by decide
 have e1:(b_ " ").length=1:=by decide
 have hb:aN (EL nm w h p u l S R t (a_ (.str wd)) (a_ d))=a_ (.nx (EL nm w h p u l S R (t ++ b_ "; " ++ wd ++ b_ " " ++ y) (a_ (.str wd)) (a_ d))):=by
  have c:fB (f2 cP (ac 11) (fC .non)) (EL nm w h p u l S R t (a_ (.str wd)) (a_ d))=a_ (.ok c_):=bf hn;have z:f2 bZ (f2 bZ (f2 bZ (f2 bZ (ac 9) (fC (.str "; "))) (ac 10)) (fC (.str " "))) (fB1 BQ (aa (ac 11) ah)) (EL nm w h p u l S R t (a_ (.str wd)) (a_ d))=a_ (.ok (.str (t ++ b_ "; " ++ wd ++ b_ " " ++ y))):=by
   refine (aT ((aT ((aT ((aT (x:=.str t) (y:=.str "; ") rfl rfl).trans (jX (by omega))) (y:=.str wd) rfl).trans (jX (by rw [gE]; omega))) (y:=.str " ") rfl).trans (jX (by rw [gE,gE]; omega))) ((eY (ae (x:=d) rfl aw)).trans hs)).trans ?_;exact jX (by rw [gE,gE,gE]; omega)
  unfold aN aM;rw [c];exact aI z rfl
 show (match aN (EL nm w h p u l S R t (a_ (.str wd)) (a_ d)) with
  | some (.nx ρ')=>ip (gP 10 11) [11,10] aN ds ρ'
  | o=>o)=_
 rw [hb]
theorem zd (t wd wd' y:Str) (hw:wd ++ b_ " "=wd'):t ++ b_ "; " ++ wd ++ b_ " " ++ y=t ++ b_ "; " ++ (wd' ++ y):=by
 rw [mO (t ++ b_ "; ") wd,hw,mO (t ++ b_ "; ") wd']
theorem Fq {t wd wd':Str} {o:Option Str} {a b:Option Dv} {ds:List Dv} (hw:wd ++ b_ " "=wd') (ho:∀ x,o=a_ x→x.length≤50) (hl:t.length≤80000) (hwl:wd.length≤10) :
 ∃ a' b',ip (gP 10 11) [11,10] aN (.tup [.str wd,eS o] :: ds) (EL nm w h p u l S R t a b)=ip (gP 10 11) [11,10] aN ds (EL nm w h p u l S R (step t (o.map fun x=>wd' ++ x)) a' b'):=by
 cases o with
 | none=>exact ⟨_,_,oH⟩
 | some x =>
  have:=ho x rfl;refine ⟨a_ (.str wd),a_ (.str x),(lJ (d:=.str x) (y:=x) rfl rfl (by omega)).trans ?_⟩;rw [zd t wd wd' x hw]; rfl
theorem Fs {t wd wd':Str} {o:Option Int} {a b:Option Dv} {ds:List Dv} (hw:wd ++ b_ " "=wd') (ho:∀ x,o=a_ x→0≤x∧x≤9999) (hl:t.length≤80000) (hwl:wd.length≤10) :
 ∃ a' b',ip (gP 10 11) [11,10] aN (.tup [.str wd,eO o] :: ds) (EL nm w h p u l S R t a b)=ip (gP 10 11) [11,10] aN ds (EL nm w h p u l S R (step t (o.map fun x=>wd' ++ is x)) a' b'):=by
 cases o with
 | none=>exact ⟨_,_,oH⟩
 | some x =>
  have:=ho x rfl;have:=zc this.1 this.2;have e:BQ [.int x]=a_ (.ok (.str (is x))):=IA (ho x rfl).1 (ho x rfl).2;refine ⟨a_ (.str wd),a_ (.int x),(lJ (d:=.int x) (y:=is x) rfl e (by omega)).trans ?_⟩;rw [zd t wd wd' (is x) hw]; rfl
theorem Bq (v:Vv nm w h p u l R):gD [gv nm w h p u l S R]=a_ (.ok (.str (T nm w h p u l S R))):=by
 have l1:=v.nm;have l2:=v.w;have lq:(b_ "=").length=1:=by decide
 have b0:(Tz0 nm w).length≤200:=by unfold Tz0; rw [gE,gE]; omega
 have b1:=jm (Tz0 nm w) (oS "for " h) 60 (Jz (by decide) v.h);have b2:=jm (step (Tz0 nm w) (oS "for " h)) (oS "under " p) 60 (Jz (by decide) v.p);have b3:=jm (step (step (Tz0 nm w) (oS "for " h)) (oS "under " p)) (oI "until " u) 10020 (JA (by decide) v.u);have b4:=jm (step (step (step (Tz0 nm w) (oS "for " h)) (oS "under " p)) (oI "until " u)) (oI "lasts " l) 10020 (JA (by decide) v.l);obtain ⟨a1,c1,e1⟩:=Fq (nm:=nm) (w:=w) (h:=h) (p:=p) (u:=u) (l:=l) (S:=S) (R:=R) (t:=Tz0 nm w) (wd:=b_ "for") (wd':=b_ "for ") (o:=h) (a:=ck) (b:=ck) (ds:=[.tup [.str "under",eS p],.tup [.str "until",eO u],.tup [.str "lasts",eO l]]) (by kernel_rfl) v.h (by omega) (by decide);obtain ⟨a2,c2,e2⟩:=Fq (nm:=nm) (w:=w) (h:=h) (p:=p) (u:=u) (l:=l) (S:=S) (R:=R) (t:=step (Tz0 nm w) (oS "for " h)) (wd:=b_ "under") (wd':=b_ "under ") (o:=p) (a:=a1) (b:=c1) (ds:=[.tup [.str "until",eO u],.tup [.str "lasts",eO l]]) (by kernel_rfl) v.p (by omega) (by decide);obtain ⟨a3,c3,e3⟩:=Fs (nm:=nm) (w:=w) (h:=h) (p:=p) (u:=u) (l:=l) (S:=S) (R:=R) (t:=step (step (Tz0 nm w) (oS "for " h)) (oS "under " p)) (wd:=b_ "until") (wd':=b_ "until ") (o:=u) (a:=a2) (b:=c2) (ds:=[.tup [.str "lasts",eO l]]) (by kernel_rfl) v.u (by omega) (by decide);obtain ⟨a4,c4,e4⟩:=Fs (nm:=nm) (w:=w) (h:=h) (p:=p) (u:=u) (l:=l) (S:=S) (R:=R) (t:=step (step (step (Tz0 nm w) (oS "for " h)) (oS "under " p)) (oI "until " u)) (wd:=b_ "lasts") (wd':=b_ "lasts ") (o:=l) (a:=a3) (b:=c3) (ds:=[]) (by kernel_rfl) v.l (by omega) (by decide)
 let t4:Str:=step (step (step (step (Tz0 nm w) (oS "for " h)) (oS "under " p)) (oI "until " u)) (oI "lasts " l)
 have t4l:t4.length≤90000:=by show (step (step (step (step (Tz0 nm w) (oS "for " h)) (oS "under " p)) (oI "until " u)) (oI "lasts " l)).length≤_; omega
 have hloop:ip (gP 10 11) [11,10] aN [.tup [.str "for",eS h],.tup [.str "under",eS p],.tup [.str "until",eO u],.tup [.str "lasts",eO l]] (EL nm w h p u l S R (Tz0 nm w) ck ck)=a_ (.nx (EL nm w h p u l S R t4 ck ck)) :=
  e1.trans (e2.trans (e3.trans (e4.trans rfl)))
 have hsrc:(fun ρ=>bnd ((aa (bp (aa (fC (.str "for")) (aa (fC (.str "under")) (aa (fC (.str "until")) (aa (fC (.str "lasts")) ah))))) (aa (cR (ac 0) (bP (fC (.int 2))) (bP (fC (.int 6)))) ah)) ρ) BP) (EL nm w h p u l S R (Tz0 nm w) ck ck)=a_ (.ok [.tup [.str "for",eS h],.tup [.str "under",eS p],.tup [.str "until",eO u],.tup [.str "lasts",eO l]]):=by kernel_rfl
 have v9:f2 bZ (f2 bZ (ac 1) (fC (.str "="))) (ac 2) [a_ (gv nm w h p u l S R),a_ (.str nm),a_ (.str w),a_ (eS h),a_ (eS p),a_ (eO u),a_ (eO l),a_ (.bl S),a_ (.str R),ck,ck,ck]=a_ (.ok (.str (Tz0 nm w))) :=
  (aT ((aT (x:=.str nm) (y:=.str "=") rfl rfl).trans (jX (by omega))) (y:=.str w) rfl).trans (jX (by rw [gE]; omega))
 have f1:fIf (fB (ac 7)) (fC (.str "; safe")) (fC (.str "")) (EL nm w h p u l S R t4 ck ck)=a_ (.ok (.str (if S then b_ "; safe" else b_ ""))):=by cases S <;> rfl
 have g1:t4 ++ (if S then b_ "; safe" else b_ "")=step t4 (oB "safe" S):=by
  cases S
  · exact Fp t4
  · show t4 ++ b_ "; safe"=t4 ++ b_ "; " ++ b_ "safe";rw [mO];rfl
 have b5:=jm t4 (oB "safe" S) 60 (Kv (by decide));have z1:f2 bZ (ac 9) (fIf (fB (ac 7)) (fC (.str "; safe")) (fC (.str ""))) (EL nm w h p u l S R t4 ck ck)=a_ (.ok (.str (step t4 (oB "safe" S)))):=by
  rw [← g1];refine (aT (x:=.str t4) rfl f1).trans (jX ?_);have:(if S then b_ "; safe" else b_ "").length≤10:=by cases S <;> decide
  omega
 have f2':fIf (fB (f2 eqX (ac 8) (fC (.str "near")))) (fC (.str "; near")) (fC (.str "")) (EL nm w h p u l S R t4 ck ck)=a_ (.ok (.str (if jL R then b_ "; near" else b_ ""))):=by
  have c:fB (f2 eqX (ac 8) (fC (.str "near"))) (EL nm w h p u l S R t4 ck ck)=a_ (.ok (jL R)):=rfl;unfold fIf;rw [c];cases jL R <;> rfl
 have g2:∀ t:Str,t ++ (if jL R then b_ "; near" else b_ "")=step t (oB "near" (jL R)):=by
  intro t;cases jL R
  · exact Fp t
  · show t ++ b_ "; near"=t ++ b_ "; " ++ b_ "near";rw [mO];rfl
 have z2:(f2 bZ (f2 bZ (ac 9) (fIf (fB (ac 7)) (fC (.str "; safe")) (fC (.str "")))) (fIf (fB (f2 eqX (ac 8) (fC (.str "near")))) (fC (.str "; near")) (fC (.str "")))) (EL nm w h p u l S R t4 ck ck)=a_ (.ok (.str (T nm w h p u l S R))):=by
  refine (aT z1 f2').trans ((jX ?_).trans ?_)
  · have:(if jL R then b_ "; near" else b_ "").length≤10:=by cases jL R <;> decide
    omega
  · rw [g2]; rfl
 refine dI ?_;show fF [a_ (gv nm w h p u l S R),ck,ck,ck,ck,ck,ck,ck,ck,ck,ck,ck]=_;unfold fF;rw [al (show oW [1,2,3,4] (cR (ac 0) cm (bP (fC (.int 4)))) [a_ (gv nm w h p u l S R),ck,ck,ck,ck,ck,ck,ck,ck,ck,ck,ck]=a_ (.nx [a_ (gv nm w h p u l S R),a_ (.str nm),a_ (.str w),a_ (eS h),a_ (eS p),ck,ck,ck,ck,ck,ck,ck]) by kernel_rfl)];rw [al (show oW [5,6,7,8] (cR (ac 0) (bP (fC (.int 4))) cm) [a_ (gv nm w h p u l S R),a_ (.str nm),a_ (.str w),a_ (eS h),a_ (eS p),ck,ck,ck,ck,ck,ck,ck]=a_ (.nx [a_ (gv nm w h p u l S R),a_ (.str nm),a_ (.str w),a_ (eS h),a_ (eS p),a_ (eO u),a_ (eO l),a_ (.bl S),a_ (.str R),ck,ck,ck]) by kernel_rfl)];rw [al (aI (ρ':=EL nm w h p u l S R (Tz0 nm w) ck ck) v9 rfl)];have hfor:pE (gP 10 11) [11,10] (fun ρ=>bnd ((aa (bp (aa (fC (.str "for")) (aa (fC (.str "under")) (aa (fC (.str "until")) (aa (fC (.str "lasts")) ah))))) (aa (cR (ac 0) (bP (fC (.int 2))) (bP (fC (.int 6)))) ah)) ρ) BP) aN (EL nm w h p u l S R (Tz0 nm w) ck ck)=a_ (.nx (EL nm w h p u l S R t4 ck ck)):=by
  unfold pE;rw [hsrc];exact hloop
 rw [al hfor];exact yg z2
end
def oJ (p:Str):Option (Nat×Dv):=match aZ [.str p] with
 | some (.ok (.tup [.int k,d]))=>a_ (k.toNat,d)
 | _=>ck
def eT:Option (Nat×Dv)→Dv
 | none=>.non
 | some (k,d)=>.tup [.int k,d]
def okT (p:Str):Bool:=match aZ [.str p] with
 | some (.ok .non)=>c_
 | some (.ok (.tup [.int k,_]))=>q_ (2≤k) && q_ (k < 8)
 | _=>d_
theorem Br {p:Str} (h:okT p=c_):aZ [.str p]=a_ (.ok (eT (oJ p)))∧∀ k d,oJ p=a_ (k,d)→2≤k∧k < 8:=by
 unfold okT at h;unfold oJ;split at h
 · rename_i e; rw [e]; exact ⟨rfl,fun k d z=>by cases z⟩
 · rename_i k d e;rw [e];rw [n_,decide_eq_true_eq,decide_eq_true_eq] at h;refine ⟨?_,fun k' d' z=>?_⟩
   · show _=a_ (Rs.ok (Dv.tup [.int (k.toNat:Int),d]));rw [Int.toNat_of_nonneg (by omega)]
   · cases z; omega
 · cases h
def blk:Str:=b_ " "
def bl2:Str:=b_ "  "
def gm (pre p post:Str):Bool:=seq (Mr (pre ++ p ++ post) blk) p && !((pre ++ p ++ post).cps.toList.contains 59)
def emp:Str:=b_ ""
def okS (p:Str):Bool:=gm emp p emp && (gm blk p emp && (gm bl2 p bl2 && (gm emp p bl2 && (gm bl2 p emp && q_ (p.length≤200)))))
def JB (p:Str):Bool:=okT p && okS p
def Kw:List Str:=[b_ "x=y",b_ "until",b_ "for A",b_ "under b",b_ "lasts 99999",b_ "SAFE",b_ "",b_ "safe near",b_ "until  7"]
def Ft:List Str:=[b_ "until 17",b_ "under /q",b_ "lasts 4",b_ "for q.r"]
def oK (n:Nat):List Int:=(s_ n).map fun i:Nat=>(i:Int)
def allP:List Str:=En.map (fun h=>b_ "for " ++ h) ++ (pths.map (fun h=>b_ "under " ++ h) ++ ((oK 60).map (fun i=>b_ "until " ++ is i) ++ ((oK 30).map (fun i=>b_ "lasts " ++ is i) ++ ([b_ "safe",b_ "near"] ++ (Kw ++ Ft)))))
theorem Bs:allP.all JB=c_:=by kernel_rfl
theorem Fu:(En.all fun h=>match aZ [.str (b_ "for " ++ h)] with | some (.ok (.tup [.int 2,.str z]))=>seq z h | _=>d_)=c_:=by kernel_rfl
theorem Fv:(pths.all fun h=>match aZ [.str (b_ "under " ++ h)] with | some (.ok (.tup [.int 3,.str z]))=>seq z h | _=>d_)=c_:=by kernel_rfl
theorem Fw:((oK 60).all fun i=>match aZ [.str (b_ "until " ++ is i)] with | some (.ok (.tup [.int 4,.int z]))=>z == i | _=>d_)=c_:=by kernel_rfl
theorem Fx:((oK 30).all fun i=>match aZ [.str (b_ "lasts " ++ is i)] with | some (.ok (.tup [.int 5,.int z]))=>z == i | _=>d_)=c_:=by kernel_rfl
theorem IC {h:Str} (q:h∈En):oJ (b_ "for " ++ h)=a_ (2,.str h):=by
 have z:=ba Fu q;unfold oJ;split at z
 · rename_i y e; rw [e]; rw [dh z]; rfl
 · cases z
theorem ID {h:Str} (q:h∈pths):oJ (b_ "under " ++ h)=a_ (3,.str h):=by
 have z:=ba Fv q;unfold oJ;split at z
 · rename_i y e; rw [e]; rw [dh z]; rfl
 · cases z
theorem IE {i:Int} (q:i∈oK 60):oJ (b_ "until " ++ is i)=a_ (4,.int i):=by
 have z:=ba Fw q;unfold oJ;split at z
 · rename_i y e; rw [e]; rw [show y=i by simpa using z]; rfl
 · cases z
theorem IF {i:Int} (q:i∈oK 30):oJ (b_ "lasts " ++ is i)=a_ (5,.int i):=by
 have z:=ba Fx q;unfold oJ;split at z
 · rename_i y e; rw [e]; rw [show y=i by simpa using z]; rfl
 · cases z
theorem Fy:oJ (b_ "safe")=a_ (6,.bl c_):=by kernel_rfl
theorem Fz:oJ (b_ "near")=a_ (7,.str "near"):=by kernel_rfl
def put (ds:List Dv) (p:Str):List Dv:=match oJ p with
 | none=>ds
 | some (k,d)=>ds.set k d
theorem Bt (ds:List Dv) (p:Str):(put ds p).length=ds.length:=by
 unfold put; split <;> simp
theorem oM:∀ l:List Str,imms (l.map Dv.str)=c_
 | []=>rfl
 | x :: l=>by show (imm (.str x) && imms (l.map Dv.str))=c_; rw [oM l]; rfl
def ER (x:Str) (L T3:Dv) (a b:Option Dv):Ev:=[a_ (.str x),a_ L,a_ T3,ck,a,b]
theorem Bu {x p:Str} {L T3:Dv} {b:Option Dv} {ds:List Dv} (h:okT p=c_) (hl:ds.length=8):∃ b',bG (ER x L T3 (a_ (.str p)) b) ds=a_ (.nx (ER x L T3 (a_ (.str p)) b') (put ds p)):=by
 obtain ⟨e,hk⟩:=Br h;refine ⟨a_ (eT (oJ p)),?_⟩;have e1:et 5 (ai aZ 1 (aa (ac 4) ah)) (ER x L T3 (a_ (.str p)) b) ds=a_ (.nx (ER x L T3 (a_ (.str p)) (a_ (eT (oJ p)))) ds):=by
  unfold et;rw [jw aZ (f:=ac 4) (ρ:=ER x L T3 (a_ (.str p)) b) (a:=.str p) rfl e];rfl
 unfold bG;show (match et 5 (ai aZ 1 (aa (ac 4) ah)) (ER x L T3 (a_ (.str p)) b) ds with
  | some (.nx ρ' ds')=>(oIf (fB (f2 cP (ac 5) (fC .non))) (qP (f2 ixD (ac 5) (fC (.int 0))) (f2 ixD (ac 5) (fC (.int 1)))) oX) ρ' ds'
  | o=>o)=_
 rw [e1];unfold put
 match ht:oJ p with
 | none=>rfl
 | some (k,d) =>
  have:=hk k d ht;show (if 0≤(k:Int)∧(k:Int) < ds.length then a_ (Fo.nx (ER x L T3 (a_ (.str p)) (a_ (.tup [.int k,d]))) (ds.set (k:Int).toNat d)) else ck)=_;rw [if_pos ⟨by omega,by omega⟩];rfl
theorem vG {x:Str} {L T3:Dv}:∀ (ps:List Str) (ds:List Dv) (a b:Option Dv),(∀ p∈ps,okT p=c_)→ds.length=8→la 4 [4,5] bG (ps.map Dv.str) (ER x L T3 a b) ds=a_ (.nx (ER x L T3 ck ck) (ps.foldl put ds))
 | [],ds,a,b,_,_=>rfl
 | p :: ps,ds,a,b,h,hl=>by
  obtain ⟨b',e⟩:=Bu (x:=x) (L:=L) (T3:=T3) (b:=ck) (ds:=ds) (h p o_) hl;show (match bG (ER x L T3 (a_ (.str p)) ck) ds with
   | some (.nx ρ' xs')=>la 4 [4,5] bG (ps.map Dv.str) ρ' xs'
   | o=>o)=_
  rw [e];exact vG ps (put ds p) (a_ (.str p)) b' (fun q hq=>h q (pi _ hq)) (by rw [Bt]; exact hl)
def Bv (nm w:Str):Bool:=okS (Tz0 nm w) && (match lW (Tz0 nm w) [.str "="] with | some (.ok (.tup [.str a,.str b,.str c]))=>seq a nm && (seq b (b_ "=") && seq c w) | _=>d_) && (okY (aJ [.str nm]) && okY (bC [.str w]))
theorem rh:(nms.all fun n=>wts.all fun w=>Bv n w)=c_:=by kernel_rfl
def rd0 (nm w:Str):List Dv:=[.str nm,.str w,.non,.non,.non,.non,.bl d_,.str "any"]
theorem Bw {x nm w:Str} {qs ps:List Str} (hx:x.length≤100000) (hnm:nm∈nms) (hw:w∈wts) (hs:MH x (b_ ";")=qs) (hq:qs.length≤100)
 (ht:qs.map (fun q=>Mr q blk)=Tz0 nm w :: ps) (hl:∀ q∈qs,q.length≤1000) (hp:∀ p∈ps,okT p=c_):aC [.str x]=a_ (.ok (.tup (ps.foldl put (rd0 nm w)))):=by
 have hf:=ba (p:=fun w=>Bv nm w) (ba (p:=fun n=>wts.all fun w=>Bv n w) rh hnm) hw;unfold Bv at hf;simp only [n_] at hf;obtain ⟨⟨_,h2⟩,h3,h4⟩:=hf;have e3:=gl h3;have e4:=gl h4;have e2:lW (Tz0 nm w) [.str "="]=a_ (.ok (.tup [.str nm,.str "=",.str w])):=by
  split at h2
  · rename_i a b c e;simp only [n_] at h2;rw [e,dh h2.1,dh h2.2.1,dh h2.2.2]
  · cases h2
 have v1:bB 1 [] (ef (fM (fV) (ac 0) (aa (fC (.str ";")) ah))) (gN 0) ck (fM (ko) (ac 0) (aa (fC (.str " ")) ah)) [a_ (.str x),ck,ck,ck,ck,ck]=a_ (.ok (.lst ((Tz0 nm w :: ps).map Dv.str))):=by
  have hsrc:ef (fM (fV) (ac 0) (aa (fC (.str ";")) ah)) [a_ (.str x),ck,ck,ck,ck,ck]=a_ (.ok (qs.map Dv.str)):=by
   have z:fM (fV) (ac 0) (aa (fC (.str ";")) ah) [a_ (.str x),ck,ck,ck,ck,ck]=a_ (.ok (.lst (qs.map Dv.str))):=by
    show fV x [.str ";"]=_;show (if (b_ ";").length≠0∧x.length≤100000∧(MH x (b_ ";")).length≤100000 then _ else ck)=_;rw [if_pos ⟨by decide,hx,by rw [hs]; omega⟩,hs]
   unfold ef;rw [z];rfl
  have e:=kW (cs:=[]) (elt:=fM (ko) (ac 0) (aa (fC (.str " ")) ah)) Dv.str (fun q=>Dv.str (Mr q blk)) hsrc (by omega) fun q hq'=>by
   show ko q [.str " "]=_;show (if q.length≤100000 then _ else ck)=_;rw [if_pos (by have:=hl q hq'; omega)];rfl
  rw [e,← ht,Ri];rfl
 let L:Dv:=.lst ((Tz0 nm w :: ps).map Dv.str)
 let T3:Dv:=.tup [.str nm,.str "=",.str w]
 have v2:fM (lW) (f2 ixD (ac 1) (fC (.int 0))) (aa (fC (.str "=")) ah) [a_ (.str x),a_ L,ck,ck,ck,ck]=a_ (.ok T3):=e2;have c1:(bOr (fB (f2 eqX (f2 ixD (ac 2) (fC (.int 1))) (fC (.str "")))) (bOr (br (fB (ai aJ 1 (aa (f2 ixD (ac 2) (fC (.int 0))) ah)))) (br (fB (ai bC 1 (aa (f2 ixD (ac 2) (fC (.int 2))) ah)))))) (ER x L T3 ck ck)=a_ (.ok d_):=by
  have y1:ai aJ 1 (aa (f2 ixD (ac 2) (fC (.int 0))) ah) (ER x L T3 ck ck)=bo c_:=jw aJ rfl e3;have y2:ai bC 1 (aa (f2 ixD (ac 2) (fC (.int 2))) ah) (ER x L T3 ck ck)=bo c_:=jw bC rfl e4;have y0:fB (f2 eqX (f2 ixD (ac 2) (fC (.int 1))) (fC (.str ""))) (ER x L T3 ck ck)=a_ (.ok d_):=by kernel_rfl
  unfold bOr;rw [y0];show (bOr (br (fB (ai aJ 1 (aa (f2 ixD (ac 2) (fC (.int 0))) ah)))) (br (fB (ai bC 1 (aa (f2 ixD (ac 2) (fC (.int 2))) ah))))) (ER x L T3 ck ck)=_;unfold bOr br;rw [bf y1,bf y2];rfl
 have hsrc2:ef (sE (ac 1) (bP (fC (.int 1))) cm) (ER x L T3 ck ck)=a_ (.ok (ps.map Dv.str)):=by
  have z:sE (ac 1) (bP (fC (.int 1))) cm (ER x L T3 ck ck)=a_ (.ok (.lst (ps.map Dv.str))):=by
   show a_ (Rs.ok (Dv.lst (yI ((Tz0 nm w :: ps).map Dv.str) (a_ 1) ck)))=_;congr 3;show (((Tz0 nm w :: ps).map Dv.str).drop (min 1 ((Tz0 nm w :: ps).map Dv.str).length)).take (((Tz0 nm w :: ps).map Dv.str).length - min 1 ((Tz0 nm w :: ps).map Dv.str).length)=_;rw [Nat.min_eq_left (by simp)];rw [Lg,List.drop_succ_cons,Ql,PH (by simp)]
  unfold ef;rw [z];rfl
 have hfor:uB 4 [4,5] (ef (sE (ac 1) (bP (fC (.int 1))) cm)) bG (ER x L T3 ck ck) (rd0 nm w)=a_ (.nx (ER x L T3 ck ck) (ps.foldl put (rd0 nm w))):=by
  unfold uB;rw [hsrc2];show (if imms (ps.map Dv.str)=c_ then _ else ck)=_;rw [if_pos (oM ps)];exact vG ps (rd0 nm w) ck ck hp rfl
 refine mJ ?_;show dL [a_ (.str x),ck,ck,ck,ck,ck]=_;unfold dL;rw [al (bA (show br (fB (f1 (cQ bT) (ac 0))) [a_ (.str x),ck,ck,ck,ck,ck]=a_ (.ok d_) from rfl))];rw [al (aI (ρ':=[a_ (.str x),a_ L,ck,ck,ck,ck]) v1 rfl)];rw [al (aI (ρ':=ER x L T3 ck ck) v2 rfl)];rw [al (bA c1)];unfold uA;rw [show (aa (f2 ixD (ac 2) (fC (.int 0))) (aa (f2 ixD (ac 2) (fC (.int 2))) (aa (fC .non) (aa (fC .non) (aa (fC .non) (aa (fC .non) (aa (fC (.bl d_)) (aa (fC (.str "any")) ah)))))))) (ER x L T3 ck ck)=a_ (.ok (rd0 nm w)) from rfl];show (match (cX (uB 4 [4,5] (ef (sE (ac 1) (bP (fC (.int 1))) cm)) bG) (kq 3 (fB1 cD (aa (ac 3) ah)))) (ER x L T3 ck ck) (rd0 nm w) with
  | some (.nx ρ' ds')=>a_ (Fl.nx (ρ'.set 3 (a_ (.lst ds'))))
  | some (.rt d)=>a_ (.rt d)
  | none=>ck)=_
 unfold cX;rw [hfor];rfl
theorem ic (a b:Str):(a ++ b).cps.toList=a.cps.toList ++ b.cps.toList:=Array.toList_append
def lj (po pr:Str):Str→Str→List Str→List Str
 | pre,x,[]=>[pre ++ x ++ emp]
 | pre,x,y :: l=>(pre ++ x ++ po) :: lj po pr pr y l
theorem rj (po pr:Str):∀ (l:List Str) (pre x:Str),∃ q r,lj po pr pre x l=q :: r
 | [],_,_=>⟨_,_,rfl⟩
 | _ :: _,_,_=>⟨_,_,rfl⟩
def JS:List Str→List Nat
 | []=>[]
 | q :: r=>J [59] q.cps.toList (r.map fun s=>s.cps.toList)
theorem vI (sep x y:Str) (l:List Str):Nk sep (x :: y :: l)=x ++ sep ++ Nk sep (y :: l):=by
 show Q_ sep (x :: y :: l)=x ++ sep ++ Q_ sep (y :: l);rw [PY,PY];rfl
theorem FB {sep po pr:Str} (hs:sep.cps.toList=po.cps.toList ++ 59 :: pr.cps.toList):∀ (l:List Str) (pre x:Str),pre.cps.toList ++ (Nk sep (x :: l)).cps.toList=JS (lj po pr pre x l)
 | [],pre,x=>by
  show pre.cps.toList ++ x.cps.toList=(pre ++ x ++ emp).cps.toList;rw [ic,ic];show _=_ ++ [];simp
 | y :: l,pre,x=>by
  have ih:=FB hs l pr y;obtain ⟨q,r,e⟩:=rj po pr l pr y;rw [vI,ic,ic,hs];show _=JS ((pre ++ x ++ po) :: lj po pr pr y l);rw [e] at ih ⊢;show _=(pre ++ x ++ po).cps.toList ++ ([59] ++ J [59] q.cps.toList (r.map fun s=>s.cps.toList));rw [show J [59] q.cps.toList (r.map fun s=>s.cps.toList)=JS (q :: r) from rfl,← ih,ic,ic];simp
def okQ (po pr p:Str):Bool:=gm emp p po && (gm emp p emp && (gm pr p po && gm pr p emp))
theorem kZ {pre p post:Str} (h:gm pre p post=c_):Mr (pre ++ p ++ post) blk=p∧59 ∉ (pre ++ p ++ post).cps.toList:=by
 unfold gm at h;rw [n_] at h;exact ⟨dh h.1,by simpa using h.2⟩
theorem vJ {po pr:Str}:∀ (l:List Str) (pre x:Str),(gm pre x po=c_∧gm pre x emp=c_)→(∀ p∈l,okQ po pr p=c_) →
 (lj po pr pre x l).map (fun q=>Mr q blk)=x :: l∧∀ q∈lj po pr pre x l,59 ∉ q.cps.toList
 | [],pre,x,hx,_=>by
  obtain ⟨h1,h2⟩:=kZ hx.2;exact ⟨by show [Mr (pre ++ x ++ emp) blk]=[x]; rw [h1],fun q hq=>by rw [Le.mp hq]; exact h2⟩
 | y :: l,pre,x,hx,hl=>by
  obtain ⟨h1,h2⟩:=kZ hx.1;have hy:=hl y o_;unfold okQ at hy;simp only [n_] at hy;obtain ⟨g1,g2⟩:=vJ l pr y ⟨hy.2.2.1,hy.2.2.2⟩ fun p hp=>hl p (pi _ hp);refine ⟨by show Mr (pre ++ x ++ po) blk :: (lj po pr pr y l).map _=_; rw [h1,g1],fun q hq=>?_⟩;rcases rl.mp hq with rfl | hq
  · exact h2
  · exact g2 q hq
theorem rm {po pr:Str} (h1:po.length≤2) (h2:pr.length≤2):∀ (l:List Str) (pre x:Str),pre.length≤2→x.length≤200→(∀ p∈l,p.length≤200)→(lj po pr pre x l).length=l.length + 1∧∀ q∈lj po pr pre x l,q.length≤300
 | [],pre,x,hp,hx,_=>⟨rfl,fun q hq=>by
  rw [Le.mp hq,gE,gE];have:emp.length=0:=by decide
  omega⟩
 | y :: l,pre,x,hp,hx,hl=>by
  obtain ⟨g1,g2⟩:=rm h1 h2 l pr y h2 (hl y o_) fun p hp=>hl p (pi _ hp);refine ⟨by show (lj po pr pr y l).length + 1=_; rw [g1]; rfl,fun q hq=>?_⟩;rcases rl.mp hq with rfl | hq
  · rw [gE,gE]; omega
  · exact g2 q hq
theorem rn (sep:Str) (hs:sep.length≤10):∀ (l:List Str) (x:Str),(∀ p∈l,p.length≤200)→(l.foldl (fun t y=>t ++ sep ++ y) x).length≤x.length + l.length * 210
 | [],x,_=>by simp
 | y :: l,x,h=>by
  have ih:=rn sep hs l (x ++ sep ++ y) fun p hp=>h p (pi _ hp);have h0:=h y o_;rw [gE,gE] at ih;show (l.foldl _ (x ++ sep ++ y)).length≤_;rw [LR];omega
theorem k6 {sep po pr nm w:Str} {ps:List Str} (hs:sep.cps.toList=po.cps.toList ++ 59 :: pr.cps.toList) (hsl:sep.length≤10) (h1:po.length≤2) (h2:pr.length≤2) (hnm:nm∈nms) (hw:w∈wts) (hF:okQ po pr (Tz0 nm w)=c_) (hFl:(Tz0 nm w).length≤200)
 (hQ:∀ p∈ps,okQ po pr p=c_) (hl:∀ p∈ps,p.length≤200) (hn:ps.length≤50) (hT:∀ p∈ps,okT p=c_):aC [.str (Nk sep (Tz0 nm w :: ps))]=a_ (.ok (.tup (ps.foldl put (rd0 nm w)))):=by
 obtain ⟨q,r,e⟩:=rj po pr ps emp (Tz0 nm w);unfold okQ at hF;simp only [n_] at hF;obtain ⟨g1,g2⟩:=vJ (po:=po) (pr:=pr) ps emp (Tz0 nm w) ⟨hF.1,hF.2.1⟩ hQ;obtain ⟨k1,k2⟩:=rm h1 h2 ps emp (Tz0 nm w) (by decide) hFl hl;have hj:=FB hs ps emp (Tz0 nm w);rw [e] at hj g1 g2 k1 k2;have hx:(Nk sep (Tz0 nm w :: ps)).cps.toList=J (b_ ";").cps.toList q.cps.toList (r.map fun s=>s.cps.toList):=by
  have z:emp.cps.toList=[]:=by kernel_rfl
  rw [z] at hj;exact hj
 refine Bw (qs:=q :: r) ?_ hnm hw (qc (c:=59) (rest:=[]) (by kernel_rfl) (by kernel_rfl) g2 hx) (by rw [k1]; omega) g1 (fun s hs'=>by have:=k2 s hs'; omega) hT;rw [kY];have:=rn sep hsl ps (Tz0 nm w) hl;omega
structure Gw (nm w:Str) (h p:Option Str) (u l:Option Int) (S:Bool) (R:Str):Prop where
 nm:nm∈nms
 w:w∈wts
 h:∀ x,h=a_ x→x∈En
 p:∀ x,p=a_ x→x∈pths
 u:∀ i,u=a_ i→0≤i∧i < 60
 l:∀ i,l=a_ i→0≤i∧i < 30
 r:R=b_ "any"∨R=b_ "near"
theorem IG {nm w:Str} {H P u l:Dv} {S:Bool} {R:Str} (g:Gv nm w H P u l S R):∃ h p u' l',Gw nm w h p u' l' S R∧gvn nm w H P u l S R=gv nm w h p u' l' S R:=by
 have a1:∃ h,H=eS h∧∀ x,h=a_ x→x∈En:=by
  rcases g.hh with rfl | ⟨n,hn,rfl⟩
  · exact ⟨ck,rfl,fun x e=>by cases e⟩
  · exact ⟨a_ n,rfl,fun x e=>by cases e; exact hn⟩
 have a2:∃ h,P=eS h∧∀ x,h=a_ x→x∈pths:=by
  rcases g.pp with rfl | ⟨n,hn,rfl⟩
  · exact ⟨ck,rfl,fun x e=>by cases e⟩
  · exact ⟨a_ n,rfl,fun x e=>by cases e; exact hn⟩
 have a3:∃ h,u=eO h∧∀ x,h=a_ x→0≤x∧x < 60:=by
  rcases g.u with rfl | ⟨n,h0,h1,rfl⟩
  · exact ⟨ck,rfl,fun x e=>by cases e⟩
  · exact ⟨a_ n,rfl,fun x e=>by cases e; exact ⟨h0,h1⟩⟩
 have a4:∃ h,l=eO h∧∀ x,h=a_ x→0≤x∧x < 30:=by
  rcases g.l with rfl | ⟨n,h0,h1,rfl⟩
  · exact ⟨ck,rfl,fun x e=>by cases e⟩
  · exact ⟨a_ n,rfl,fun x e=>by cases e; exact ⟨h0,h1⟩⟩
 obtain ⟨h,rfl,q1⟩:=a1;obtain ⟨p,rfl,q2⟩:=a2;obtain ⟨u,rfl,q3⟩:=a3;obtain ⟨l,rfl,q4⟩:=a4;exact ⟨h,p,u,l,⟨g.nm,g.w,q1,q2,q3,q4,g.r⟩,rfl⟩
theorem mP:(nms.all fun x=>q_ (x.length≤50))=c_∧(wts.all fun x=>q_ (x.length≤50))=c_∧(En.all fun x=>q_ (x.length≤50))=c_∧(pths.all fun x=>q_ (x.length≤50))=c_:=⟨by kernel_rfl,by kernel_rfl,by kernel_rfl,by kernel_rfl⟩
theorem vK:(nms.all fun x=>Lh (.str x))=c_∧(wts.all fun x=>Lh (.str x))=c_∧(En.all fun x=>Lh (.str x))=c_∧(pths.all fun x=>Lh (.str x))=c_:=⟨by kernel_rfl,by kernel_rfl,by kernel_rfl,by kernel_rfl⟩
section
variable {nm w:Str} {h p:Option Str} {u l:Option Int} {S:Bool} {R:Str}
theorem IH (g:Gw nm w h p u l S R):Vv nm w h p u l R :=
 ⟨by simpa using ba (p:=fun x:Str=>q_ (x.length≤50)) mP.1 g.nm,by simpa using ba (p:=fun x:Str=>q_ (x.length≤50)) mP.2.1 g.w,
  fun x e=>by simpa using ba (p:=fun x:Str=>q_ (x.length≤50)) mP.2.2.1 (g.h x e),fun x e=>by simpa using ba (p:=fun x:Str=>q_ (x.length≤50)) mP.2.2.2 (g.p x e),
  fun i e=>by have:=g.u i e; omega,fun i e=>by have:=g.l i e; omega⟩
theorem FF (o:Option Int):It1 0 (eO o):=by cases o; exact y6; exact oA
theorem FH (a b:Option Int):Ll (de (eO a)) (de (eO b))=q_ (a=b):=by
 cases a <;> cases b <;> simp [eO,de,Ll];rw [Ln]; simp
def PL (h p:Option Str) (u l:Option Int) (S:Bool) (R:Str):List Str:=(oS "for " h).toList ++ ((oS "under " p).toList ++ ((oI "until " u).toList ++ ((oI "lasts " l).toList ++ ((oB "safe" S).toList ++ ((oB "near" (jL R)).toList ++ [])))))
theorem FJ:Nk (b_ "; ") (Tz0 nm w :: PL h p u l S R)=T nm w h p u l S R:=by
 rw [kY];unfold PL;rw [il,il,il,il,il,il];rfl
theorem j8 {n:Nat} {i:Int} (h0:0≤i) (h1:i < n):i∈oK n:=by
 unfold oK;exact Lp.mpr ⟨i.toNat,K6.mpr (by omega),by omega⟩
theorem FK (g:Gw nm w h p u l S R):∀ x∈PL h p u l S R,x∈allP:=by
 intro x hx;simp only [PL,K8,Option.mem_toList,I_,or_false] at hx;unfold allP;rcases hx with e | e | e | e | e | e
 · refine y_ _ ?_;cases h with
   | none=>cases e
   | some y=>cases e; exact Lp.mpr ⟨y,g.h y rfl,rfl⟩
 · refine l_ _ (y_ _ ?_);cases p with
   | none=>cases e
   | some y=>cases e; exact Lp.mpr ⟨y,g.p y rfl,rfl⟩
 · refine l_ _ (l_ _ (y_ _ ?_));cases u with
   | none=>cases e
   | some y=>cases e; exact Lp.mpr ⟨y,j8 (g.u y rfl).1 (g.u y rfl).2,rfl⟩
 · refine l_ _ (l_ _ (l_ _ (y_ _ ?_)));cases l with
   | none=>cases e
   | some y=>cases e; exact Lp.mpr ⟨y,j8 (g.l y rfl).1 (g.l y rfl).2,rfl⟩
 · refine l_ _ (l_ _ (l_ _ (l_ _ (y_ _ ?_))));unfold oB at e;split at e
   · cases e; simp
   · cases e
 · refine l_ _ (l_ _ (l_ _ (l_ _ (y_ _ ?_))));unfold oB at e;split at e
   · cases e; simp
   · cases e
structure Ptk (x:Str):Prop where
 t:okT x=c_
 q1:okQ emp blk x=c_
 q2:okQ emp emp x=c_
 q3:okQ bl2 bl2 x=c_
 l:x.length≤200
 n:59 ∉ x.cps.toList
theorem FL {x:Str} (h:okS x=c_):okQ emp blk x=c_∧okQ emp emp x=c_∧okQ bl2 bl2 x=c_∧x.length≤200∧59 ∉ x.cps.toList:=by
 unfold okS at h;simp only [n_,decide_eq_true_eq] at h;obtain ⟨h1,h2,h3,h4,h5,h6⟩:=h;unfold okQ;simp only [n_];refine ⟨⟨h1,h1,h2,h2⟩,⟨h1,h1,h1,h1⟩,⟨h4,h1,h3,h5⟩,h6,?_⟩;have:=(kZ h1).2;rw [ic,ic] at this;intro hm;exact this (y_ _ (l_ _ hm))
theorem ptk {x:Str} (hx:x∈allP):Ptk x:=by
 have h:=ba Bs hx;unfold JB at h;rw [n_] at h;obtain ⟨h1,h2,h3,h4,h5⟩:=FL h.2;exact ⟨h.1,h1,h2,h3,h4,h5⟩
theorem Bx (hnm:nm∈nms) (hw:w∈wts):okS (Tz0 nm w)=c_:=by
 have hf:=ba (p:=fun w=>Bv nm w) (ba (p:=fun n=>wts.all fun w=>Bv n w) rh hnm) hw;unfold Bv at hf;simp only [n_] at hf;exact hf.1.1
theorem By {ps:List Str} (hnm:nm∈nms) (hw:w∈wts) (hp:∀ x∈ps,x∈allP) (hl:ps.length≤50) :
 aC [.str (Nk (b_ "; ") (Tz0 nm w :: ps))]=a_ (.ok (.tup (ps.foldl put (rd0 nm w))))∧aC [.str (Nk (b_ ";") (Tz0 nm w :: ps))]=a_ (.ok (.tup (ps.foldl put (rd0 nm w))))∧aC [.str (Nk (b_ "  ;  ") (Tz0 nm w :: ps))]=a_ (.ok (.tup (ps.foldl put (rd0 nm w)))):=by
 obtain ⟨f1,f2,f3,f4,f5⟩:=FL (Bx hnm hw);exact ⟨k6 (po:=emp) (pr:=blk) (by kernel_rfl) (by decide) (by decide) (by decide) hnm hw f1 f4 (fun x hx=>(ptk (hp x hx)).q1) (fun x hx=>(ptk (hp x hx)).l) hl fun x hx=>(ptk (hp x hx)).t,
  k6 (po:=emp) (pr:=emp) (by kernel_rfl) (by decide) (by decide) (by decide) hnm hw f2 f4 (fun x hx=>(ptk (hp x hx)).q2) (fun x hx=>(ptk (hp x hx)).l) hl fun x hx=>(ptk (hp x hx)).t,
  k6 (po:=bl2) (pr:=bl2) (by kernel_rfl) (by decide) (by decide) (by decide) hnm hw f3 f4 (fun x hx=>(ptk (hp x hx)).q3) (fun x hx=>(ptk (hp x hx)).l) hl fun x hx=>(ptk (hp x hx)).t⟩
theorem FM:(PL h p u l S R).length≤6:=by
 have f1:=lI (oS "for " h);have f2':=lI (oS "under " p);have f3:=lI (oI "until " u);have f4:=lI (oI "lasts " l);have f5:=lI (oB "safe" S);have f6:=lI (oB "near" (jL R));simp [PL]; omega
def gs (o:Option Str) (c:Dv):Dv:=match o with | none=>c | some x=>.str x
def gi (o:Option Int) (c:Dv):Dv:=match o with | none=>c | some x=>.int x
def gb (o:Bool) (c d:Dv):Dv:=if o then d else c
theorem Kx (hh:∀ x,h=a_ x→x∈En) (L:List Str) (a b c d e f g i:Dv):((oS "for " h).toList ++ L).foldl put [a,b,c,d,e,f,g,i]=L.foldl put [a,b,gs h c,d,e,f,g,i]:=by
 cases h with
 | none=>rfl
 | some x=>show L.foldl put (put _ (b_ "for " ++ x))=_; unfold put; rw [IC (hh x rfl)]; rfl
theorem Ky (hh:∀ x,p=a_ x→x∈pths) (L:List Str) (a b c d e f g i:Dv):((oS "under " p).toList ++ L).foldl put [a,b,c,d,e,f,g,i]=L.foldl put [a,b,c,gs p d,e,f,g,i]:=by
 cases p with
 | none=>rfl
 | some x=>show L.foldl put (put _ (b_ "under " ++ x))=_; unfold put; rw [ID (hh x rfl)]; rfl
theorem Kz (hh:∀ x,u=a_ x→0≤x∧x < 60) (L:List Str) (a b c d e f g i:Dv):((oI "until " u).toList ++ L).foldl put [a,b,c,d,e,f,g,i]=L.foldl put [a,b,c,d,gi u e,f,g,i]:=by
 cases u with
 | none=>rfl
 | some x=>show L.foldl put (put _ (b_ "until " ++ is x))=_; unfold put; rw [IE (j8 (hh x rfl).1 (hh x rfl).2)]; rfl
theorem KB (hh:∀ x,l=a_ x→0≤x∧x < 30) (L:List Str) (a b c d e f g i:Dv):((oI "lasts " l).toList ++ L).foldl put [a,b,c,d,e,f,g,i]=L.foldl put [a,b,c,d,e,gi l f,g,i]:=by
 cases l with
 | none=>rfl
 | some x=>show L.foldl put (put _ (b_ "lasts " ++ is x))=_; unfold put; rw [IF (j8 (hh x rfl).1 (hh x rfl).2)]; rfl
theorem KC (L:List Str) (a b c d e f g i:Dv):((oB "safe" S).toList ++ L).foldl put [a,b,c,d,e,f,g,i]=L.foldl put [a,b,c,d,e,f,gb S g (.bl c_),i]:=by
 cases S with
 | false=>rfl
 | true=>show L.foldl put (put _ (b_ "safe"))=_; unfold put; rw [Fy]; rfl
theorem KD (k:Bool) (L:List Str) (a b c d e f g i:Dv):((oB "near" k).toList ++ L).foldl put [a,b,c,d,e,f,g,i]=L.foldl put [a,b,c,d,e,f,g,gb k i (.str "near")]:=by
 cases k with
 | false=>rfl
 | true=>show L.foldl put (put _ (b_ "near"))=_; unfold put; rw [Fz]; rfl
theorem FN (g:Gw nm w h p u l S R) (a b c d e f k i:Dv):(PL h p u l S R).foldl put [a,b,c,d,e,f,k,i]=[a,b,gs h c,gs p d,gi u e,gi l f,gb S k (.bl c_),gb (jL R) i (.str "near")]:=by
 unfold PL;rw [Kx g.h,Ky g.p,Kz g.u,KB g.l,KC,KD];rfl
theorem FQ (g:Gw nm w h p u l S R):gb (jL R) (.str "any") (.str "near")=.str R:=by
 rcases g.r with e | e <;> rw [e] <;> rfl
theorem ze (o:Option Str):gs o .non=eS o:=by cases o <;> rfl
theorem zf (o:Option Int):gi o .non=eO o:=by cases o <;> rfl
theorem KG (S:Bool):gb S (.bl d_) (.bl c_)=.bl S:=by cases S <;> rfl
theorem II (g:Gw nm w h p u l S R):Dv.tup ((PL h p u l S R).foldl put (rd0 nm w))=gv nm w h p u l S R:=by
 unfold rd0;rw [FN g,FQ g,ze,ze,zf,zf,KG]
theorem FR (i:Int):az [.int i]=bo (q_ (0≤i) && q_ (i≤9999)):=by
 have e:aU [.int i,.int 0,.int 9999]=bo (q_ (0≤i) && q_ (i≤9999)):=by
  by_cases h0:0≤i
  · simp [aU,bt,bu,ar,sq,aM,ay,bg,bO,bnd,bOr,br,fB,toB,ac,fC,f1,f2,cC,cQ,aO,bW,leX,h0]
  · simp [aU,bt,bu,ar,sq,aM,ay,bg,bi,aL,bO,bnd,bOr,bS,br,fB,toB,ai,ao,aa,ah,ac,fC,f1,f2,ixD,atD,vOr,cC,fH,fIf,bp,bz,fB1,fM,aG,bx,isN,cP,cQ,aO,bV,bT,bW,leX,h0]
 have e2:aX [.int i]=bo (q_ (0≤i) && q_ (i≤9999)):=by simp [aX,bt,ei,ar,sq,aM,ay,bg,bi,aL,bO,bnd,bOr,bS,br,fB,toB,ai,ao,aa,ah,ac,fC,f1,f2,ixD,atD,vOr,cC,fH,fIf,bp,bz,fB1,fM,aG,bx,isN,cP,cQ,aO,bV,bT,bW,e]
 simp [az,bt,aY,ar,sq,aM,ay,bg,bi,aL,bO,bnd,bOr,bS,br,fB,toB,ai,ao,aa,ah,ac,fC,f1,f2,ixD,atD,vOr,cC,fH,fIf,bp,bz,fB1,fM,aG,bx,isN,cP,cQ,aO,bV,bT,bW,e2]
theorem FU (g:Gw nm w h p u l S R):aC [.str (T nm w h p u l S R)]=a_ (.ok (gv nm w h p u l S R)):=by
 have:=(By (nm:=nm) (w:=w) g.nm g.w (FK g) (K0 FM (by omega))).1;rw [FJ,II g] at this;exact this
end
section
variable {nm w:Str} {H P u l:Dv} {S:Bool} {R:Str} {t:List Dv} {h p:Str} {O:Dv} {s:Bool} {house path:Str} {ex:Bool} {wd:Dv} {now:Int}
abbrev ntn (nm w house:Str) (ex:Bool) (path:Str) (ends:Dv) (S:Bool) (R:Str) (now:Int):Dv:=.tup [.str nm,.str w,.str house,.bl ex,.str path,ends,.bl S,.str R,.int now,.int now]
theorem IJ {k:Nat} {d:Dv} (h:It1 k d) (hk:k≤64):neX d d=a_ (.ok (.bl d_)):=Bj (h.okP hk) h.p
def sr (u l:Dv) (now:Int):Dv:=match l with
 | .int i=>.int (if 9999 < now + i then 9999 else now + i)
 | _=>u
theorem FV (g:Gv nm w H P u l S R):gX [gvn nm w H P u l S R,.int now]=a_ (.ok (sr u l now)):=by
 rcases g.l with rfl | ⟨i,i0,i1,rfl⟩
 · simp [gX,bt,gW,ar,sq,aM,ay,bg,bO,bnd,fB,toB,aa,ah,ac,fC,f2,ixD,atD,fB1,isN,sr]
 · simp [gX,bt,gW,ar,sq,aM,ay,bg,bi,aL,bO,bnd,bOr,bS,br,fB,toB,ai,ao,aa,ah,ac,fC,f1,f2,ixD,atD,vOr,cC,fH,fIf,bp,bz,fB1,fM,aG,bx,isN,cP,cQ,aO,bV,bT,bW,cZ,Ar,sr]
theorem FX (g:Gv nm w H P u l S R) (n0:0≤now):Mo (sr u l now):=by
 rcases g.l with rfl | ⟨i,i0,i1,rfl⟩
 · exact g.mu
 · refine .inr ⟨_,?_,?_,rfl⟩ <;> split <;> omega
theorem zg (ht:t∈j4 rules) (a:Ak h p O) (g:Gv nm w H P u l S R) (n0:0≤now) (n1:now≤9999) (W:Wt t h p O nm w H P u l S R s house path ex .non) :
 du [.tup t,akn s h p O,gvn nm w H P u l S R,.int now]=a_ (.ok (ntn nm w house ex path (sr u l now) S R now)):=by
 have e1:=Bp (ib ht);have e2:=Fh (vz (s:=s) a);have e3:=Jx (vB g);have e4:=Fi (oG n0 n1);have w2:=W.why;have k1:=W.hf;have k2:=W.ix;have k3:=W.pf;have k4:=FV (now:=now) g;simp [du,fT,my,ar,sq,aM,ay,bg,bi,bO,bnd,fB,toB,ai,ao,aa,ah,ac,fC,f2,ixD,atD,bp,aG,cP,e1,e2,e3,e4,w2,k1,k2,k3,k4]
def JC:FnE:=(vOr (f2 isN (ac 6) (fC .non)) (cC (f2 eqX (ac 6) (f2 ixD (ac 1) (fC (.int 1)))) (f2 eqX (ai bE 2 (aa (ac 0) (aa (ac 6) ah))) (ac 6))))
theorem vL (a:Ak h p O) (g:Gv nm w H P u l S R) (W:Wt t h p O nm w H P u l S R s house path ex wd):bM [.tup t,akn s h p O,gvn nm w H P u l S R,.int now]=a_ (.ok (ntn nm w house ex path (sr u l now) S R now)):=by
 obtain ⟨f,hf,_,hab⟩:=Jw a.p;refine dI (d:=ntn nm w house ex path (sr u l now) S R now) ?_;show fE [a_ (.tup t),a_ (akn s h p O),a_ (gvn nm w H P u l S R),a_ (.int now),ck,ck,ck,ck,ck,ck,ck,ck,ck,ck,ck,ck]=_;have eB:fE=(ar (oW [4,5,6,7] (cR (ac 2) cm (bP (fC (.int 4))))) (ar (oW [8,9,10,11] (cR (ac 2) (bP (fC (.int 4))) cm)) (ar (aL 12 JC) (ar (aL 13 lH) (ar (aL 14 (fIf (fB (f2 isN (ac 9) (fC .non))) (ac 8) (fB1 Ar (aa (fC (.int 9999)) (aa (f2 bZ (ac 3) (ac 9)) ah))))) (ar (aL 15 (bp (aa (ac 4) (aa (ac 5) (aa (fIf (fB (f2 isN (ac 6) (fC .non))) (f2 ixD (ac 1) (fC (.int 1))) (ac 6)) (aa (ac 12) (aa (fIf (fB (f2 isN (ac 7) (fC .non))) (ac 13) (ac 7)) ah))))))) (ay (f2 bZ (ac 15) (bp (aa (ac 14) (aa (ac 10) (aa (ac 11) (aa (ac 3) (aa (ac 3) ah)))))))))))))):=rfl;rw [eB];rw [al (ρ':=[a_ (.tup t),a_ (akn s h p O),a_ (gvn nm w H P u l S R),a_ (.int now),a_ (.str nm),a_ (.str w),a_ H,a_ P,ck,ck,ck,ck,ck,ck,ck,ck]) (by kernel_rfl)];rw [al (ρ':=[a_ (.tup t),a_ (akn s h p O),a_ (gvn nm w H P u l S R),a_ (.int now),a_ (.str nm),a_ (.str w),a_ H,a_ P,a_ u,a_ l,a_ (.bl S),a_ (.str R),ck,ck,ck,ck]) (by kernel_rfl)];have hx:JC [a_ (.tup t),a_ (akn s h p O),a_ (gvn nm w H P u l S R),a_ (.int now),a_ (.str nm),a_ (.str w),a_ H,a_ P,a_ u,a_ l,a_ (.bl S),a_ (.str R),ck,ck,ck,ck]=bo ex:=by
  rw [← W.lx]
  kernel_rfl
 rw [al (aI hx rfl)];simp only [KY,KW];have ha:lH [a_ (.tup t),a_ (akn s h p O),a_ (gvn nm w H P u l S R),a_ (.int now),a_ (.str nm),a_ (.str w),a_ H,a_ P,a_ u,a_ l,a_ (.bl S),a_ (.str R),a_ (.bl ex),ck,ck,ck]=a_ (.ok (.str f)):=by
  rw [← hab]
  kernel_rfl
 rw [al (aI ha rfl)];simp only [KY,KW];have he:(fIf (fB (f2 isN (ac 9) (fC .non))) (ac 8) (fB1 Ar (aa (fC (.int 9999)) (aa (f2 bZ (ac 3) (ac 9)) ah)))) [a_ (.tup t),a_ (akn s h p O),a_ (gvn nm w H P u l S R),a_ (.int now),a_ (.str nm),a_ (.str w),a_ H,a_ P,a_ u,a_ l,a_ (.bl S),a_ (.str R),a_ (.bl ex),a_ (.str f),ck,ck]=a_ (.ok (sr u l now)):=by
  rcases g.l with rfl | ⟨i,i0,i1,rfl⟩
  · rfl
  · show a_ (Rs.ok (Dv.int (if now + i < 9999 then now + i else 9999)))=a_ (.ok (.int (if 9999 < now + i then 9999 else now + i)));congr 3;split <;> split <;> omega
 rw [al (aI he rfl)];simp only [KY,KW];have hh:(bp (aa (ac 4) (aa (ac 5) (aa (fIf (fB (f2 isN (ac 6) (fC .non))) (f2 ixD (ac 1) (fC (.int 1))) (ac 6)) (aa (ac 12) (aa (fIf (fB (f2 isN (ac 7) (fC .non))) (ac 13) (ac 7)) ah)))))) [a_ (.tup t),a_ (akn s h p O),a_ (gvn nm w H P u l S R),a_ (.int now),a_ (.str nm),a_ (.str w),a_ H,a_ P,a_ u,a_ l,a_ (.bl S),a_ (.str R),a_ (.bl ex),a_ (.str f),a_ (sr u l now),ck]=a_ (.ok (.tup [.str nm,.str w,.str house,.bl ex,.str path])):=by
  rcases W.pl with ⟨rfl,q⟩ | rfl
  · have e:f=path:=by
     have:=hab.symm.trans q;cases this; rfl
    subst e;rcases W.hl with ⟨rfl,rfl⟩ | rfl <;> rfl
  · rcases W.hl with ⟨rfl,rfl⟩ | rfl <;> rfl
 rw [al (aI hh rfl)];simp only [KY,KW];rfl
end
end G
namespace G
namespace J
open PySem PySem.Spec PyProof.Rows L2 FD
theorem vv:(nms.all fun n=>okY (aJ [.str n]))=c_:=by kernel_rfl
theorem vw:(wts.all fun n=>okY (bC [.str n]))=c_:=by kernel_rfl
theorem vx:(En.all fun n=>okY (bX [.str n]))=c_:=by kernel_rfl
theorem vy:(pths.all fun n=>okY (cz [.str n]))=c_:=by kernel_rfl
theorem Ix {n:Str} (h:n∈nms):aJ [.str n]=bo c_:=gl (ba (p:=fun n=>okY (aJ [.str n])) vv h)
theorem Iy {n:Str} (h:n∈wts):bC [.str n]=bo c_:=gl (ba (p:=fun n=>okY (bC [.str n])) vw h)
theorem zb {n:Str} (h:n∈En):bX [.str n]=bo c_:=gl (ba (p:=fun n=>okY (bX [.str n])) vx h)
theorem Bo {n:Str} (h:n∈pths):cz [.str n]=bo c_:=gl (ba (p:=fun n=>okY (cz [.str n])) vy h)
theorem eK {l:List Dv} {d:Int} (h0:0≤d) (h1:d < l.length):∃ x∈l,ixD (.lst l) (.int d)=a_ (.ok x):=by
 have h2:d.toNat < l.length:=by omega
 refine ⟨l[d.toNat],Nt h2,?_⟩;show (match atD l d with | some d=>_ | none=>_)=_
 unfold atD;rw [if_pos h0,Lb h2]
theorem yg {f:FnE} {ρ:Ev} {d:Dv} (h:f ρ=a_ (.ok d)):ay f ρ=a_ (.rt d):=by unfold ay; rw [h]; rfl
theorem rq {a b:FnB} {ρ:Ev} {x y:Bool} (ha:a ρ=a_ (.ok x)) (hb:b ρ=a_ (.ok y)):bOr a b ρ=a_ (.ok (x || y)):=by
 unfold bOr; rw [ha]; cases x
 · exact hb
 · rfl
theorem FR (i:Int):aX [.int i]=bo (q_ (0≤i) && q_ (i≤9999)):=by
 have e:aU [.int i,.int 0,.int 9999]=bo (q_ (0≤i) && q_ (i≤9999)):=by
  by_cases h0:0≤i
  · simp [aU,bt,bu,ar,sq,aM,ay,bO,bnd,bOr,br,fB,toB,ac,f1,f2,cC,cQ,aO,bW,leX,h0]
  · simp [aU,bt,bu,ar,sq,aM,ay,bO,bnd,bOr,br,fB,toB,ac,f1,f2,cC,cQ,aO,bW,leX,h0]
 simp [aX,bt,ei,ay,bO,bnd,ai,aa,ah,ac,fC,e]
theorem oG {i:Int} (h0:0≤i) (h1:i≤9999):aX [.int i]=bo c_:=by
 rw [FR]; simp [h0,h1]
def Mo (u:Dv):Prop:=u=.non∨∃ i:Int,0≤i∧i≤9999∧u=.int i
theorem rg {u:Dv} (h:Mo u):az [u]=bo c_:=by
 rcases h with rfl | ⟨i,h0,h1,rfl⟩
 · simp [az,bt,aY,ay,bO,bnd,toB,ac,fC,f2,vOr,isN]
 · simp [az,bt,aY,ay,bO,bnd,toB,ai,aa,ah,ac,fC,f2,vOr,isN,oG h0 h1]
theorem mM {R:Str} (h:R=b_ "any"∨R=b_ "near"):eR [.str R]=bo c_∧∃ r,eqX (.str R) (.str "any")=bo r∧eqX (.str R) (.str "near")=bo (!r):=by
 rcases h with rfl | rfl
 · exact ⟨by kernel_rfl,c_,by kernel_rfl,by kernel_rfl⟩
 · exact ⟨by kernel_rfl,d_,by kernel_rfl,by kernel_rfl⟩
structure Note where
 nm:Str
 w:Str
 house:Str
 ex:Bool
 path:Str
 ends:Option Int
 S:Bool
 R:Str
 md:Int
 us:Int
deriving DecidableEq
def eO:Option Int→Dv
 | none=>.non
 | some i=>.int i
def enc (n:Note):Dv:=.tup [.str n.nm,.str n.w,.str n.house,.bl n.ex,.str n.path,eO n.ends,.bl n.S,.str n.R,.int n.md,.int n.us]
def ek (n:Note):Dv:=.tup [.str n.nm,.str n.house,.str n.path]
def key (n:Note):List Str:=[n.nm,n.house,n.path]
structure Good (n:Note):Prop where
 nm:n.nm∈nms
 w:n.w∈wts
 house:n.house∈En
 path:n.path∈pths
 R:n.R=b_ "any"∨n.R=b_ "near"
 ends:∀ i,n.ends=a_ i→0≤i∧i≤9999
 mk0:0≤n.md
 mu:n.md≤n.us
 us:n.us≤99
theorem IK {n:Note} (g:Good n):Mo (eO n.ends):=by
 cases h:n.ends with
 | none=>exact .inl rfl
 | some i=>exact .inr ⟨i,(g.ends i h).1,by have:=(g.ends i h).2; omega,rfl⟩
theorem FY {n:Note} (g:Good n):fm [enc n]=bo c_:=by
 have e0:cy [enc n,.int 10]=bo c_:=by kernel_rfl
 have e1:=oG g.mk0 (by have:=g.mu; have:=g.us; omega);have e2:=oG (Int.le_trans g.mk0 g.mu) (by have:=g.us; omega);have e3:az [eO n.ends]=bo c_:=rg (IK g);unfold enc at e0 ⊢;simp [fm,bt,jc,ar,sq,aM,ay,bO,bnd,bOr,br,fB,toB,ai,aa,ah,ac,fC,f1,f2,ixD,atD,bz,fB1,cQ,aO,e0,e1,e2,Ix g.nm,Iy g.w,zb g.house,Bo g.path,e3,(mM g.R).1,ju,fG,leX,g.mu]
def signs0:List Str:=nms ++ (wts ++ (En ++ (pths ++ [b_ "any",b_ "near"])))
theorem vK:(signs0.all fun x=>Lh (.str x))=c_:=by kernel_rfl
theorem oN {x:Str} (h:x∈signs0):Lh (.str x)=c_:=ba (p:=fun x=>Lh (.str x)) vK h
theorem FF (o:Option Int):It1 0 (eO o):=by cases o; exact y6; exact oA
theorem Good.sR {n:Note} (g:Good n):n.R∈signs0:=by
 unfold signs0;rcases g.R with h | h <;> rw [h] <;> simp
theorem vM {n:Note} (g:Good n):It1 1 (enc n):=by
 refine vp (k:=0) fun d hd=>?_;simp only [rl,I_,or_false] at hd;rcases hd with rfl | rfl | rfl | rfl | rfl | rfl | rfl | rfl | rfl | rfl
 · exact jW (oN (by simp [signs0,g.nm]))
 · exact jW (oN (by simp [signs0,g.w]))
 · exact jW (oN (by simp [signs0,g.house]))
 · exact Fc
 · exact jW (oN (by simp [signs0,g.path]))
 · exact FF _
 · exact Fc
 · exact jW (oN g.sR)
 · exact oA
 · exact oA
theorem FZ {n:Note} (g:Good n):It1 1 (ek n):=by
 refine vp (k:=0) fun d hd=>?_;simp only [rl,I_,or_false] at hd;rcases hd with rfl | rfl | rfl
 · exact jW (oN (by simp [signs0,g.nm]))
 · exact jW (oN (by simp [signs0,g.house]))
 · exact jW (oN (by simp [signs0,g.path]))
theorem F0 (a b:Note):Ll (de (ek a)) (de (ek b))=q_ (key a=key b):=by
 rw [Ln];simp [ek,key,de,toPys,Ll,Mn]
theorem FH (a b:Option Int):Ll (de (eO a)) (de (eO b))=q_ (a=b):=by
 cases a <;> cases b <;> simp [eO,de,Ll];rw [Ln]; simp
theorem yh {a b:Note} (ga:Good a) (gb:Good b):eqX (ek a) (ek b)=bo (q_ (key a=key b))∧neX (ek a) (ek b)=bo (!q_ (key a=key b)):=by
 have h1:=(FZ ga).okP (by omega);have h2:=(FZ gb).okP (by omega);have h3:=F0 a b;have h0:eqS (ek a) (ek b)=ck:=rfl;constructor
 · unfold eqX; rw [h0,h1,h2,h3]; rfl
 · unfold neX; rw [h0,h1,h2,h3]; rfl
def ended (n:Note) (now:Int):Bool:=match n.ends with
 | none=>d_
 | some i=>q_ (i≤now)
def ej (js:List Note):Dv:=.tup (js.map enc)
structure Jar (js:List Note):Prop where
 g:∀ n∈js,Good n
 s:∀ i (h:i + 1 < js.length),js[i].md≤js[i + 1].md
 k:(js.map key).Nodup
 l:js.length≤18
theorem vN {α β:Type} {o:Option (Rs α)} {a:α} {k:α→Option (Rs β)} (h:o=a_ (.ok a)):bnd o k=k a:=by rw [h]; rfl
theorem qe:∀ (n:Nat) (lo:Int),rng lo n=(s_ n).map fun i:Nat=>Dv.int (lo + (i:Int))
 | 0,lo=>rfl
 | n + 1,lo=>by
  rw [PJ];show Dv.int lo :: rng (lo + 1) n=_;rw [qe n (lo + 1)];simp only [Lg,Ri];congr 1
  · simp
  · congr 1;funext i;simp only [Function.comp];congr 1;omega
theorem gF {f g:gH} {ρ ρ':Ev} {ds ds':List Dv} (h:f ρ ds=a_ (.nx ρ' ds')):cX f g ρ ds=g ρ' ds':=by unfold cX; rw [h]
theorem vO {j:Nat} {f:FnE} {ρ ρ':Ev} {ds:List Dv} {d:Dv} (h:f ρ=a_ (.ok d)) (e:ρ.set j (a_ d)=ρ'):et j f ρ ds=a_ (.nx ρ' ds):=by unfold et; rw [h,← e]; rfl
theorem Bz {xs:List Dv} {i:Nat} {ρ:Ev} (h:ρ[i]?=a_ (a_ (.lst xs))):ef (ac i) ρ=a_ (.ok xs):=by
 unfold ef ac;rw [h];rfl
theorem ie {js:List Note} {i:Nat} {ρ:Ev} (h:ρ[i]?=a_ (a_ (ej js))):ef (ac i) ρ=a_ (.ok (js.map enc)):=by
 unfold ef ac;rw [h];rfl
theorem BA {xs:List Note} (hg:∀ o∈xs,Good o):It1 2 (.lst (xs.map enc)):=vq fun d hd=>by
 obtain ⟨x,hx,rfl⟩:=Lp.mp hd;exact vM (hg x hx)
theorem it_ej {xs:List Note} (hg:∀ o∈xs,Good o):It1 2 (ej xs):=vp fun d hd=>by
 obtain ⟨x,hx,rfl⟩:=Lp.mp hd;exact vM (hg x hx)
theorem F1 {xs:List Note} (hg:∀ o∈xs,Good o):eqX (.lst (xs.map enc)) (.lst [])=bo xs.isEmpty:=by
 cases xs with
 | nil=>kernel_rfl
 | cons o rest =>
  have i2:=(BA hg).okP (by omega);have i3:okP (.lst [])=c_:=by kernel_rfl
  unfold eqX;rw [show eqS (.lst ((o :: rest).map enc)) (.lst [])=ck from rfl,i2,i3];simp [de,toPys,Ll,Mn]
theorem oO:∀ l:List Int,imms (l.map Dv.int)=c_
 | []=>rfl
 | i :: l=>by show (imm (.int i) && imms (l.map Dv.int))=c_; rw [oO l]; rfl
theorem vP (a b:Int):bZ (.int a) (.int b)=a_ (.ok (.int (a + b))):=rfl
end J
namespace J
open PySem PySem.Spec PyProof.Rows L2 FD
structure JI (B:Nat) (js:List Note) (now:Int):Prop where
 g:∀ n∈js,Good n
 s:js.Pairwise fun a b=>a.md≤b.md
 k:(js.map key).Nodup
 l:js.length≤B
 n0:0≤now
 n1:now≤3 * B
 m:∀ n∈js,n.md≤now
 u:∀ n∈js,n.us≤39
theorem JI.keep {B:Nat} {js:List Note} {now d:Int} (J:JI B js now) (h0:0≤d) (h1:d < 4):JI (B + 1) js (now + d) :=
 ⟨J.g,J.s,J.k,by have:=J.l; omega,by have:=J.n0; omega,by have:=J.n1; omega,fun n hn=>by have:=J.m n hn; omega,J.u⟩
theorem JI.add {B:Nat} {js:List Note} {now d:Int} {n:Note} (J:JI B js now) (h0:0≤d) (h1:d < 4) (g:Good n) (hu:n.us≤39) (hm:n.md=now + d) (hf:js.filter (fun o=>q_ (key o=key n))=[]):JI (B + 1) (js ++ [n]) (now + d):=by
 have hk:∀ o∈js,key o≠key n:=fun o ho e=>by
  have:o∈js.filter (fun o=>q_ (key o=key n)):=Lm.mpr ⟨ho,by simp [e]⟩;rw [hf] at this; cases this
 refine ⟨fun x hx=>?_,?_,?_,by have:=J.l; simp; omega,by have:=J.n0; omega,by have:=J.n1; omega,fun x hx=>?_,fun x hx=>?_⟩
 · rcases K8.mp hx with h | h
   · exact J.g x h
   · rw [Le.mp h]; exact g
 · refine Qh.mpr ⟨J.s,List.pairwise_singleton ..,fun a ha b hb=>?_⟩;rw [Le.mp hb,hm];have:=J.m a ha;omega
 · rw [Ow];refine List.nodup_append.mpr ⟨J.k,by simp,fun a ha b hb e=>?_⟩;obtain ⟨o,ho,rfl⟩:=Lp.mp ha;simp only [Lg,List.map_nil,Le] at hb;exact hk o ho (e.trans hb)
 · rcases K8.mp hx with h | h
   · have:=J.m x h; omega
   · rw [Le.mp h,hm]; omega
 · rcases K8.mp hx with h | h
   · exact J.u x h
   · rw [Le.mp h]; exact hu
theorem JI.jar {B:Nat} {js:List Note} {now:Int} (J:JI B js now) (hB:B≤18):Jar js :=
 ⟨J.g,fun i h=>OY.mp J.s i (i + 1) (by omega) h (by omega),J.k,by have:=J.l; omega⟩
def jb (ns:List Int) (z m now:Int):Ev:=[a_ (.scr ns),a_ (.int z),a_ (.int m),ck,a_ (.int now),ck,ck,ck,ck,ck,ck,ck,ck,ck,ck,ck]
def cJ:FnB:=(fB (f2 eqX (cq [("_law_note",15)] (ef (ac 3)) (a_ (fB (f2 eqX (bp (aa (f2 ixD (ac 0) (fC (.int 0))) (aa (f2 ixD (ac 0) (fC (.int 2))) (aa (f2 ixD (ac 0) (fC (.int 4))) ah)))) (bp (aa (f2 ixD (ac 1) (fC (.int 0))) (aa (f2 ixD (ac 1) (fC (.int 2))) (aa (f2 ixD (ac 1) (fC (.int 4))) ah))))))) (ac 0)) (bz ah)))
theorem IL {js:List Note} {n:Note} {ρ:Ev} (hg:∀ o∈js,Good o) (gn:Good n) (hl:js.length≤18) (h3:ρ[3]?=a_ (a_ (.lst (js.map enc)))) (h15:ρ[15]?=a_ (a_ (enc n))):cJ ρ=a_ (.ok (js.filter (fun o=>q_ (key o=key n))).isEmpty):=by
 have hc:yC [("_law_note",15)] ρ=[ck,a_ (enc n)]:=by simp [yC,h15]
 have e1:=kU (cs:=[("_law_note",15)]) (src:=ef (ac 3)) (tst:=(fB (f2 eqX (bp (aa (f2 ixD (ac 0) (fC (.int 0))) (aa (f2 ixD (ac 0) (fC (.int 2))) (aa (f2 ixD (ac 0) (fC (.int 4))) ah)))) (bp (aa (f2 ixD (ac 1) (fC (.int 0))) (aa (f2 ixD (ac 1) (fC (.int 2))) (aa (f2 ixD (ac 1) (fC (.int 4))) ah))))))) (elt:=ac 0) (ρ:=ρ) enc (fun o=>q_ (key o=key n)) enc (Bz h3) (by omega) fun o ho=>⟨by
  rw [hc];exact bf ((aT (x:=ek o) (y:=ek n) rfl rfl).trans (yh (hg o ho) gn).1),by rw [hc]; rfl⟩
 exact bf ((aT e1 rfl).trans (F1 fun o ho=>hg o (Lm.mp ho).1))
theorem vQ (ns:List Int) (hl:ns.length≤63) (z m now k:Int) {B:Nat} {js:List Note} (J:JI B js now) (hB:B≤10) :
 ∃ ρ' js' now',bQ ((jb ns z m now).set 5 (a_ (.int k))) (js.map enc)=a_ (.nx ρ' (js'.map enc))∧fgt [5,6,7,8,9,10,11,12,13,14,15] ρ'=jb ns z m now'∧JI (B + 1) js' now':=by
 obtain ⟨here,hh⟩:∃ here,here=z + 1 + 14 * k:=⟨_,rfl⟩;obtain ⟨d0,a0,b0,e0⟩:=aQ ns hl here 4 (by omega);obtain ⟨d1,a1,b1,e1⟩:=aQ ns hl (here + 1) 4 (by omega);obtain ⟨d2,a2,b2,e2⟩:=aQ ns hl (here + 2) 3 (by omega);obtain ⟨d4,a4,b4,e4⟩:=aQ ns hl (here + 4) 2 (by omega);obtain ⟨d6,a6,b6,e6⟩:=aQ ns hl (here + 6) 2 (by omega);obtain ⟨d7,a7,b7,e7⟩:=aQ ns hl (here + 7) 60 (by omega);obtain ⟨d8,a8,b8,e8⟩:=aQ ns hl (here + 8) 2 (by omega);obtain ⟨d9,a9,b9,e9⟩:=aQ ns hl (here + 9) 3 (by omega);obtain ⟨d10,a10,b10,e10⟩:=aQ ns hl (here + 10) 5 (by omega);obtain ⟨n3,hn3,e3⟩:=mK ns hl (here + 3);obtain ⟨p5,hp5,e5⟩:=qd ns hl (here + 5);obtain ⟨x1,m1,i1⟩:=eK (l:=[.str "n",.str "m-1",.str "safe-a",.str "N_2"]) a1 b1;obtain ⟨x2,m2,i2⟩:=eK (l:=[.str "5",.str "",.str "a!b~"]) a2 b2;obtain ⟨x6,m6,i6⟩:=eK (l:=[.non,.int d7]) a6 b6;obtain ⟨x9,m9,i9⟩:=eK (l:=[.str "any",.str "any",.str "near"]) a9 b9;have g1:∃ nm∈nms,x1=.str nm:=by
  simp only [rl,I_,or_false] at m1;rcases m1 with rfl | rfl | rfl | rfl <;> exact ⟨_,by simp [nms],rfl⟩
 have g2:∃ nm∈wts,x2=.str nm:=by
  simp only [rl,I_,or_false] at m2;rcases m2 with rfl | rfl | rfl <;> exact ⟨_,by simp [wts],rfl⟩
 have g6:∃ o:Option Int,(∀ i,o=a_ i→0≤i∧i≤9999)∧x6=eO o:=by
  simp only [rl,I_,or_false] at m6;rcases m6 with rfl | rfl
  · exact ⟨ck,by simp,rfl⟩
  · exact ⟨a_ d7,fun i hi=>by cases hi; omega,rfl⟩
 have g9:∃ R,(R=b_ "any"∨R=b_ "near")∧x9=.str R:=by
  simp only [rl,I_,or_false] at m9;rcases m9 with rfl | rfl | rfl
  · exact ⟨_,.inl rfl,rfl⟩
  · exact ⟨_,.inl rfl,rfl⟩
  · exact ⟨_,.inr rfl,rfl⟩
 obtain ⟨nm,hnm,rfl⟩:=g1;obtain ⟨w,hw,rfl⟩:=g2;obtain ⟨o,ho,rfl⟩:=g6;obtain ⟨R,hR,rfl⟩:=g9
 let n:Note:=⟨nm,w,n3,d4 == 0,p5,o,d8 == 0,R,now + d0,now + d0 + d10⟩
 have q0:=J.n0;have q1:=J.n1;have gn:Good n:=⟨hnm,hw,me hn3,hp5,hR,ho,by show 0≤now + d0; omega,by show now + d0≤now + d0 + d10; omega,by show now + d0 + d10≤99; omega⟩
 let E15:Ev:=[a_ (.scr ns),a_ (.int z),a_ (.int m),ck,a_ (.int (now + d0)),a_ (.int k),a_ (.int here),a_ (.str nm),a_ (.str w),a_ (eO o),a_ (.bl (d4 == 0)),a_ (.tup [.str nm,.str w,.str n3,.bl (d4 == 0),.str p5]),a_ (.str R),a_ (.bl (d8 == 0)),a_ (.int (now + d0 + d10)),a_ (enc n)]
 have hc:=IL (ρ:=E15.set 3 (a_ (.lst (js.map enc)))) J.g gn (by have:=J.l; omega) rfl rfl;have hmul:jR (.int 14) (.int k)=a_ (.ok (.int (14 * k))):=oE (.inl (by omega));have hrun:bQ ((jb ns z m now).set 5 (a_ (.int k))) (js.map enc)=Am 3 cJ (xh (ac 15)) oX E15 (js.map enc):=by
  have eB:bQ=(cX (et 6 (f2 bZ (f2 bZ (ac 1) (fC (.int 1))) (f2 jR (fC (.int 14)) (ac 5)))) (cX (et 4 (f2 bZ (ac 4) (ai ag 3 (aa (ac 0) (aa (ac 6) (aa (fC (.int 4)) ah)))))) (cX (et 7 (f2 ixD (bz (aa (fC (.str "n")) (aa (fC (.str "m-1")) (aa (fC (.str "safe-a")) (aa (fC (.str "N_2")) ah))))) (ai ag 3 (aa (ac 0) (aa (f2 bZ (ac 6) (fC (.int 1))) (aa (fC (.int 4)) ah)))))) (cX (et 8 (f2 ixD (bz (aa (fC (.str "5")) (aa (fC (.str "")) (aa (fC (.str "a!b~")) ah)))) (ai ag 3 (aa (ac 0) (aa (f2 bZ (ac 6) (fC (.int 2))) (aa (fC (.int 3)) ah)))))) (cX (et 9 (f2 ixD (bz (aa (fC .non) (aa (ai ag 3 (aa (ac 0) (aa (f2 bZ (ac 6) (fC (.int 7))) (aa (fC (.int 60)) ah)))) ah))) (ai ag 3 (aa (ac 0) (aa (f2 bZ (ac 6) (fC (.int 6))) (aa (fC (.int 2)) ah)))))) (cX (et 10 (f2 eqX (ai ag 3 (aa (ac 0) (aa (f2 bZ (ac 6) (fC (.int 4))) (aa (fC (.int 2)) ah)))) (fC (.int 0)))) (cX (et 11 (bp (aa (ac 7) (aa (ac 8) (aa (ai bq 2 (aa (ac 0) (aa (f2 bZ (ac 6) (fC (.int 3))) ah))) (aa (ac 10) (aa (ai cx 2 (aa (ac 0) (aa (f2 bZ (ac 6) (fC (.int 5))) ah))) ah))))))) (cX (et 12 (f2 ixD (bz (aa (fC (.str "any")) (aa (fC (.str "any")) (aa (fC (.str "near")) ah)))) (ai ag 3 (aa (ac 0) (aa (f2 bZ (ac 6) (fC (.int 9))) (aa (fC (.int 3)) ah)))))) (cX (et 13 (f2 eqX (ai ag 3 (aa (ac 0) (aa (f2 bZ (ac 6) (fC (.int 8))) (aa (fC (.int 2)) ah)))) (fC (.int 0)))) (cX (et 14 (f2 bZ (ac 4) (ai ag 3 (aa (ac 0) (aa (f2 bZ (ac 6) (fC (.int 10))) (aa (fC (.int 5)) ah)))))) (cX (et 15 (f2 bZ (ac 11) (bp (aa (ac 9) (aa (ac 13) (aa (ac 12) (aa (ac 4) (aa (ac 14) ah)))))))) (Am 3 cJ (xh (ac 15)) oX)))))))))))):=rfl;rw [eB];subst hh;simp [jb,cX,et,lz,bnd,ai,aa,ah,ac,fC,f2,bp,bz,vP,hmul,e0,e1,e2,e3,e4,e5,e6,e7,e8,e9,e10,i1,i2,i6,i9,eqX,eqS,E15,enc,n];simp [bZ]
 rw [hrun];cases hf:(js.filter (fun o=>q_ (key o=key n))) with
 | nil =>
  rw [hf] at hc;refine ⟨E15,js ++ [n],now + d0,?_,rfl,J.add a0 b0 gn (by show now + d0 + d10≤39; omega) rfl hf⟩;unfold Am;rw [hc];show (if (js.map enc).length < 100000 then _ else _)=_;rw [if_pos (by have:=J.l; simp; omega)];show a_ (Fo.nx _ (js.map enc ++ [enc n]))=_;simp
 | cons c r =>
  rw [hf] at hc;refine ⟨E15,js,now + d0,?_,rfl,J.keep a0 b0⟩;unfold Am;rw [hc];rfl
theorem rz (ns:List Int) (hl:ns.length≤63) (z m:Int):∀ (ks:List Int) (ρ:Ev) (now:Int) (B:Nat) (js:List Note),B + ks.length≤10→fgt [5,6,7,8,9,10,11,12,13,14,15] ρ=jb ns z m now→JI B js now →
 ∃ js' now',la 5 [5,6,7,8,9,10,11,12,13,14,15] bQ (ks.map Dv.int) ρ (js.map enc)=a_ (.nx (jb ns z m now') (js'.map enc))∧JI (B + ks.length) js' now'
 | [],ρ,now,B,js,_,hρ,J=>⟨js,now,by show a_ (Fo.nx _ _)=_; rw [hρ],J⟩
 | k :: ks,ρ,now,B,js,hb,hρ,J=>by
  simp only [LR] at hb;obtain ⟨ρ',js',now',e,hρ',J'⟩:=vQ ns hl z m now k J (by omega);obtain ⟨js2,now2,e2,J2⟩:=rz ns hl z m ks ρ' now' (B + 1) js' (by omega) hρ' J';refine ⟨js2,now2,?_,by rw [LR,show B + (ks.length + 1)=B + 1 + ks.length by omega]; exact J2⟩;show (match bQ ((fgt _ ρ).set 5 (a_ (.int k))) (js.map enc) with
   | some (.nx ρ' xs')=>la 5 _ bQ (ks.map Dv.int) ρ' xs'
   | o=>o)=_
  rw [hρ,e];exact e2
theorem jar_ok (ns:List Int) (hl:ns.length≤63) (z:Int) (m:Nat) (hm:m≤8):∃ js now,ik [.scr ns,.int z,.int m]=a_ (.ok (ej js))∧Jar js∧js.length≤m∧JI m js now:=by
 obtain ⟨d,a0,b0,e0⟩:=aQ ns hl z (m + 1) (by omega);obtain ⟨c,rfl⟩:∃ c:Nat,d=(c:Int):=⟨d.toNat,by omega⟩;have hr:jY [.int (c:Int)]=a_ (.ok (((s_ c).map fun i:Nat=>(i:Int)).map Dv.int)):=by
  rw [y4 (by omega),qe];simp
 obtain ⟨js,now,e,J⟩:=rz ns hl z m ((s_ c).map fun i:Nat=>(i:Int)) (jb ns z m 0) 0 0 [] (by simp; omega) rfl ⟨by simp,N4,by simp,by simp,by omega,by omega,by simp,by simp⟩;have hlen:((s_ c).map fun i:Nat=>(i:Int)).length=c:=by simp
 rw [hlen] at J;have J5:=J.l;refine ⟨js,now,?_,J.jar (by omega),by omega,⟨J.g,J.s,J.k,by omega,J.n0,by have:=J.n1; omega,J.m,J.u⟩⟩;refine dI (d:=ej js) ?_;show uA 3 ah _ [a_ (.scr ns),a_ (.int z),a_ (.int m),ck,ck,ck,ck,ck,ck,ck,ck,ck,ck,ck,ck,ck]=_;have hsrc:(fun ρ=>bnd ((aa (ai ag 3 (aa (ac 0) (aa (ac 1) (aa (f2 bZ (ac 2) (fC (.int 1))) ah)))) ah) ρ) jY) (jb ns z m 0)=a_ (.ok (((s_ c).map fun i:Nat=>(i:Int)).map Dv.int)):=by
  have h:(aa (ai ag 3 (aa (ac 0) (aa (ac 1) (aa (f2 bZ (ac 2) (fC (.int 1))) ah)))) ah) (jb ns z m 0)=a_ (.ok [.int (c:Int)]):=by
   simp [bnd,aa,ah,ai,fC,ac,f2,jb,vP,e0]
  exact (vN (k:=jY) h).trans hr
 have hfor:uB 5 [5,6,7,8,9,10,11,12,13,14,15] (fun ρ=>bnd ((aa (ai ag 3 (aa (ac 0) (aa (ac 1) (aa (f2 bZ (ac 2) (fC (.int 1))) ah)))) ah) ρ) jY) bQ (jb ns z m 0) []=a_ (.nx (jb ns z m now) (js.map enc)):=by
  unfold uB;rw [hsrc];show (if imms (((s_ c).map fun i:Nat=>(i:Int)).map Dv.int)=c_ then _ else ck)=_;rw [if_pos (oO _)];exact e
 have hle:js.length≤100000:=by omega
 have hret:kq 3 (fB1 cD (aa (ac 3) ah)) (jb ns z m now) (js.map enc)=a_ (.rt (ej js)):=by
  unfold kq;rw [eY (ae (x:=.lst (js.map enc)) rfl aw)];rfl
 have hbody:(cX (et 4 (fC (.int 0))) (cX (uB 5 [5,6,7,8,9,10,11,12,13,14,15] (fun ρ=>bnd ((aa (ai ag 3 (aa (ac 0) (aa (ac 1) (aa (f2 bZ (ac 2) (fC (.int 1))) ah)))) ah) ρ) jY) bQ) (kq 3 (fB1 cD (aa (ac 3) ah))))) [a_ (.scr ns),a_ (.int z),a_ (.int m),ck,ck,ck,ck,ck,ck,ck,ck,ck,ck,ck,ck,ck] []=a_ (.rt (ej js)):=by
  rw [gF (show et 4 (fC (.int 0)) [a_ (.scr ns),a_ (.int z),a_ (.int m),ck,ck,ck,ck,ck,ck,ck,ck,ck,ck,ck,ck,ck] []=a_ (.nx (jb ns z m 0) []) from rfl)];rw [gF hfor];exact hret
 unfold uA;show (if ([]:List Dv).length≤100000 then _ else ck)=_;rw [if_pos (by simp)];exact (congrArg (fun o=>match o with | some (Fo.nx ρ' ds')=>a_ (Fl.nx (List.set ρ' 3 (a_ (Dv.lst ds')))) | some (Fo.rt d)=>a_ (Fl.rt d) | none=>ck) hbody).trans rfl
end J
namespace J
open PySem PySem.Spec PyProof.Rows L2 FD
theorem oP (n:Note):eN [enc n]=a_ (.ok (ek n)):=by simp [eN,bt,xV,ay,bO,bnd,aa,ah,ac,fC,f2,ixD,atD,bp,enc,ek]
theorem oQ:∀ js:List Note,kw (js.map ek)=a_ (js.map key)
 | []=>rfl
 | n :: js=>by
  show (match lB [.str n.nm,.str n.house,.str n.path],kw (js.map ek) with | some k,a_ ks=>a_ (k :: ks) | _,_=>ck)=_
  rw [oQ js];rfl
theorem vR {js:List Note}:((ST.ddk (js.map key)).length == js.length)=q_ ((js.map key).Nodup):=by
 have:=ST.ddk_eq (js.map key);rw [La] at this;rw [Ln];simp [this]
theorem BB {js:List Note} (hl:js.length≤18):cB [ej js]=bo (q_ ((js.map key).Nodup)):=by
 have e1:bB 1 [] (ef (ac 0)) (gN 0) ck (ai eN 1 (aa (ac 0) ah)) [a_ (ej js),ck]=a_ (.ok (.lst (js.map ek))) :=
  kW enc ek (ie rfl) (by omega) fun n hn=>jw eN rfl (oP n)
 have e2:ky [.lst (js.map ek)]=a_ (.ok (.int (ST.ddk (js.map key)).length)):=by
  show (match kw (js.map ek) with | some ks=>if ks.length≤20 then (a_ (.ok (.int (ST.ddk ks).length)):Option (Rs Dv)) else ck | none=>ck)=_
  rw [oQ];dsimp only;rw [if_pos (by simp; omega)]
 refine dI ?_;show cg [a_ (ej js),ck]=_;unfold cg;rw [al (aI (ρ':=[a_ (ej js),a_ (.lst (js.map ek))]) e1 rfl)];refine di ((aT ((eY (ae (x:=.lst (js.map ek)) rfl aw)).trans e2) (y:=.int js.length) (by show a_ (Rs.ok (Dv.int ((js.map ek).length:Int)))=_; rw [La])).trans ?_);show a_ (Rs.ok (Dv.bl (((ST.ddk (js.map key)).length:Int) == (js.length:Int))))=_;rw [← vR];congr 3;rw [Ln];simp;omega
theorem all_map {α:Type} (p:α→Bool) (l:List α):ju [.lst (l.map fun a=>Dv.bl (p a))]=bo (l.all p):=by
 unfold ju;dsimp only;rw [kX p l];dsimp only;rw [List.all_map];rfl
theorem yi {α:Type} (l:List α):ju [.lst (l.map fun _=>Dv.bl c_)]=bo c_:=by
 rw [all_map (fun _=>c_) l];simp
theorem BC {js:List Note} {i:Nat} (h:i < js.length):ixD (ej js) (.int i)=a_ (.ok (enc js[i])):=by
 show (match atD (js.map enc) (i:Int) with | some d=>_ | none=>_)=_
 unfold atD;rw [if_pos (by omega)];simp [h]
theorem BD (n:Note):ixD (enc n) (.int 8)=a_ (.ok (.int n.md)):=rfl
theorem F3 (js:List Note) (hl:js.length≤18):(fun ρ=>bnd ((aa (fC (.int 1)) (aa (fB1 iB (aa (ac 0) ah)) ah)) ρ) we) [a_ (ej js)]=a_ (.ok ((s_ (js.length - 1)).map fun i:Nat=>Dv.int (1 + (i:Int)))):=by
 have h:(aa (fC (.int 1)) (aa (fB1 iB (aa (ac 0) ah)) ah)) [a_ (ej js)]=a_ (.ok [.int 1,.int js.length]):=by
  simp [bnd,aa,ah,fB1,fC,ac,ej,iB]
 refine (vN (k:=we) h).trans ?_;rw [Fb (by omega),qe,show ((js.length:Int) - 1).toNat=js.length - 1 by omega]
def JD:FnE:=(f2 leX (f2 ixD (f2 ixD (ac 1) (f2 yD (ac 0) (fC (.int 1)))) (fC (.int 8))) (f2 ixD (f2 ixD (ac 1) (ac 0)) (fC (.int 8))))
def wj (js:List Note) (i:Nat):Int:=(js[i]?.map Note.md).getD 0
def riB (js:List Note):Bool:=(s_ (js.length - 1)).all fun i=>q_ (wj js i≤wj js (i + 1))
theorem mQ {js:List Note} {i:Nat} (h:i < js.length):wj js i=js[i].md:=by
 unfold wj;rw [Lb h];rfl
theorem F4 {js:List Note} {i:Nat} (hi':i + 1 < js.length):JD [a_ (.int (1 + (i:Int))),a_ (ej js)]=a_ (.ok (.bl (q_ (wj js i≤wj js (i + 1))))):=by
 have h1:f2 ixD (ac 1) (f2 yD (ac 0) (fC (.int 1))) [a_ (.int (1 + (i:Int))),a_ (ej js)]=a_ (.ok (enc js[i])):=by
  have q:=BC (js:=js) (i:=i) (by omega);rw [show (i:Int)=1 + (i:Int) - 1 by omega] at q;exact q
 have h2:f2 ixD (ac 1) (ac 0) [a_ (.int (1 + (i:Int))),a_ (ej js)]=a_ (.ok (enc js[i + 1])):=by
  have q:=BC (js:=js) (i:=i + 1) hi';rw [show ((i + 1:Nat):Int)=1 + (i:Int) by omega] at q;exact q
 rw [mQ (show i < js.length by omega),mQ hi'];exact (aT ((aT h1 rfl).trans (BD _)) ((aT h2 rfl).trans (BD _))).trans rfl
theorem F5 {js:List Note} (hl:js.length≤18):fJ [ej js]=bo (riB js):=by
 have e:=dU (cs:=[("notes",0)]) (src:=(fun ρ=>bnd ((aa (fC (.int 1)) (aa (fB1 iB (aa (ac 0) ah)) ah)) ρ) we)) (elt:=JD) (ρ:=[a_ (ej js)]) (fun i:Nat=>Dv.int (1 + (i:Int))) (fun i:Nat=>Dv.bl (q_ (wj js i≤wj js (i + 1)))) (F3 js hl) (by rw [O4]; omega) fun i hi=>F4 (by have:=K6.mp hi; omega);exact dI (d:=.bl (riB js)) (di ((eY (ae e aw)).trans (all_map (fun i:Nat=>q_ (wj js i≤wj js (i + 1))) _)))
def isJ (js:List Note):Bool:=riB js && q_ ((js.map key).Nodup)
theorem IM {js:List Note} (hg:∀ n∈js,Good n) (hl:js.length≤18):dg [ej js]=bo (isJ js):=by
 have ta:cq [] (ef (ac 0)) ck (ai fm 1 (aa (ac 0) ah)) [a_ (ej js)]=a_ (.ok (.lst (js.map fun _=>Dv.bl c_))) :=
  dU enc (fun _=>Dv.bl c_) (ie rfl) (by omega) fun n hn=>jw fm rfl (FY (hg n hn))
 have tb:(bOr (br (fB (f1 (cQ bV) (ac 0)))) (fB (f2 gtD (fB1 iB (aa (ac 0) ah)) (fC (.int 20))))) [a_ (ej js)]=a_ (.ok d_):=by
  have e3:¬ (20 < (js.length:Int)):=by omega
  simp [bOr,br,fB,f1,f2,cQ,bV,ac,bnd,toB,fB1,aa,ah,fC,ej,iB,Hh,e3]
 have tc:fB1 ju (aa (cq [] (ef (ac 0)) ck (ai fm 1 (aa (ac 0) ah))) ah) [a_ (ej js)]=bo c_:=(eY (ae ta aw)).trans (yi js);refine dI ?_;show jd [a_ (ej js)]=_;unfold jd;rw [al (bA tb)];rw [al (bA (jv (k:=c_) (bf tc)))];refine di ?_;have hm:=jw fJ (f:=ac 0) (ρ:=[a_ (ej js)]) rfl (F5 hl);unfold isJ;cases hr:riB js with
 | false=>rw [hr] at hm; rw [Dx hm]; rfl
 | true=>rw [hr] at hm; rw [Dy hm]; exact jw cB rfl (BB hl)
theorem F6 {js:List Note} (J:Jar js):isJ js=c_:=by
 unfold isJ;rw [n_,decide_eq_true_eq];refine ⟨Lk.mpr fun i hi=>?_,J.k⟩;have hi':i + 1 < js.length:=by have:=K6.mp hi; omega
 rw [decide_eq_true_eq,mQ (show i < js.length by omega),mQ hi'];exact J.s i hi'
theorem jar_y {js:List Note} (J:Jar js):dg [ej js]=bo c_:=by rw [IM J.g J.l,F6 J]
end J
namespace J
open PySem PySem.Spec PyProof.Rows L2 FD
abbrev zz0:FnE:=(bB 2 [("_law_own_here",8)] (fun ρ=>bnd ((aa (ac 6) ah) ρ) kj) (gP 0 1) (a_ (fB (f2 eqX (bp (aa (f2 ixD (ac 1) (fC (.int 0))) (aa (f2 ixD (ac 1) (fC (.int 2))) (aa (f2 ixD (ac 1) (fC (.int 4))) ah)))) (ac 2)))) (ac 0))
abbrev zz1:FnA:=(aa (ac 0) (aa (ac 1) (aa (ac 2) (aa (ac 3) (aa (ac 4) ah)))))
abbrev zz2:FnA:=(aa (ac 0) (aa (ac 2) (aa (ac 3) (aa (ac 4) ah))))
abbrev zz3:FnE:=(f2 bZ (cR (ac 7) cm (bP (fC (.int 8)))) (bp (aa (f2 ixD (f2 ixD (ac 6) (f2 ixD (ac 9) (fC (.int 0)))) (fC (.int 8))) (aa (ac 4) ah))))
abbrev zz4:FnE:=(f2 gR (ac 5) (bp (aa (fC (.str "kept")) (aa (fC (.str "gone")) ah))))
abbrev zz5:FnE:=(bp (aa (f2 ixD (ac 7) (fC (.int 0))) (aa (f2 ixD (ac 7) (fC (.int 2))) (aa (f2 ixD (ac 7) (fC (.int 4))) ah))))
abbrev zz8:FnE:=(f2 ixD (ac 2) (ai ag 3 (aa (ac 0) (aa (f2 bZ (ac 1) (fC (.int 1))) (aa (fB1 iB (aa (ac 2) ah)) ah)))))
abbrev zz9:FnE:=(bB 2 [("_law_places",9)] (fun ρ=>bnd ((aa (ac 6) ah) ρ) kj) (gP 0 1) (a_ (fB (f2 gR (ac 0) (ac 2)))) (ac 1))
theorem mR (n:Note) (k:Int):bL [enc n,.int k]=bo (ended n k):=by
 cases h:n.ends <;> simp [bL,bt,gz,sq,ay,bg,bO,bnd,toB,ac,fC,f2,ixD,atD,cC,cP,enc,eO,ended,h,leX]
def GA (p q:Str):Bool:=match cK [.str p,.str q],cL [.str p,.str q] with
 | some (.ok (.bl k)),a_ (.ok (.bl k'))=>k == k'
 | _,_=>d_
theorem BE:(pths.all fun p=>pths.all fun q=>GA p q)=c_:=by kernel_rfl
theorem IN {p q:Str} (h:p∈pths) (h':q∈pths):∃ k,cK [.str p,.str q]=bo k∧cL [.str p,.str q]=bo k:=by
 have z:=ba (p:=fun q=>GA p q) (ba (p:=fun p=>pths.all fun q=>GA p q) BE h) h';unfold GA at z;split at z
 · rename_i k k' e1 e2;have:k=k':=by simpa using z
   subst this;exact ⟨k,e1,e2⟩
 · cases z
def wiB (p q:Str):Bool:=okY (bc [.str p,.str q])
def unB (p q:Str):Bool:=okY (cK [.str p,.str q])
theorem yj {p q:Str} (h:p∈En) (h':q∈En):bc [.str p,.str q]=bo (wiB p q)∧aD [.str p,.str q]=bo (wiB p q):=by
 obtain ⟨k,h1,h2⟩:=Jv h h';have:wiB p q=k:=by unfold wiB; rw [h1]; cases k <;> rfl
 rw [this];exact ⟨h1,h2⟩
theorem F7 {p q:Str} (h:p∈pths) (h':q∈pths):cK [.str p,.str q]=bo (unB p q)∧cL [.str p,.str q]=bo (unB p q):=by
 obtain ⟨k,h1,h2⟩:=IN h h';have:unB p q=k:=by unfold unB; rw [h1]; cases k <;> rfl
 rw [this];exact ⟨h1,h2⟩
def mU (o N:Note) (now:Int):Bool:=o.S && (!ended o now && (seq o.nm N.nm && ((wiB N.house o.house || wiB o.house N.house) && unB N.path o.path)))
theorem i0 (n:Note):ixD (enc n) (.int 0)=a_ (.ok (.str n.nm)):=rfl
theorem i2 (n:Note):ixD (enc n) (.int 2)=a_ (.ok (.str n.house)):=rfl
theorem i4 (n:Note):ixD (enc n) (.int 4)=a_ (.ok (.str n.path)):=rfl
theorem i6 (n:Note):ixD (enc n) (.int 6)=a_ (.ok (.bl n.S)):=rfl
theorem zh {c:FnB} {rest:FnS} {ρ:Ev} {b:Bool} (hc:c ρ=a_ (.ok b)):ar (aM c (ay (fC (.bl d_))) (fun ρ=>a_ (.nx ρ))) rest ρ=if b=c_ then a_ (.rt (.bl d_)) else rest ρ:=by
 unfold ar aM;rw [hc];cases b <;> rfl
theorem lK {a b:FnB} {ρ:Ev} {x y:Bool} (ha:a ρ=a_ (.ok x)) (hb:b ρ=a_ (.ok y)):bS a b ρ=a_ (.ok (x && y)):=by
 unfold bS; rw [ha]; cases x
 · rfl
 · exact hb
theorem k7 {a:FnB} {ρ:Ev} {x:Bool} (ha:a ρ=a_ (.ok x)):br a ρ=a_ (.ok (!x)):=by
 unfold br; rw [ha]; rfl
theorem ss {o N:Note} (go:Good o) (gN:Good N) (now:Int):hV [enc o,enc N,.int now]=bo (mU o N now):=by
 have w1:=(yj gN.house go.house).1;have w2:=(yj go.house gN.house).1;have u1:=(F7 gN.path go.path).1;have c1:(bOr (br (fB (f2 ixD (ac 0) (fC (.int 6))))) (bOr (fB (ai bL 2 (aa (ac 0) (aa (ac 2) ah)))) (fB (f2 neX (f2 ixD (ac 0) (fC (.int 0))) (f2 ixD (ac 1) (fC (.int 0))))))) [a_ (enc o),a_ (enc N),a_ (.int now)]=a_ (.ok (!o.S || (ended o now || !seq o.nm N.nm))) :=
  rq (k7 (bf (k:=o.S) ((aT (x:=enc o) (y:=.int 6) rfl rfl).trans (i6 o)))) (rq (bf (fW bL rfl rfl (mR o now))) (bf ((aT (x:=.str o.nm) (y:=.str N.nm) rfl rfl).trans rfl)))
 have c2:(bS (br (fB (ai bc 2 (aa (f2 ixD (ac 1) (fC (.int 2))) (aa (f2 ixD (ac 0) (fC (.int 2))) ah))))) (br (fB (ai bc 2 (aa (f2 ixD (ac 0) (fC (.int 2))) (aa (f2 ixD (ac 1) (fC (.int 2))) ah)))))) [a_ (enc o),a_ (enc N),a_ (.int now)]=a_ (.ok (!wiB N.house o.house && !wiB o.house N.house)) :=
  lK (k7 (bf (fW bc rfl rfl w1))) (k7 (bf (fW bc rfl rfl w2)))
 refine dI ?_;show hU [a_ (enc o),a_ (enc N),a_ (.int now)]=_;unfold hU;rw [zh c1,zh c2,yg (fW cK rfl rfl u1)];unfold mU;cases o.S <;> cases ended o now <;> cases seq o.nm N.nm <;> cases wiB N.house o.house <;> cases wiB o.house N.house <;> rfl
end J
namespace J
open PySem PySem.Spec PyProof.Rows L2 FD
theorem any_map {α:Type} (p:α→Bool) (l:List α):AH [.lst (l.map fun a=>Dv.bl (p a))]=bo (l.any p):=by
 show (match fG (l.map fun a=>Dv.bl (p a)) with | some bs=>a_ (Rs.ok (Dv.bl (bs.any id))) | none=>ck)=_
 rw [kX];simp
section
variable {t:List Dv} {h p:Str} {O:Dv} {nm w:Str} {H P u l:Dv} {S:Bool} {R:Str} {s:Bool} {house path:Str} {ex:Bool} {wd:Dv} {now:Int} {js:List Note} {N:Note}
def wv (wd:Dv) (s:Bool) (js:List Note) (N:Note) (now:Int):Dv:=match wd with
 | .non=>if (!s && js.any fun o=>mU o N now)=c_ then .str "shadowed" else if ended N now=c_ then .str "gone" else .str "kept"
 | d=>d
theorem zi {c:FnB} {d:Dv} {rest:FnS} {ρ:Ev} {b:Bool} (hc:c ρ=a_ (.ok b)):ar (aM c (ay (fC d)) (fun ρ=>a_ (.nx ρ))) rest ρ=if b=c_ then a_ (.rt d) else rest ρ:=by
 unfold ar aM;rw [hc];cases b <;> rfl
theorem F8 (W:Wt t h p O nm w H P u l S R s house path ex wd) (hw:wd≠.non):bD [.tup t,ej js,akn s h p O,gvn nm w H P u l S R,.int now]=a_ (.ok wd):=by
 obtain ⟨x,hx⟩:∃ x,wd=.str x:=by
  rcases W.win with e | ⟨x,_,e⟩
  · exact absurd e hw
  · exact ⟨_,e⟩
 subst hx;refine mJ ?_;show er [a_ (.tup t),a_ (ej js),a_ (akn s h p O),a_ (gvn nm w H P u l S R),a_ (.int now),ck,ck]=_;unfold er;have v5:ao aP 3 (aa (ac 0) (aa (ac 2) (aa (ac 3) ah))) [a_ (.tup t),a_ (ej js),a_ (akn s h p O),a_ (gvn nm w H P u l S R),a_ (.int now),ck,ck]=a_ (.ok (.str x)):=cE aP (ae rfl (ae rfl (ae rfl aw))) rfl W.why;rw [al (aI v5 rfl)];simp only [KY,KW];rfl
theorem F9 (ht:t∈j4 rules) (a:Ak h p O) (g:Gv nm w H P u l S R) (n0:0≤now) (n1:now≤9999) (W:Wt t h p O nm w H P u l S R s house path ex .non) (hN:enc N=ntn nm w house ex path (sr u l now) S R now) (gN:Good N) (gj:∀ n∈js,Good n) (hl:js.length≤18) :
 bD [.tup t,ej js,akn s h p O,gvn nm w H P u l S R,.int now]=a_ (.ok (wv .non s js N now)):=by
 have em:=zg ht a g n0 n1 W;rw [← hN] at em;refine mJ ?_;show er [a_ (.tup t),a_ (ej js),a_ (akn s h p O),a_ (gvn nm w H P u l S R),a_ (.int now),ck,ck]=_;unfold er;have v5:ao aP 3 (aa (ac 0) (aa (ac 2) (aa (ac 3) ah))) [a_ (.tup t),a_ (ej js),a_ (akn s h p O),a_ (gvn nm w H P u l S R),a_ (.int now),ck,ck]=a_ (.ok .non):=cE aP (ae rfl (ae rfl (ae rfl aw))) rfl W.why;rw [al (aI v5 rfl)];simp only [KY,KW];rw [al (bA (show fB (f2 cP (ac 5) (fC .non)) [a_ (.tup t),a_ (ej js),a_ (akn s h p O),a_ (gvn nm w H P u l S R),a_ (.int now),a_ .non,ck]=a_ (.ok d_) from rfl))];have v6:ao du 4 (aa (ac 0) (aa (ac 2) (aa (ac 3) (aa (ac 4) ah)))) [a_ (.tup t),a_ (ej js),a_ (akn s h p O),a_ (gvn nm w H P u l S R),a_ (.int now),a_ .non,ck]=a_ (.ok (enc N)):=cE du (ae rfl (ae rfl (ae rfl (ae rfl aw)))) rfl em;rw [al (aI v6 rfl)];simp only [KY,KW];have c1:(bS (br (fB (f2 ixD (ac 2) (fC (.int 0))))) (fB (fB1 AH (aa (cq [("now",4),("note",6)] (ef (ac 1)) ck (ai hV 3 (aa (ac 0) (aa (ac 2) (aa (ac 1) ah))))) ah)))) [a_ (.tup t),a_ (ej js),a_ (akn s h p O),a_ (gvn nm w H P u l S R),a_ (.int now),a_ .non,a_ (enc N)]=a_ (.ok (!s && js.any fun o=>mU o N now)):=by
  refine lK (k7 (bf (k:=s) rfl)) (bf ((eY (ae (x:=.lst (js.map fun o=>Dv.bl (mU o N now))) ?_ aw)).trans (any_map _ _)));exact dU enc (fun o=>Dv.bl (mU o N now)) (ie rfl) (by omega) fun o ho=>jj hV rfl rfl rfl (ss (gj o ho) gN now)
 rw [zi c1];have c2:fB (ai bL 2 (aa (ac 6) (aa (ac 4) ah))) [a_ (.tup t),a_ (ej js),a_ (akn s h p O),a_ (gvn nm w H P u l S R),a_ (.int now),a_ .non,a_ (enc N)]=a_ (.ok (ended N now)):=bf (fW bL rfl rfl (mR N now));rw [zi c2];show _=a_ (Fl.rt (if (!s && js.any fun o=>mU o N now)=c_ then .str "shadowed" else if ended N now=c_ then .str "gone" else .str "kept"));split
 · rfl
 · split <;> rfl
def EV (t:List Dv) (js:List Note) (A Gd:Dv) (now:Int) (N:Note) (x7 x8 x9:Option Dv):Ev:=[a_ (.tup t),a_ (ej js),a_ A,a_ Gd,a_ (.int now),a_ .non,a_ (enc N),x7,x8,x9]
theorem Ga {o:Note} {A Gd:Dv} (go:Good o) (gN:Good N) (hA:ixD A (.int 0)=bo s):bj (EV t js A Gd now N (a_ (enc o)) ck ck)=if (!s && mU o N now)=c_ then a_ (.rt (.str "shadowed")) else a_ (.nx (EV t js A Gd now N (a_ (enc o)) (a_ (.bl (!ended o now))) (a_ (.bl (wiB o.house N.house || wiB N.house o.house))))):=by
 have w1:=(yj gN.house go.house).2;have w2:=(yj go.house gN.house).2;have u1:=(F7 gN.path go.path).2;unfold bj;have v8:(vOr (f2 isN (f2 ixD (ac 7) (fC (.int 5))) (fC .non)) (f2 gtD (f2 ixD (ac 7) (fC (.int 5))) (ac 4))) (EV t js A Gd now N (a_ (enc o)) ck ck)=bo (!ended o now):=by
  unfold ended;cases q:o.ends with
  | none =>
   unfold vOr;rw [show f2 isN (f2 ixD (ac 7) (fC (.int 5))) (fC .non) (EV t js A Gd now N (a_ (enc o)) ck ck)=bo c_ from (aT (x:=eO o.ends) (y:=.non) rfl rfl).trans (by rw [q]; rfl)];rfl
  | some i =>
   unfold vOr;rw [show f2 isN (f2 ixD (ac 7) (fC (.int 5))) (fC .non) (EV t js A Gd now N (a_ (enc o)) ck ck)=bo d_ from (aT (x:=eO o.ends) (y:=.non) rfl rfl).trans (by rw [q]; rfl)];show f2 gtD (f2 ixD (ac 7) (fC (.int 5))) (ac 4) (EV t js A Gd now N (a_ (enc o)) ck ck)=_;rw [aT (x:=eO o.ends) (y:=.int now) rfl rfl,q];show a_ (Rs.ok (Dv.bl (q_ (i > now))))=a_ (Rs.ok (Dv.bl (!q_ (i≤now))));congr 3;rw [Ln];simp
 have s8:aL 8 (vOr (f2 isN (f2 ixD (ac 7) (fC (.int 5))) (fC .non)) (f2 gtD (f2 ixD (ac 7) (fC (.int 5))) (ac 4))) (EV t js A Gd now N (a_ (enc o)) ck ck)=a_ (.nx (EV t js A Gd now N (a_ (enc o)) (a_ (.bl (!ended o now))) ck)):=aI v8 rfl;rw [al s8];have v9:(vOr (ai aD 2 (aa (f2 ixD (ac 7) (fC (.int 2))) (aa (f2 ixD (ac 6) (fC (.int 2))) ah))) (ai aD 2 (aa (f2 ixD (ac 6) (fC (.int 2))) (aa (f2 ixD (ac 7) (fC (.int 2))) ah)))) (EV t js A Gd now N (a_ (enc o)) (a_ (.bl (!ended o now))) ck)=bo (wiB o.house N.house || wiB N.house o.house):=by
  have z1:ai aD 2 (aa (f2 ixD (ac 7) (fC (.int 2))) (aa (f2 ixD (ac 6) (fC (.int 2))) ah)) (EV t js A Gd now N (a_ (enc o)) (a_ (.bl (!ended o now))) ck)=bo (wiB o.house N.house):=fW aD rfl rfl w2;have z2:ai aD 2 (aa (f2 ixD (ac 6) (fC (.int 2))) (aa (f2 ixD (ac 7) (fC (.int 2))) ah)) (EV t js A Gd now N (a_ (enc o)) (a_ (.bl (!ended o now))) ck)=bo (wiB N.house o.house):=fW aD rfl rfl w1;unfold vOr;rw [z1];cases wiB o.house N.house
  · exact z2
  · rfl
 have s9:aL 9 (vOr (ai aD 2 (aa (f2 ixD (ac 7) (fC (.int 2))) (aa (f2 ixD (ac 6) (fC (.int 2))) ah))) (ai aD 2 (aa (f2 ixD (ac 6) (fC (.int 2))) (aa (f2 ixD (ac 7) (fC (.int 2))) ah)))) (EV t js A Gd now N (a_ (enc o)) (a_ (.bl (!ended o now))) ck)=a_ (.nx (EV t js A Gd now N (a_ (enc o)) (a_ (.bl (!ended o now))) (a_ (.bl (wiB o.house N.house || wiB N.house o.house))))):=aI v9 rfl;rw [al s9];have c:(bS (fB (ac 8)) (bS (fB (f2 ixD (ac 7) (fC (.int 6)))) (bS (fB (f2 eqX (f2 ixD (ac 7) (fC (.int 0))) (f2 ixD (ac 6) (fC (.int 0))))) (bS (fB (ac 9)) (br (fB (f2 ixD (ac 2) (fC (.int 0))))))))) (EV t js A Gd now N (a_ (enc o)) (a_ (.bl (!ended o now))) (a_ (.bl (wiB o.house N.house || wiB N.house o.house))))=a_ (.ok (!ended o now && (o.S && (seq o.nm N.nm && ((wiB o.house N.house || wiB N.house o.house) && !s))))) :=
  lK (bf (k:=!ended o now) rfl) (lK (bf (k:=o.S) rfl) (lK (bf ((aT (x:=.str o.nm) (y:=.str N.nm) rfl rfl).trans rfl)) (lK (bf (k:=(wiB o.house N.house || wiB N.house o.house)) rfl) (k7 (bf ((aT (x:=A) (y:=.int 0) rfl rfl).trans hA))))))
 have c2:fB (ai cL 2 (aa (f2 ixD (ac 6) (fC (.int 4))) (aa (f2 ixD (ac 7) (fC (.int 4))) ah))) (EV t js A Gd now N (a_ (enc o)) (a_ (.bl (!ended o now))) (a_ (.bl (wiB o.house N.house || wiB N.house o.house))))=a_ (.ok (unB N.path o.path)):=bf (fW cL rfl rfl u1);unfold aM;rw [c,c2];unfold mU;cases s <;> cases o.S <;> cases ended o now <;> cases seq o.nm N.nm <;> cases wiB N.house o.house <;> cases wiB o.house N.house <;> cases unB N.path o.path <;> rfl
theorem zj {A Gd:Dv} (gN:Good N) (hA:ixD A (.int 0)=bo s):∀ (xs:List Note) (x7 x8 x9:Option Dv),(∀ n∈xs,Good n)→k9 7 [7,8,9] bj (xs.map enc) (EV t js A Gd now N x7 x8 x9)=if (!s && xs.any fun o=>mU o N now)=c_ then a_ (.rt (.str "shadowed")) else a_ (.nx (EV t js A Gd now N ck ck ck))
 | [],_,_,_,_=>by cases s <;> rfl
 | o :: xs,x7,x8,x9,hg=>by
  have ih:=zj (Gd:=Gd) gN hA xs (a_ (enc o)) (a_ (.bl (!ended o now))) (a_ (.bl (wiB o.house N.house || wiB N.house o.house))) fun n hn=>hg n (pi _ hn);rw [Lg];unfold k9;show (match bj (EV t js A Gd now N (a_ (enc o)) ck ck) with | some (.nx ρ')=>k9 7 [7,8,9] bj (xs.map enc) ρ' | o=>o)=_
  rw [Ga (hg o o_) gN hA,Oj];cases hs:(!s && mU o N now) with
  | true =>
   rw [if_pos rfl];have:(!s && (mU o N now || xs.any fun o=>mU o N now))=c_:=by
    cases s <;> simp_all
   rw [if_pos this]
  | false =>
   rw [if_neg (by simp)];dsimp only;rw [ih];have:(!s && (mU o N now || xs.any fun o=>mU o N now))=(!s && xs.any fun o=>mU o N now):=by
    cases s <;> simp_all
   rw [this]
theorem vS (W:Wt t h p O nm w H P u l S R s house path ex wd) (hw:wd≠.non):aV [.tup t,ej js,akn s h p O,gvn nm w H P u l S R,.int now]=a_ (.ok wd):=by
 obtain ⟨x,hx⟩:∃ x,wd=.str x:=by
  rcases W.win with e | ⟨x,_,e⟩
  · exact absurd e hw
  · exact ⟨_,e⟩
 subst hx;refine dI ?_;show cj [a_ (.tup t),a_ (ej js),a_ (akn s h p O),a_ (gvn nm w H P u l S R),a_ (.int now),ck,ck,ck,ck,ck]=_;unfold cj;have v5:ai dF 3 (aa (ac 0) (aa (ac 2) (aa (ac 3) ah))) [a_ (.tup t),a_ (ej js),a_ (akn s h p O),a_ (gvn nm w H P u l S R),a_ (.int now),ck,ck,ck,ck,ck]=a_ (.ok (.str x)):=jj dF rfl rfl rfl W.law;rw [al (aI v5 rfl)];simp only [KY,KW];rfl
theorem vT (a:Ak h p O) (g:Gv nm w H P u l S R) (W:Wt t h p O nm w H P u l S R s house path ex .non) (hN:enc N=ntn nm w house ex path (sr u l now) S R now) (gN:Good N) (gj:∀ n∈js,Good n) (hl:js.length≤18) :
 aV [.tup t,ej js,akn s h p O,gvn nm w H P u l S R,.int now]=a_ (.ok (wv .non s js N now)):=by
 have em:=vL (now:=now) a g W;rw [← hN] at em;refine dI ?_;show cj [a_ (.tup t),a_ (ej js),a_ (akn s h p O),a_ (gvn nm w H P u l S R),a_ (.int now),ck,ck,ck,ck,ck]=_;unfold cj;have v5:ai dF 3 (aa (ac 0) (aa (ac 2) (aa (ac 3) ah))) [a_ (.tup t),a_ (ej js),a_ (akn s h p O),a_ (gvn nm w H P u l S R),a_ (.int now),ck,ck,ck,ck,ck]=a_ (.ok .non):=jj dF rfl rfl rfl W.law;rw [al (aI v5 rfl)];simp only [KY,KW];rw [al (bA (show fB (f2 cP (ac 5) (fC .non)) [a_ (.tup t),a_ (ej js),a_ (akn s h p O),a_ (gvn nm w H P u l S R),a_ (.int now),a_ .non,ck,ck,ck,ck]=a_ (.ok d_) from rfl))];have v6:ai bM 4 (aa (ac 0) (aa (ac 2) (aa (ac 3) (aa (ac 4) ah)))) [a_ (.tup t),a_ (ej js),a_ (akn s h p O),a_ (gvn nm w H P u l S R),a_ (.int now),a_ .non,ck,ck,ck,ck]=a_ (.ok (enc N)):=dH (ae rfl (ae rfl (ae rfl (ae rfl aw)))) rfl em;rw [al (aI v6 rfl)];simp only [KY,KW];have lp:=zj (t:=t) (js:=js) (A:=akn s h p O) (Gd:=gvn nm w H P u l S R) (now:=now) (s:=s) gN rfl js ck ck ck gj;have lf:wf 7 [7,8,9] (ef (ac 1)) bj (EV t js (akn s h p O) (gvn nm w H P u l S R) now N ck ck ck)=_:=(Ab (ie (js:=js) rfl)).trans lp;show ar (wf 7 [7,8,9] (ef (ac 1)) bj) _ (EV t js (akn s h p O) (gvn nm w H P u l S R) now N ck ck ck)=a_ (.rt (if (!s && js.any fun o=>mU o N now)=c_ then .str "shadowed" else if ended N now=c_ then .str "gone" else .str "kept"));cases hs:(!s && js.any fun o=>mU o N now) with
 | true =>
  rw [hs,if_pos rfl] at lf;unfold ar;rw [lf];rfl
 | false =>
  rw [hs,if_neg (by simp)] at lf;rw [al lf,if_neg (by simp)];have c:(bS (fB (f2 cP (f2 ixD (ac 6) (fC (.int 5))) (fC .non))) (fB (f2 leX (f2 ixD (ac 6) (fC (.int 5))) (ac 4)))) (EV t js (akn s h p O) (gvn nm w H P u l S R) now N ck ck ck)=a_ (.ok (ended N now)):=by
   unfold ended;cases q:N.ends with
   | none=>exact qC (bf ((aT (x:=eO N.ends) (y:=.non) rfl rfl).trans (by rw [q]; rfl)))
   | some i =>
    rw [qB (bf ((aT (x:=eO N.ends) (y:=.non) rfl rfl).trans (by rw [q]; rfl)))];exact bf ((aT (x:=eO N.ends) (y:=.int now) rfl rfl).trans (by rw [q]; rfl))
  refine yg ?_;unfold fIf;rw [c];cases ended N now <;> rfl
end
end J
namespace J
open PySem PySem.Spec PyProof.Rows L2 FD
theorem oR {tst:FnB} {elt:FnE} {cap:Ev} {α:Type} (u v f:α→Dv) (p:α→Bool):∀ {l:List α},(∀ a∈l,tst ((cap.set 0 (a_ (u a))).set 1 (a_ (v a)))=a_ (.ok (p a))∧elt ((cap.set 0 (a_ (u a))).set 1 (a_ (v a)))=a_ (.ok (f a)))→iW (gP 0 1) (a_ tst) elt cap (l.map fun a=>.tup [u a,v a])=a_ ((l.filter p).map f)
 | [],_=>rfl
 | a :: l,h=>by
  have ih:=oR (tst:=tst) (elt:=elt) (cap:=cap) u v f p (l:=l) fun b hb=>h b (pi _ hb);obtain ⟨h1,h2⟩:=h a o_;rw [Lg];unfold iW;show (match tst ((cap.set 0 (a_ (u a))).set 1 (a_ (v a))) with | some (.ok c_)=>_ | some (.ok d_)=>_ | _=>_)=_
  rw [h1,ih];cases q:p a with
  | true=>dsimp only; rw [h2,NQ q]; rfl
  | false=>dsimp only; rw [NR (by rw [q]; decide)]
theorem lL {cs:List (Str×Nat)} {src:FnA} {tst:FnB} {elt:FnE} {ρ:Ev} {α:Type} (u v f:α→Dv) (p:α→Bool) {l:List α} (hs:src ρ=a_ (.ok (l.map fun a=>.tup [u a,v a]))) (hl:l.length≤100000) (h:∀ a∈l,tst (((gq 2 cs ρ).set 0 (a_ (u a))).set 1 (a_ (v a)))=a_ (.ok (p a))∧elt (((gq 2 cs ρ).set 0 (a_ (u a))).set 1 (a_ (v a)))=a_ (.ok (f a))):bB 2 cs src (gP 0 1) (a_ tst) elt ρ=a_ (.ok (.lst ((l.filter p).map f))):=by
 unfold bB;rw [hs];show (match iW (gP 0 1) (a_ tst) elt (gq 2 cs ρ) (l.map fun a=>.tup [u a,v a]) with | some ys=>_ | none=>_)=_
 rw [oR u v f p h];dsimp only;have:=ME p l;rw [if_pos ⟨by simp; omega,by simpa using hl⟩]
def yk (js:List Note) (n:Note):List Note:=match js.filter (fun o=>q_ (key o=key n)) with
 | []=>js ++ [n]
 | o :: _=>js.map fun x=>if key x=key n then { n with md:=o.md } else x
theorem Gb {js:List Note} {n:Note} (hg:∀ o∈js,Good o) (gn:Good n) (hl:js.length≤18):xW [ej js,enc n]=a_ (.ok (ej (yk js n))):=by
 have t1:∀ o∈js,∀ (r:Ev),(fB (f2 eqX (ai eN 1 (aa (ac 0) ah)) (ai eN 1 (aa (ac 1) ah)))) (a_ (enc o) :: a_ (enc n) :: r)=a_ (.ok (q_ (key o=key n))):=fun o ho r=>bf ((aT (jw eN rfl (oP o)) (jw eN rfl (oP n))).trans (yh (hg o ho) gn).1);have e1:=lG (cs:=[("note",1)]) (src:=ef (ac 0)) (tst:=(fB (f2 eqX (ai eN 1 (aa (ac 0) ah)) (ai eN 1 (aa (ac 1) ah))))) (elt:=ac 0) (ρ:=[a_ (ej js),a_ (enc n),ck,ck]) enc (fun o=>q_ (key o=key n)) enc (ie rfl) (by omega) fun o ho=>⟨t1 o ho [],rfl⟩;unfold yk;cases hf:js.filter (fun o=>q_ (key o=key n)) with
 | nil =>
  rw [hf] at e1;refine dI (d:=ej (js ++ [n])) ?_;show pW [a_ (ej js),a_ (enc n),ck,ck]=_;unfold pW;rw [al (aI e1 rfl)];simp only [KY,KW];refine kl ?_;rw [pI (by kernel_rfl)];refine di ?_;have hle:js.length + 1≤100000:=by omega
  simp [ar,sq,aM,ay,bg,bi,aL,bO,bnd,bOr,bS,br,fB,toB,ai,ao,aa,ah,ac,fC,f1,f2,ixD,atD,vOr,cC,fH,fIf,bp,bz,fB1,fM,aG,bx,isN,cP,cQ,aO,bV,bT,bW,ej,bZ,hle]
 | cons o rest =>
  rw [hf] at e1;have ho:o∈js:=(Lm.mp (hf ▸ o_:o∈js.filter _)).1;refine dI (d:=ej (js.map fun x=>if key x=key n then { n with md:=o.md } else x)) ?_;show pW [a_ (ej js),a_ (enc n),ck,ck]=_;unfold pW;rw [al (aI e1 rfl)];simp only [KY,KW];have hne:(fB (f2 eqX (ac 2) (bz ah))) [a_ (ej js),a_ (enc n),a_ (.lst ((o :: rest).map enc)),ck]=a_ (.ok d_):=by
   have i1:It1 2 (.lst ((o :: rest).map enc)):=vq fun d hd=>by
    obtain ⟨x,hx,rfl⟩:=Lp.mp hd;have:x∈js.filter (fun o=>q_ (key o=key n)):=by rw [hf]; exact hx
    exact vM (hg x (Lm.mp this).1)
   have i2:=i1.okP (by omega);have i3:okP (.lst [])=c_:=by kernel_rfl
   have i4:eqX (.lst ((o :: rest).map enc)) (.lst [])=bo d_:=by
    unfold eqX;rw [show eqS (.lst ((o :: rest).map enc)) (.lst [])=ck from rfl,i2,i3];simp [de,toPys,Ll,Mn]
   exact bf i4
  rw [al (bA hne)];have hnew:(f2 bZ (f2 bZ (cR (ac 1) cm (bP (fC (.int 8)))) (bp (aa (f2 ixD (f2 ixD (ac 2) (fC (.int 0))) (fC (.int 8))) ah))) (cR (ac 1) (bP (f2 bZ (fC (.int 8)) (fC (.int 1)))) cm)) [a_ (ej js),a_ (enc n),a_ (.lst ((o :: rest).map enc)),ck]=a_ (.ok (enc { n with md:=o.md })):=by kernel_rfl
  rw [al (aI hnew rfl)];simp only [KY,KW];refine di ?_;have e2:=dU (cs:=[("note",1),("newer",3)]) (src:=ef (ac 0)) (elt:=(fIf (fB (f2 eqX (ai eN 1 (aa (ac 0) ah)) (ai eN 1 (aa (ac 1) ah)))) (ac 2) (ac 0))) (ρ:=[a_ (ej js),a_ (enc n),a_ (.lst ((o :: rest).map enc)),a_ (enc { n with md:=o.md })]) enc (fun x=>enc (if key x=key n then { n with md:=o.md } else x)) (ie rfl) (by omega) fun x hx=>by
   have t:=t1 x hx [a_ (enc { n with md:=o.md })];by_cases hk:key x=key n
   · rw [if_pos hk];rw [decide_eq_true hk] at t;exact (Dz t).trans rfl
   · rw [if_neg hk];rw [decide_eq_false hk] at t;exact (DA t).trans rfl
  rw [eY (ae e2 aw)];show a_ (Rs.ok (Dv.tup _))=_;simp [ej]
theorem tE {A:List Note} {n y:Note} {i:Nat} (hi:i < A.length) (hk:key A[i]=key n) (hn:(A.map key).Nodup):A.map (fun x=>if key x=key n then y else x)=A.set i y:=by
 apply O5;intro j;by_cases hj:j < A.length
 · rw [Lx,Lb hj,List.getElem?_set];by_cases hij:i=j
   · subst hij;simp [hk,hi]
   · have:key A[j]≠key n:=fun e=>hij (by
      have h1:i < (A.map key).length:=by simpa using hi
      have h2:j < (A.map key).length:=by simpa using hj
      refine (RC (h₀:=h1) (h₁:=h2) hn).mp ?_;simp [hk,e])
     simp [hij,this,hj]
 · simp [hj]
def swp (js:List Note) (now:Int):List Note:=js.filter fun n=>!ended n now
theorem su {js:List Note} {now:Int} (hl:js.length≤18):cu [ej js,.int now]=a_ (.ok (ej (swp js now))):=by
 refine dI ?_;show cH [a_ (ej js),a_ (.int now)]=_;unfold cH;refine di ?_;have e:(cq [("now",1)] (ef (ac 0)) (a_ (br (fB (ai bL 2 (aa (ac 0) (aa (ac 1) ah)))))) (ac 0)) [a_ (ej js),a_ (.int now)]=a_ (.ok (.lst ((swp js now).map enc))) :=
  kU enc _ enc (ie rfl) (by omega) fun n hn=>⟨k7 (bf (fW bL rfl rfl (mR n now))),rfl⟩
 exact (eY (ae e aw)).trans rfl
theorem zk:∀ (l:List Note) (k:Nat),io k (l.map enc)=(l.zipIdx k).map fun p=>Dv.tup [.int (p.2:Int),enc p.1]
 | [],_=>rfl
 | a :: as,k=>by
  show Dv.tup [.int (k:Int),enc a] :: io (k + 1) (as.map enc)=_;rw [zk as (k + 1),Oe];rfl
def plz (A:List Note) (n:Note):List (Note×Nat):=A.zipIdx.filter fun p=>q_ (key p.1=key n)
def plv (A:List Note) (n:Note):List Dv:=(plz A n).map fun p=>Dv.int (p.2:Int)
theorem j9 (q:Note→Bool):∀ (A:List Note) (k:Nat),((A.zipIdx k).filter fun p=>q p.1).map (·.1)=A.filter q
 | [],_=>rfl
 | a :: A,k=>by
  rw [Oe,RD,RD];cases h:q a with
  | true=>rw [if_pos (by simpa using h),if_pos rfl,Lg,j9 q A (k + 1)]
  | false=>rw [if_neg (by simpa using h),if_neg (by simp),j9 q A (k + 1)]
theorem rA {A:List Note} {p:Note×Nat} (h:p∈A.zipIdx):A[p.2]?=a_ p.1:=List.mem_zipIdx_iff_getElem?.mp h
theorem Gc {A:List Note} {n:Note} {p:Note×Nat} (hp:p∈A.zipIdx):gR (.int (p.2:Int)) (.lst (plv A n))=bo (!q_ (key p.1=key n)):=by
 have hf:(plv A n).all gM=c_:=by
  rw [Lk];intro d hd;obtain ⟨q,_,rfl⟩:=Lp.mp hd;rfl
 have e:((plv A n).any fun y=>eqF y (.int (p.2:Int)))=q_ (key p.1=key n):=by
  unfold plv plz;rw [List.any_map,Ln,Mz,decide_eq_true_eq];have key':∀ q:Note×Nat,(eqF (Dv.int (q.2:Int)) (.int (p.2:Int)))=q_ (q.2=p.2):=fun q=>by
   show ((q.2:Int) == (p.2:Int))=_;rw [Ln];simp;omega
  constructor
  · rintro ⟨q,hq,h⟩;obtain ⟨q1,q2⟩:=Lm.mp hq;have h':q.2=p.2:=by
     have:=key' q;rw [show eqF (Dv.int (q.2:Int)) (.int (p.2:Int))=c_ from h] at this;simpa using this.symm
    have a1:=rA q1;have a2:=rA hp;rw [h',a2] at a1;rw [Lc a1];simpa using q2
  · intro h;exact ⟨p,Lm.mpr ⟨hp,by simpa using h⟩,by show eqF (Dv.int (p.2:Int)) (.int (p.2:Int))=c_; rw [key']; simp⟩
 show (match (match inL (.int (p.2:Int)) (plv A n) with | some b=>a_ b | none=>inP (.int (p.2:Int)) (plv A n)) with | some b=>a_ (Rs.ok (Dv.bl (!b))) | none=>ck)=_
 unfold inL;rw [hf,e];rfl
theorem vU (A:List Note):kj [.lst (A.map enc)]=a_ (.ok (A.zipIdx.map fun p=>Dv.tup [.int (p.2:Int),enc p.1])):=by
 show a_ (Rs.ok (io 0 (A.map enc)))=_;rw [zk A 0]
theorem qf (l:List (Note×Nat)):eqX (.lst (l.map fun p=>Dv.int (p.2:Int))) (.lst [])=bo l.isEmpty:=by
 cases l with
 | nil=>kernel_rfl
 | cons a l =>
  have i1:It1 1 (.lst ((a :: l).map fun p=>Dv.int (p.2:Int))):=vq fun d hd=>by
   obtain ⟨x,hx,rfl⟩:=Lp.mp hd;exact oA
  have i2:=i1.okP (by omega);have i3:okP (.lst [])=c_:=by kernel_rfl
  unfold eqX;rw [show eqS (.lst ((a :: l).map fun p=>Dv.int (p.2:Int))) (.lst [])=ck from rfl,i2,i3];simp [de,toPys,Ll,Mn]
end J
namespace J
open PySem PySem.Spec PyProof.Rows L2 FD
section
variable {T A Gd:Dv} {now:Int} {js:List Note} {N:Note} {d:Dv}
def E8 (T:Dv) (js:List Note) (A Gd:Dv) (now:Int) (x5 x6 x7:Option Dv):Ev:=[a_ T,a_ (ej js),a_ A,a_ Gd,a_ (.int now),x5,x6,x7]
theorem mS (hl:js.length≤18) (hw:bD [T,ej js,A,Gd,.int now]=a_ (.ok d)) {f:FnS} {r:Option Fl} (h:f (E8 T js A Gd now (a_ d) (a_ (ej (swp js now))) ck)=r) :
 ar (aL 5 (ao bD 5 zz1)) (ar (aL 6 (ai cu 2 (aa (ac 1) (aa (ac 4) ah)))) f) (E8 T js A Gd now ck ck ck)=r:=by
 have s5:aL 5 (ao bD 5 zz1) (E8 T js A Gd now ck ck ck)=a_ (.nx (E8 T js A Gd now (a_ d) ck ck)):=aI (cE bD (ae rfl (ae rfl (ae rfl (ae rfl (ae rfl aw))))) rfl hw) rfl;have s6:aL 6 (ai cu 2 (aa (ac 1) (aa (ac 4) ah))) (E8 T js A Gd now (a_ d) ck ck)=a_ (.nx (E8 T js A Gd now (a_ d) (a_ (ej (swp js now))) ck)):=aI (fW cu rfl rfl (su hl)) rfl;rw [al s5,al s6];exact h
theorem lM:(swp js now).length≤js.length:=ME _ _
theorem lN (hl:js.length≤18) (hw:bD [T,ej js,A,Gd,.int now]=a_ (.ok d)) (hk:eqX d (.str "kept")=bo d_) (hg:eqX d (.str "gone")=bo d_):cV [T,ej js,A,Gd,.int now]=a_ (.ok (ej (swp js now))):=by
 refine mJ ?_;show cU (E8 T js A Gd now ck ck ck)=_;unfold cU;refine mS hl hw ?_;have c1:fB (f2 eqX (ac 5) (fC (.str "kept"))) (E8 T js A Gd now (a_ d) (a_ (ej (swp js now))) ck)=a_ (.ok d_):=bf ((aT (x:=d) (y:=.str "kept") rfl rfl).trans hk);have c2:fB (f2 eqX (ac 5) (fC (.str "gone"))) (E8 T js A Gd now (a_ d) (a_ (ej (swp js now))) ck)=a_ (.ok d_):=bf ((aT (x:=d) (y:=.str "gone") rfl rfl).trans hg);rw [al (bA c1),al (bA c2)];rfl
theorem vV (hl:js.length≤18) (gj:∀ n∈js,Good n) (gN:Good N) (hw:bD [T,ej js,A,Gd,.int now]=a_ (.ok (.str "kept"))) (em:du [T,A,Gd,.int now]=a_ (.ok (enc N))):cV [T,ej js,A,Gd,.int now]=a_ (.ok (ej (yk (swp js now) N))):=by
 refine mJ ?_;show cU (E8 T js A Gd now ck ck ck)=_;unfold cU;refine mS hl hw ?_;have c1:fB (f2 eqX (ac 5) (fC (.str "kept"))) (E8 T js A Gd now (a_ (.str "kept")) (a_ (ej (swp js now))) ck)=a_ (.ok c_):=bf ((aT (x:=.str "kept") (y:=.str "kept") rfl rfl).trans (by kernel_rfl));refine kl ?_;rw [pI c1];have v:ao du 4 zz2 (E8 T js A Gd now (a_ (.str "kept")) (a_ (ej (swp js now))) ck)=a_ (.ok (enc N)):=cE du (ae rfl (ae rfl (ae rfl (ae rfl aw)))) rfl em;exact di (fW xW rfl v (Gb (fun o ho=>gj o (Lm.mp ho).1) gN (K0 lM hl)))
theorem IP {o:Note} (go:Good o) (gN:Good N):neX (ek o) (ek N)=bo (!q_ (key o=key N)):=(yh go gN).2
theorem vW (hl:js.length≤18) (gj:∀ n∈js,Good n) (gN:Good N) (hw:bD [T,ej js,A,Gd,.int now]=a_ (.ok (.str "gone"))) (em:du [T,A,Gd,.int now]=a_ (.ok (enc N))):cV [T,ej js,A,Gd,.int now]=a_ (.ok (ej ((swp js now).filter fun o=>!q_ (key o=key N)))):=by
 have sl:(swp js now).length≤18:=K0 lM hl;refine mJ ?_;show cU (E8 T js A Gd now ck ck ck)=_;unfold cU;refine mS hl hw ?_;have c1:fB (f2 eqX (ac 5) (fC (.str "kept"))) (E8 T js A Gd now (a_ (.str "gone")) (a_ (ej (swp js now))) ck)=a_ (.ok d_):=bf ((aT (x:=.str "gone") (y:=.str "kept") rfl rfl).trans (by kernel_rfl));have c2:fB (f2 eqX (ac 5) (fC (.str "gone"))) (E8 T js A Gd now (a_ (.str "gone")) (a_ (ej (swp js now))) ck)=a_ (.ok c_):=bf ((aT (x:=.str "gone") (y:=.str "gone") rfl rfl).trans (by kernel_rfl));rw [al (bA c1)];refine kl ?_;rw [pI c2];have v:ao du 4 zz2 (E8 T js A Gd now (a_ (.str "gone")) (a_ (ej (swp js now))) ck)=a_ (.ok (enc N)):=cE du (ae rfl (ae rfl (ae rfl (ae rfl aw)))) rfl em;have s7:aL 7 (ai eN 1 (aa (ao du 4 zz2) ah)) (E8 T js A Gd now (a_ (.str "gone")) (a_ (ej (swp js now))) ck)=a_ (.nx (E8 T js A Gd now (a_ (.str "gone")) (a_ (ej (swp js now))) (a_ (ek N)))):=aI (jw eN v (oP N)) rfl;rw [al s7];refine di ?_;have e:(cq [("ended",7)] (ef (ac 6)) (a_ (fB (f2 neX (ai eN 1 (aa (ac 0) ah)) (ac 1)))) (ac 0)) (E8 T js A Gd now (a_ (.str "gone")) (a_ (ej (swp js now))) (a_ (ek N)))=a_ (.ok (.lst (((swp js now).filter fun o=>!q_ (key o=key N)).map enc))) :=
  kU enc (fun o=>!q_ (key o=key N)) enc (ie rfl) (by omega) fun o ho=>⟨bf ((aT (x:=ek o) (y:=ek N) (jw eN rfl (oP o)) rfl).trans (IP (gj o (Lm.mp ho).1) gN)),rfl⟩
 exact (eY (ae e aw)).trans rfl
def E10 (T:Dv) (js:List Note) (A Gd:Dv) (now:Int) (x5 x7 x8 x9:Option Dv):Ev:=[a_ T,a_ (ej js),a_ A,a_ Gd,a_ (.int now),x5,ck,x7,x8,x9]
def Ge:FnE:=(bB 1 [("_law_now",4)] (ef (ac 1)) (gN 0) (a_ (bOr (fB (f2 isN (f2 ixD (ac 0) (fC (.int 5))) (fC .non))) (fB (f2 gtD (f2 ixD (ac 0) (fC (.int 5))) (ac 1))))) (ac 0))
theorem BF (hl:js.length≤18) {x5:Option Dv}:Ge (E10 T js A Gd now x5 ck ck ck)=a_ (.ok (.lst ((swp js now).map enc))):=by
 refine lG enc (fun n=>!ended n now) enc (ie rfl) (by omega) fun o ho=>⟨?_,rfl⟩;show (bOr (fB (f2 isN (f2 ixD (ac 0) (fC (.int 5))) (fC .non))) (fB (f2 gtD (f2 ixD (ac 0) (fC (.int 5))) (ac 1)))) [a_ (enc o),a_ (.int now)]=_;unfold ended;cases q:o.ends with
 | none=>exact Hv (bf ((aT (x:=eO o.ends) (y:=.non) rfl rfl).trans (by rw [q]; rfl)))
 | some i =>
  rw [Hu (bf ((aT (x:=eO o.ends) (y:=.non) rfl rfl).trans (by rw [q]; rfl)))];refine bf ((aT (x:=eO o.ends) (y:=.int now) rfl rfl).trans ?_);rw [q];show a_ (Rs.ok (Dv.bl (q_ (i > now))))=a_ (Rs.ok (Dv.bl (!q_ (i≤now))));congr 3;rw [Ln];simp
def sw:gH:=(cX (oIf (fB zz4) (kq 6 (fB1 cD (aa (ac 6) ah))) oX) (cX (et 7 (ai bM 4 zz2)) (cX (et 8 zz5) (cX (nR 6 9 zz0) (cX (oIf (fB (f2 eqX (ac 5) (fC (.str "gone")))) (kq 6 (fB1 cD (aa zz9 ah))) oX) (cX (oIf (fB (f2 eqX (ac 9) (bz ah))) (kq 6 (fB1 cD (aa (f2 bZ (ac 6) (bz (aa (ac 7) ah))) ah))) oX) (cX (jA 6 (f2 ixD (ac 9) (fC (.int 0))) zz3) (kq 6 (fB1 cD (aa (ac 6) ah))))))))))
theorem eBT:eE=ar (aL 5 (ai aV 5 zz1)) (rY 6 Ge sw):=rfl
theorem vX (hl:js.length≤18) (hv:aV [T,ej js,A,Gd,.int now]=a_ (.ok d)) {r:Dv} (h:sw (E10 T js A Gd now (a_ d) ck ck ck) ((swp js now).map enc)=a_ (.rt r)):cO [T,ej js,A,Gd,.int now]=a_ (.ok r):=by
 refine dI ?_;show eE (E10 T js A Gd now ck ck ck ck)=_;rw [eBT];have s5:aL 5 (ai aV 5 zz1) (E10 T js A Gd now ck ck ck ck)=a_ (.nx (E10 T js A Gd now (a_ d) ck ck ck)):=aI (dH (ae rfl (ae rfl (ae rfl (ae rfl (ae rfl aw))))) rfl hv) rfl;rw [al s5];unfold rY;rw [BF hl];show (match sw (E10 T js A Gd now (a_ d) ck ck ck) ((swp js now).map enc) with
  | some (.nx ρ' ds')=>a_ (Fl.nx (ρ'.set 6 (a_ (.lst ds'))))
  | some (.rt d)=>a_ (.rt d)
  | none=>ck)=_
 rw [h]
theorem BG {c:FnB} {f g:gH} {ρ:Ev} {ds:List Dv} (h:c ρ=a_ (.ok c_)):oIf c f g ρ ds=f ρ ds:=by unfold oIf; rw [h]; rfl
theorem BH {c:FnB} {f g:gH} {ρ:Ev} {ds:List Dv} (h:c ρ=a_ (.ok d_)):oIf c f g ρ ds=g ρ ds:=by unfold oIf; rw [h]; rfl
theorem qg {f g:gH} {ρ:Ev} {ds:List Dv} {r:Dv} (h:f ρ ds=a_ (.rt r)):cX f g ρ ds=a_ (.rt r):=by unfold cX; rw [h]
theorem oU (hl:js.length≤18) (hv:aV [T,ej js,A,Gd,.int now]=a_ (.ok d)) (hn:gR d (.tup [.str "kept",.str "gone"])=bo c_):cO [T,ej js,A,Gd,.int now]=a_ (.ok (ej (swp js now))):=by
 refine vX hl hv ?_;unfold sw;refine qg ?_;have c:fB zz4 (E10 T js A Gd now (a_ d) ck ck ck)=a_ (.ok c_):=bf ((aT (x:=d) (y:=.tup [.str "kept",.str "gone"]) rfl rfl).trans hn);rw [BG c];rfl
theorem vY (hl:js.length≤18) (gj:∀ n∈js,Good n) (gN:Good N) {x:Str} (hn:gR (.str x) (.tup [.str "kept",.str "gone"])=bo d_) (em:bM [T,A,Gd,.int now]=a_ (.ok (enc N))) {r:Dv} {f:gH}
 (h:f (E10 T js A Gd now (a_ (.str x)) (a_ (enc N)) (a_ (ek N)) (a_ (.lst (plv (swp js now) N)))) ((swp js now).map enc)=a_ (.rt r)) :
 (cX (oIf (fB zz4) (kq 6 (fB1 cD (aa (ac 6) ah))) oX) (cX (et 7 (ai bM 4 zz2)) (cX (et 8 zz5) (cX (nR 6 9 zz0) f)))) (E10 T js A Gd now (a_ (.str x)) ck ck ck) ((swp js now).map enc)=a_ (.rt r):=by
 have sl:(swp js now).length≤18:=K0 lM hl;have gs:∀ n∈swp js now,Good n:=fun o ho=>gj o (Lm.mp ho).1;have c:fB zz4 (E10 T js A Gd now (a_ (.str x)) ck ck ck)=a_ (.ok d_):=bf ((aT (x:=.str x) (y:=.tup [.str "kept",.str "gone"]) rfl rfl).trans hn);have o1:oIf (fB zz4) (kq 6 (fB1 cD (aa (ac 6) ah))) oX (E10 T js A Gd now (a_ (.str x)) ck ck ck) ((swp js now).map enc)=a_ (.nx (E10 T js A Gd now (a_ (.str x)) ck ck ck) ((swp js now).map enc)):=by rw [BH c]; rfl
 have v7:ai bM 4 zz2 (E10 T js A Gd now (a_ (.str x)) ck ck ck)=a_ (.ok (enc N)):=dH (ae rfl (ae rfl (ae rfl (ae rfl aw)))) rfl em;have o7:et 7 (ai bM 4 zz2) (E10 T js A Gd now (a_ (.str x)) ck ck ck) ((swp js now).map enc)=a_ (.nx (E10 T js A Gd now (a_ (.str x)) (a_ (enc N)) ck ck) ((swp js now).map enc)):=vO v7 rfl;have o8:et 8 zz5 (E10 T js A Gd now (a_ (.str x)) (a_ (enc N)) ck ck) ((swp js now).map enc)=a_ (.nx (E10 T js A Gd now (a_ (.str x)) (a_ (enc N)) (a_ (ek N)) ck) ((swp js now).map enc)):=vO (d:=ek N) rfl rfl;have v9:zz0 ((E10 T js A Gd now (a_ (.str x)) (a_ (enc N)) (a_ (ek N)) ck).set 6 (a_ (.lst ((swp js now).map enc))))=a_ (.ok (.lst (plv (swp js now) N))):=by
  refine lL (fun p:Note×Nat=>Dv.int (p.2:Int)) (fun p=>enc p.1) (fun p=>Dv.int (p.2:Int)) (fun p=>q_ (key p.1=key N)) (l:=(swp js now).zipIdx) ?_ (by simp; omega) fun p hp=>⟨?_,rfl⟩
  · show bnd (a_ (Rs.ok [Dv.lst ((swp js now).map enc)])) kj=_;exact vU _
  · exact bf ((aT (x:=ek p.1) (y:=ek N) rfl rfl).trans (yh (gs p.1 (LN (rA hp))) gN).1)
 have im:imms (plv (swp js now) N)=c_:=by
  unfold plv;generalize plz (swp js now) N=l
  induction l with
  | nil=>rfl
  | cons a l ih=>show (imm (Dv.int (a.2:Int)) && imms (l.map fun p=>Dv.int (p.2:Int)))=c_; rw [ih]; rfl
 have o9:nR 6 9 zz0 (E10 T js A Gd now (a_ (.str x)) (a_ (enc N)) (a_ (ek N)) ck) ((swp js now).map enc)=a_ (.nx (E10 T js A Gd now (a_ (.str x)) (a_ (enc N)) (a_ (ek N)) (a_ (.lst (plv (swp js now) N)))) ((swp js now).map enc)):=by
  unfold nR;rw [v9];show (if imms (plv (swp js now) N)=c_ then _ else ck)=_;rw [if_pos im];rfl
 rw [gF o1,gF o7,gF o8,gF o9];exact h
end
end J
namespace J
open PySem PySem.Spec PyProof.Rows L2 FD
section
variable {T A Gd:Dv} {now:Int} {js:List Note} {N:Note} {d:Dv}
theorem yl (hl:js.length≤18) (gj:∀ n∈js,Good n) (gN:Good N) (hv:aV [T,ej js,A,Gd,.int now]=a_ (.ok (.str "gone"))) (em:bM [T,A,Gd,.int now]=a_ (.ok (enc N))):cO [T,ej js,A,Gd,.int now]=a_ (.ok (ej ((swp js now).filter fun o=>!q_ (key o=key N)))):=by
 have sl:(swp js now).length≤18:=K0 lM hl;refine vX hl hv ?_;unfold sw;refine vY hl gj gN (by kernel_rfl) em ?_;refine qg ?_;have c:fB (f2 eqX (ac 5) (fC (.str "gone"))) (E10 T js A Gd now (a_ (.str "gone")) (a_ (enc N)) (a_ (ek N)) (a_ (.lst (plv (swp js now) N))))=a_ (.ok c_):=bf ((aT (x:=.str "gone") (y:=.str "gone") rfl rfl).trans (by kernel_rfl));rw [BG c];have e:zz9 ((E10 T js A Gd now (a_ (.str "gone")) (a_ (enc N)) (a_ (ek N)) (a_ (.lst (plv (swp js now) N)))).set 6 (a_ (.lst ((swp js now).map enc))))=a_ (.ok (.lst (((swp js now).filter fun o=>!q_ (key o=key N)).map enc))):=by
  refine (lL (fun p:Note×Nat=>Dv.int (p.2:Int)) (fun p=>enc p.1) (fun p=>enc p.1) (fun p=>!q_ (key p.1=key N)) (l:=(swp js now).zipIdx) ?_ (by simp; omega) fun p hp=>⟨?_,rfl⟩).trans ?_
  · show bnd (a_ (Rs.ok [Dv.lst ((swp js now).map enc)])) kj=_;exact vU _
  · exact bf ((aT (x:=.int (p.2:Int)) (y:=.lst (plv (swp js now) N)) rfl rfl).trans (Gc hp))
  · rw [← j9 (fun o=>!q_ (key o=key N)) (swp js now) 0,Ri];rfl
 unfold kq;rw [eY (ae e aw)];rfl
abbrev EF (T:Dv) (js:List Note) (A Gd:Dv) (now:Int) (N:Note):Ev:=E10 T js A Gd now (a_ (.str "kept")) (a_ (enc N)) (a_ (ek N)) (a_ (.lst (plv (swp js now) N)))
theorem ym (hl:js.length≤18) (gj:∀ n∈js,Good n) (hk:(js.map key).Nodup) (gN:Good N) (hu:N.us=now) (hv:aV [T,ej js,A,Gd,.int now]=a_ (.ok (.str "kept"))) (em:bM [T,A,Gd,.int now]=a_ (.ok (enc N))):cO [T,ej js,A,Gd,.int now]=a_ (.ok (ej (yk (swp js now) N))):=by
 have sl:(swp js now).length≤18:=K0 lM hl;have sk:((swp js now).map key).Nodup:=List.Nodup.sublist (List.filter_sublist.map key) hk;refine vX hl hv ?_;unfold sw;refine vY hl gj gN (by kernel_rfl) em ?_;have c:fB (f2 eqX (ac 5) (fC (.str "gone"))) (EF T js A Gd now N)=a_ (.ok d_):=bf ((aT (x:=.str "kept") (y:=.str "gone") rfl rfl).trans (by kernel_rfl));have ff:=j9 (fun o=>q_ (key o=key N)) (swp js now) 0;have o1:∀ f:gH,oIf (fB (f2 eqX (ac 5) (fC (.str "gone")))) f oX (EF T js A Gd now N) ((swp js now).map enc)=a_ (.nx (EF T js A Gd now N) ((swp js now).map enc)):=fun f=>by rw [BH c]; rfl
 rw [gF (o1 _)];have c2:fB (f2 eqX (ac 9) (bz ah)) (EF T js A Gd now N)=a_ (.ok (plz (swp js now) N).isEmpty):=bf ((aT (x:=.lst (plv (swp js now) N)) (y:=.lst []) rfl (iC aw (by decide))).trans (qf _));cases hp:plz (swp js now) N with
 | nil =>
  have hf:(swp js now).filter (fun o=>q_ (key o=key N))=[]:=by
   rw [← ff];show (plz (swp js now) N).map _=_;rw [hp];rfl
  rw [hp] at c2;refine qg ?_;rw [BG c2];unfold kq yk;rw [hf];have e:f2 bZ (ac 6) (bz (aa (ac 7) ah)) ((EF T js A Gd now N).set 6 (a_ (.lst ((swp js now).map enc))))=a_ (.ok (.lst (((swp js now) ++ [N]).map enc))):=by
   refine (aT (x:=.lst ((swp js now).map enc)) (y:=.lst [enc N]) rfl (iC (ae rfl aw) (by show 1≤100000; decide))).trans ?_;show (if ((swp js now).map enc).length + 1≤100000 then a_ (Rs.ok (Dv.lst ((swp js now).map enc ++ [enc N]))) else ck)=_;rw [if_pos (by simp; omega),Ow];rfl
  rw [eY (ae e aw)];rfl
 | cons p0 ps =>
  have hmem:p0∈plz (swp js now) N:=by rw [hp]; exact o_
  obtain ⟨m1,m2⟩:=Lm.mp hmem;have hat:=rA m1;obtain ⟨hi,hai⟩:=K2.mp hat
  have hkey:key (swp js now)[p0.2]=key N:=by rw [hai]; simpa using m2
  have hf:(swp js now).filter (fun o=>q_ (key o=key N))=p0.1 :: ps.map (·.1):=by
   rw [← ff];show (plz (swp js now) N).map _=_;rw [hp];rfl
  rw [hp] at c2;have o2:∀ f:gH,oIf (fB (f2 eqX (ac 9) (bz ah))) f oX (EF T js A Gd now N) ((swp js now).map enc)=a_ (.nx (EF T js A Gd now N) ((swp js now).map enc)):=fun f=>by rw [BH c2]; rfl
  rw [gF (o2 _)]
  let y:Note:={ N with md:=p0.1.md }
  have eP:plv (swp js now) N=Dv.int (p0.2:Int) :: ps.map fun p=>Dv.int (p.2:Int):=by
   unfold plv;rw [hp];rfl
  let EE:Ev:=(EF T js A Gd now N).set 6 (a_ (.lst ((swp js now).map enc)))
  have q1:f2 ixD (ac 9) (fC (.int 0)) EE=a_ (.ok (.int (p0.2:Int))):=by
   show ixD (.lst (plv (swp js now) N)) (.int 0)=_;rw [eP];rfl
  have q2:f2 ixD (ac 6) (f2 ixD (ac 9) (fC (.int 0))) EE=a_ (.ok (enc p0.1)):=by
   refine (aT (x:=.lst ((swp js now).map enc)) (y:=.int (p0.2:Int)) rfl q1).trans ?_;show (match atD ((swp js now).map enc) (p0.2:Int) with | some d=>_ | none=>_)=_
   unfold atD;rw [if_pos (by omega)];simp [hat]
  have q3:f2 ixD (f2 ixD (ac 6) (f2 ixD (ac 9) (fC (.int 0)))) (fC (.int 8)) EE=a_ (.ok (.int p0.1.md)):=(aT q2 rfl).trans (BD _);have q4:f2 bZ (cR (ac 7) cm (bP (fC (.int 8)))) (bp (aa (f2 ixD (f2 ixD (ac 6) (f2 ixD (ac 9) (fC (.int 0)))) (fC (.int 8))) (aa (ac 4) ah))) EE=a_ (.ok (enc y)):=by
   refine (aT (x:=.tup [.str N.nm,.str N.w,.str N.house,.bl N.ex,.str N.path,eO N.ends,.bl N.S,.str N.R]) (by kernel_rfl) (gQ (ae q3 (ae (x:=.int now) rfl aw)) (by simp))).trans ?_;show bZ (.tup [.str N.nm,.str N.w,.str N.house,.bl N.ex,.str N.path,eO N.ends,.bl N.S,.str N.R]) (.tup [.int p0.1.md,.int now])=a_ (.ok (.tup [.str N.nm,.str N.w,.str N.house,.bl N.ex,.str N.path,eO N.ends,.bl N.S,.str N.R,.int p0.1.md,.int N.us]));rw [hu];rfl
  have imy:imm (enc y)=c_:=by
   show imm (.tup [.str N.nm,.str N.w,.str N.house,.bl N.ex,.str N.path,eO N.ends,.bl N.S,.str N.R,.int p0.1.md,.int N.us])=c_;cases q:N.ends <;> simp [imm,imms,eO]
  have o3:jA 6 (f2 ixD (ac 9) (fC (.int 0))) zz3 (EF T js A Gd now N) ((swp js now).map enc)=a_ (.nx (EF T js A Gd now N) (((swp js now).set p0.2 y).map enc)):=by
   unfold jA;rw [show zz3 ((EF T js A Gd now N).set 6 (a_ (.lst ((swp js now).map enc))))=_ from q4];show (if imm (enc y)=c_ then _ else ck)=_;rw [if_pos imy,show (f2 ixD (ac 9) (fC (.int 0))) ((EF T js A Gd now N).set 6 (a_ (.lst ((swp js now).map enc))))=_ from q1];show (if 0≤(p0.2:Int)∧(p0.2:Int) < (((swp js now).map enc).length:Int) then a_ (Fo.nx _ (((swp js now).map enc).set (p0.2:Int).toNat (enc y))) else ck)=_;rw [if_pos ⟨by omega,by rw [La]; omega⟩,List.map_set];rfl
  rw [gF o3];have ep:yk (swp js now) N=(swp js now).set p0.2 y:=by
   unfold yk;rw [hf];exact tE (n:=N) hi hkey sk
  rw [ep];rfl
end
end J
namespace J
open PySem PySem.Spec PyProof.Rows L2 FD
section
variable {T A X Jd N:Dv} {d:Dv} {c:Nat} {wy:Int}
theorem told0 (hy:eU [T,Jd,A,X,N]=a_ (.ok d)):am [.int 0,T,Jd,A,X,N]=a_ (.ok d):=by
 simp [am,bt,dv,Ad,sq,bg,bO,bnd,fB,toB,ai,ao,aa,ah,ac,fC,f2,fIf,eqX,eqS,hy]
theorem told1 (hy:gB [T,Jd,A,X,N]=a_ (.ok d)):am [.int 1,T,Jd,A,X,N]=a_ (.ok d):=by
 simp [am,bt,dv,Ad,sq,bg,bO,bnd,fB,toB,ai,ao,aa,ah,ac,fC,f2,fIf,eqX,eqS,hy]
theorem Gf (hy:eU [T,Jd,A,X,N]=a_ (.exc c)) (hc:c < 7) (hr:bh [.exn c]=a_ (.ok d)):am [.int 0,T,Jd,A,X,N]=a_ (.ok d):=by
 simp [am,bt,dv,Ad,sq,bg,bO,bnd,fB,toB,ai,ao,aa,ah,ac,fC,f2,fIf,eqX,eqS,hy,hc,hr]
theorem told1x (hy:gB [T,Jd,A,X,N]=a_ (.exc c)) (hc:c < 7) (hr:bh [.exn c]=a_ (.ok d)):am [.int 1,T,Jd,A,X,N]=a_ (.ok d):=by
 simp [am,bt,dv,Ad,sq,bg,bO,bnd,fB,toB,ai,ao,aa,ah,ac,fC,f2,fIf,eqX,eqS,hy,hc,hr]
def rf (k:Int):Dv:=.tup [.str "refused",.int k]
theorem refd:bh [.exn 1]=a_ (.ok (rf 1))∧bh [.exn 3]=a_ (.ok (rf 3))∧bh [.exn 4]=a_ (.ok (rf 4))∧bh [.exn 5]=a_ (.ok (rf 5))∧bh [.exn 6]=a_ (.ok (rf 6)):=⟨by kernel_rfl,by kernel_rfl,by kernel_rfl,by kernel_rfl,by kernel_rfl⟩
theorem vZ {i:Nat} {v:FnE} {ρ:Ev} (h:v ρ=a_ (.exc c)):aL i v ρ=a_ (.exc c):=by unfold aL; rw [h]; rfl
theorem rwx (h:aj [T,Jd,A,X,N]=a_ (.exc c)):eU [T,Jd,A,X,N]=a_ (.exc c)∧gB [T,Jd,A,X,N]=a_ (.exc c):=by
 have e6:aL 5 (ao aj 5 zz1) [a_ T,a_ Jd,a_ A,a_ X,a_ N,ck]=a_ (.exc c):=vZ (cE aj (ae rfl (ae rfl (ae rfl (ae rfl (ae rfl aw))))) rfl h);have e7:aL 5 (ao aj 5 zz1) [a_ T,a_ Jd,a_ A,a_ X,a_ N,ck,ck]=a_ (.exc c):=vZ (cE aj (ae rfl (ae rfl (ae rfl (ae rfl (ae rfl aw))))) rfl h);exact ⟨y8 (y9 e6),y8 (y9 e7)⟩
theorem oV (h:aj [T,Jd,A,X,N]=a_ (.exc c)) (hc:c < 7) (hr:bh [.exn c]=a_ (.ok d)):∀ k∈([0,1]:List Int),am [.int k,T,Jd,A,X,N]=a_ (.ok d):=by
 intro k hk;simp only [rl,I_,or_false] at hk;rcases hk with rfl | rfl
 · exact Gf (rwx h).1 hc hr
 · exact told1x (rwx h).2 hc hr
theorem GB (h:dg [Jd]=bo c_):bY [Jd]=a_ (.ok .non):=by simp [bY,fT,fq,ar,sq,aM,ay,bg,bi,aL,bO,bnd,bOr,bS,br,fB,toB,ai,ao,aa,ah,ac,fC,h]
theorem KH (h:dg [Jd]=bo d_):bY [Jd]=a_ (.exc 5):=by simp [bY,fT,fq,ar,sq,aM,ay,bg,bi,aL,bO,bnd,bOr,bS,br,fB,toB,ai,ao,aa,ah,ac,fC,aG,h]
theorem dY (F:List Dv→Option (Rs Dv)) {a:Dv} {f:FnE} {ρ:Ev} (hf:f ρ=a_ (.ok a)) (h:F [a]=a_ (.ok .non)):bi (ao F 1 (aa f ah)) ρ=a_ (.nx ρ):=wS (cE F (ae hf aw) rfl h)
theorem dX (F:List Dv→Option (Rs Dv)) {a:Dv} {f:FnE} {ρ:Ev} (hf:f ρ=a_ (.ok a)) (h:F [a]=a_ (.exc c)):bi (ao F 1 (aa f ah)) ρ=a_ (.exc c):=Kg (cE F (ae hf aw) rfl h)
def E6 (T Jd A X N:Dv) (x:Option Dv):Ev:=[a_ T,a_ Jd,a_ A,a_ X,a_ N,x]
theorem rw1 (h:bI [T]=bo d_):aj [T,Jd,A,X,N]=a_ (.exc 1):=y8 (by
 show au (E6 T Jd A X N ck)=_;exact y9 (dX aW rfl (Ks h)))
theorem rw5 (h1:bI [T]=bo c_) (h:dg [Jd]=bo d_):aj [T,Jd,A,X,N]=a_ (.exc 5):=y8 (by
 show au (E6 T Jd A X N ck)=_;unfold au;rw [al (dY aW rfl (Bp h1))];exact y9 (dX bY rfl (KH h)))
theorem rw3 (h1:bI [T]=bo c_) (h2:dg [Jd]=bo c_) (h:df [A]=bo d_):aj [T,Jd,A,X,N]=a_ (.exc 3):=y8 (by
 show au (E6 T Jd A X N ck)=_;unfold au;rw [al (dY aW rfl (Bp h1)),al (dY bY rfl (GB h2))];exact y9 (dX bJ rfl (Kt h)))
theorem rw4 (h1:bI [T]=bo c_) (h2:dg [Jd]=bo c_) (h3:df [A]=bo c_) (h:aC [X]=a_ (.exc c)):aj [T,Jd,A,X,N]=a_ (.exc c):=y8 (by
 show au (E6 T Jd A X N ck)=_;unfold au;rw [al (dY aW rfl (Bp h1)),al (dY bY rfl (GB h2)),al (dY bJ rfl (Fh h3))];exact y9 (vZ (cE aC (ae rfl aw) rfl h)))
theorem rw6 (h1:bI [T]=bo c_) (h2:dg [Jd]=bo c_) (h3:df [A]=bo c_) {Gd:Dv} (h4:aC [X]=a_ (.ok Gd)) (h:aX [N]=bo d_):aj [T,Jd,A,X,N]=a_ (.exc 6):=y8 (by
 show au (E6 T Jd A X N ck)=_;unfold au;rw [al (dY aW rfl (Bp h1)),al (dY bY rfl (GB h2)),al (dY bJ rfl (Fh h3))];have s5:aL 5 (ao aC 1 (aa (ac 3) ah)) (E6 T Jd A X N ck)=a_ (.nx (E6 T Jd A X N (a_ Gd))):=aI (cE aC (ae rfl aw) rfl h4) rfl;rw [al s5];exact y9 (dX bF rfl (Ku h)))
theorem rwy (h1:bI [T]=bo c_) (h2:dg [Jd]=bo c_) (h3:df [A]=bo c_) {Gd:Dv} (h4:aC [X]=a_ (.ok Gd)) (h:aX [N]=bo c_):aj [T,Jd,A,X,N]=a_ (.ok Gd):=mJ (by
 show au (E6 T Jd A X N ck)=_;unfold au;rw [al (dY aW rfl (Bp h1)),al (dY bY rfl (GB h2)),al (dY bJ rfl (Fh h3))];have s5:aL 5 (ao aC 1 (aa (ac 3) ah)) (E6 T Jd A X N ck)=a_ (.nx (E6 T Jd A X N (a_ Gd))):=aI (cE aC (ae rfl aw) rfl h4) rfl;rw [al s5,al (dY bF rfl (Fi h))];rfl)
theorem verdict_of {Gd:Dv} (hr:aj [T,Jd,A,X,N]=a_ (.ok Gd)) (hw:bD [T,Jd,A,Gd,N]=a_ (.ok d)):eU [T,Jd,A,X,N]=a_ (.ok d):=mJ (by
 show gh (E6 T Jd A X N ck)=_;unfold gh;have s5:aL 5 (ao aj 5 zz1) (E6 T Jd A X N ck)=a_ (.nx (E6 T Jd A X N (a_ Gd))):=aI (cE aj (ae rfl (ae rfl (ae rfl (ae rfl (ae rfl aw))))) rfl hr) rfl;rw [al s5];exact di (cE bD (ae rfl (ae rfl (ae rfl (ae rfl (ae rfl aw))))) rfl hw))
end
section
variable {T A X:Dv} {now:Int} {js:List Note} {Gd:Dv}
def E7 (T:Dv) (js:List Note) (A X:Dv) (now:Int) (x5 x6:Option Dv):Ev:=[a_ T,a_ (ej js),a_ A,a_ X,a_ (.int now),x5,x6]
theorem wa (hl:js.length≤18) {x5 x6:Option Dv}:fB (fB1 AH (aa (cq [("now",4)] (ef (ac 1)) ck (f2 gtD (f2 ixD (ac 0) (fC (.int 9))) (ac 1))) ah)) (E7 T js A X now x5 x6)=a_ (.ok (js.any fun o=>q_ (o.us > now))):=by
 refine bf ((eY (ae (x:=.lst (js.map fun o=>Dv.bl (q_ (o.us > now)))) ?_ aw)).trans (any_map _ _));exact dU enc (fun o=>Dv.bl (q_ (o.us > now))) (ie rfl) (by omega) fun o ho=>(aT (x:=.int o.us) (y:=.int now) rfl rfl).trans rfl
theorem s5T (hr:aj [T,ej js,A,X,.int now]=a_ (.ok Gd)):aL 5 (ao aj 5 zz1) (E7 T js A X now ck ck)=a_ (.nx (E7 T js A X now (a_ Gd) ck)):=aI (cE aj (ae rfl (ae rfl (ae rfl (ae rfl (ae rfl aw))))) rfl hr) rfl
theorem taken_late (hl:js.length≤18) (hr:aj [T,ej js,A,X,.int now]=a_ (.ok Gd)) (h:(js.any fun o=>q_ (o.us > now))=c_):gB [T,ej js,A,X,.int now]=a_ (.exc 6):=y8 (by
 show gA (E7 T js A X now ck ck)=_;unfold gA;rw [al (s5T hr)];have c:=wa (T:=T) (A:=A) (X:=X) (now:=now) (x5:=a_ Gd) (x6:=ck) hl;rw [h] at c;exact y9 (Il c rfl))
theorem taken_of {ys:List Note} (hl:js.length≤18) (hr:aj [T,ej js,A,X,.int now]=a_ (.ok Gd)) (h:(js.any fun o=>q_ (o.us > now))=d_) (ht:cV [T,ej js,A,Gd,.int now]=a_ (.ok (ej ys))) (hy:ys.length≤20):gB [T,ej js,A,X,.int now]=a_ (.ok (ej ys)):=mJ (by
 show gA (E7 T js A X now ck ck)=_;unfold gA;rw [al (s5T hr)];have c:=wa (T:=T) (A:=A) (X:=X) (now:=now) (x5:=a_ Gd) (x6:=ck) hl;rw [h] at c;rw [al (bA c)];have s6:aL 6 (ao cV 5 (aa (ac 0) (aa (ac 1) (aa (ac 2) (aa (ac 5) (aa (ac 4) ah)))))) (E7 T js A X now (a_ Gd) ck)=a_ (.nx (E7 T js A X now (a_ Gd) (a_ (ej ys)))):=aI (cE cV (ae rfl (ae rfl (ae rfl (ae rfl (ae rfl aw))))) rfl ht) rfl;have nn:aS [ej ys]=a_ (.ok .non):=by
  have:¬ ((ys.length:Int) > 20):=by omega
  unfold aS fT;show (match aR [a_ (ej ys)] with | some (.nx _)=>a_ (Rs.ok Dv.non) | some (.rt d)=>a_ (Rs.ok d) | some (.exc c)=>a_ (Rs.exc c) | none=>ck)=_
  unfold aR;have c2:fB (f2 gtD (fB1 iB (aa (ac 0) ah)) (fC (.int 20))) [a_ (ej ys)]=a_ (.ok d_):=by
   refine bf ((aT (x:=.int (ys.length:Int)) (y:=.int 20) ((eY (ae (x:=ej ys) rfl aw)).trans ?_) rfl).trans ?_)
   · show a_ (Rs.ok (Dv.int ((ys.map enc).length:Int)))=_;rw [La]
   · show a_ (Rs.ok (Dv.bl (q_ ((ys.length:Int) > 20))))=_;rw [decide_eq_false this]
  rw [bA c2]
 rw [al s6,al (dY aS rfl nn)];rfl)
end
end J
namespace J
open PySem PySem.Spec PyProof.Rows L2 FD
section
variable {t:List Dv} {h p:Str} {O:Dv} {nm w:Str} {H P u l:Dv} {S:Bool} {R:Str} {s:Bool} {house path:Str} {ex:Bool} {wd:Dv} {now:Int} {js:List Note}
theorem IQ (g:Gv nm w H P u l S R) (n0:0≤now):∃ e:Option Int,eO e=sr u l now∧∀ i,e=a_ i→0≤i∧i≤9999:=by
 rcases FX g n0 with q | ⟨i,h0,h1,q⟩
 · exact ⟨ck,q.symm,fun i hi=>by cases hi⟩
 · exact ⟨a_ i,q.symm,fun j hj=>by cases hj; exact ⟨h0,h1⟩⟩
theorem BI (g:Gv nm w H P u l S R) (W:Wt t h p O nm w H P u l S R s house path ex wd) (n0:0≤now) (n1:now≤99):∃ N:Note,enc N=ntn nm w house ex path (sr u l now) S R now∧Good N∧N.us=now:=by
 obtain ⟨e,he,hb⟩:=IQ (now:=now) g n0;refine ⟨⟨nm,w,house,ex,path,e,S,R,now,now⟩,?_,⟨g.nm,g.w,W.hs,W.ph,g.r,hb,n0,Int.le_refl _,n1⟩,rfl⟩;show Dv.tup [.str nm,.str w,.str house,.bl ex,.str path,eO e,.bl S,.str R,.int now,.int now]=_;rw [he]
theorem both_of (ht:t∈j4 rules) (a:Ak h p O) (g:Gv nm w H P u l S R) (Jr:Jar js) (n0:0≤now) (n1:now≤99) (hu:∀ o∈js,o.us≤now) :
 ∃ (x:Str) (ys:List Note),(bD [.tup t,ej js,akn s h p O,gvn nm w H P u l S R,.int now]=a_ (.ok (.str x))∧aV [.tup t,ej js,akn s h p O,gvn nm w H P u l S R,.int now]=a_ (.ok (.str x))∧x∈[b_ "foreign",b_ "open",b_ "unsafe",b_ "marked",b_ "far",b_ "shadowed",b_ "gone",b_ "kept"]) ∧
  (cV [.tup t,ej js,akn s h p O,gvn nm w H P u l S R,.int now]=a_ (.ok (ej ys))∧cO [.tup t,ej js,akn s h p O,gvn nm w H P u l S R,.int now]=a_ (.ok (ej ys))∧(∀ o∈ys,Good o)∧ys.length≤20):=by
 have jl:=Jr.l;obtain ⟨house,path,ex,wd,W⟩:=Iz ht a g s;have gs:∀ o∈swp js now,Good o:=fun o ho=>Jr.g o (Lm.mp ho).1;have sl:(swp js now).length≤18:=K0 lM jl;have other:∀ x:Str,x∈[b_ "foreign",b_ "open",b_ "unsafe",b_ "marked",b_ "far",b_ "shadowed"]→eqX (.str x) (.str "kept")=bo d_∧eqX (.str x) (.str "gone")=bo d_∧gR (.str x) (.tup [.str "kept",.str "gone"])=bo c_:=by
  intro x hx;simp only [rl,I_,or_false] at hx;rcases hx with rfl | rfl | rfl | rfl | rfl | rfl <;> exact ⟨by kernel_rfl,by kernel_rfl,by kernel_rfl⟩
 rcases W.win with rfl | ⟨x,hx,rfl⟩
 · obtain ⟨N,hN,gN,hus⟩:=BI (now:=now) g W n0 n1;have em:=zg ht a g n0 (by omega) W;have lm:=vL (now:=now) a g W;rw [← hN] at em lm;have e1:=F9 (js:=js) ht a g n0 (by omega) W hN gN Jr.g jl;have e2:=vT (js:=js) a g W hN gN Jr.g jl;unfold wv at e1 e2;dsimp only at e1 e2;split at e1
   · rename_i hc;rw [if_pos hc] at e2;obtain ⟨o1,o2,o3⟩:=other (b_ "shadowed") (by simp);exact ⟨_,swp js now,⟨e1,e2,by simp⟩,lN jl e1 o1 o2,oU jl e2 o3,gs,by omega⟩
   · rename_i hc;rw [if_neg hc] at e2;split at e1
     · rename_i hd;rw [if_pos hd] at e2;refine ⟨_,_,⟨e1,e2,by simp⟩,vW jl Jr.g gN e1 em,yl jl Jr.g gN e2 lm,fun o ho=>gs o (Lm.mp ho).1,K0 (ME _ _) (by omega)⟩
     · rename_i hd;rw [if_neg hd] at e2;refine ⟨_,_,⟨e1,e2,by simp⟩,vV jl Jr.g gN e1 em,ym jl Jr.g Jr.k gN hus e2 lm,?_,?_⟩
       · intro o ho;unfold yk at ho;split at ho
         · rcases K8.mp ho with q | q
           · exact gs o q
           · rw [Le.mp q]; exact gN
         · rename_i o1 r1 hf;obtain ⟨z,hz,rfl⟩:=Lp.mp ho;split
           · have hm:o1∈(swp js now).filter (fun o=>q_ (key o=key N)):=by rw [hf]; exact o_
             have hm2:=(Lm.mp hm).1;have g1:=gs o1 hm2;have u1:=hu o1 (Lm.mp hm2).1;refine ⟨gN.nm,gN.w,gN.house,gN.path,gN.R,gN.ends,g1.mk0,?_,gN.us⟩;show o1.md≤N.us;have:=g1.mu;omega
           · exact gs z hz
       · unfold yk;split
         · simp; omega
         · simp; omega
 · have hx':b_ x∈[b_ "foreign",b_ "open",b_ "unsafe",b_ "marked",b_ "far",b_ "shadowed"]:=by
    simp only [rl,I_,or_false] at hx;rcases hx with rfl | rfl | rfl | rfl | rfl <;> simp
   obtain ⟨o1,o2,o3⟩:=other _ hx';have e1:=F8 (js:=js) (now:=now) W (by simp);have e2:=vS (js:=js) (now:=now) W (by simp);refine ⟨_,swp js now,⟨e1,e2,?_⟩,lN jl e1 o1 o2,oU jl e2 o3,gs,by omega⟩;simp only [rl,I_,or_false] at hx' ⊢;rcases hx' with q | q | q | q | q | q <;> simp [q]
end
end J
namespace J
open PySem PySem.Spec PyProof.Rows L2 FD
theorem BJ {js:List Note} (hg:∀ o∈js,Good o):eqX (ej js) (.tup [])=bo js.isEmpty:=by
 cases js with
 | nil=>kernel_rfl
 | cons o rest =>
  have i2:=(it_ej hg).okP (by omega);have i3:okP (.tup [])=c_:=by kernel_rfl
  show eqX (.tup ((o :: rest).map enc)) (.tup [])=bo d_;unfold eqX;rw [show eqS (.tup ((o :: rest).map enc)) (.tup [])=ck from rfl,show okP (.tup ((o :: rest).map enc))=c_ from i2,i3];simp [de,toPys,Ll,Mn]
def E7l (ns:List Int) (js:List Note) (A Gd:Dv) (x5 x6:Option Dv):Ev:=[a_ (.scr ns),a_ (.int 120),a_ (ej js),a_ A,a_ Gd,x5,x6]
theorem like_ok (ns:List Int) (hl:ns.length≤63) {js:List Note} (Jr:Jar js) {s:Bool} {h p:Str} {O:Dv} (a:Ak h p O) {nm w:Str} {H P u l:Dv} {S:Bool} {R:Str} (g:Gv nm w H P u l S R) :
 ∃ h' nm' H' P',Ak h' p O∧Gv nm' w H' P' u l S R∧iI [.scr ns,.int 120,ej js,akn s h p O,gvn nm w H P u l S R]=a_ (.ok (.tup [akn s h' p O,gvn nm' w H' P' u l S R])):=by
 obtain ⟨d0,a0,b0,e0⟩:=aQ ns hl 120 3 (by omega);have c:(bOr (fB (f2 eqX (ac 2) (bp ah))) (fB (f2 eqX (ai ag 3 (aa (ac 0) (aa (ac 1) (aa (fC (.int 3)) ah)))) (fC (.int 0))))) (E7l ns js (akn s h p O) (gvn nm w H P u l S R) ck ck)=a_ (.ok (js.isEmpty || (d0 == 0))) :=
  rq (bf ((aT (x:=ej js) (y:=.tup []) rfl (gQ aw (by decide))).trans (BJ Jr.g))) (bf ((aT (x:=.int d0) (y:=.int 0) (jj ag rfl rfl rfl e0) rfl).trans rfl))
 cases hc:(js.isEmpty || (d0 == 0)) with
 | true =>
  rw [hc] at c;refine ⟨h,nm,H,P,a,g,dI ?_⟩;show dk (E7l ns js (akn s h p O) (gvn nm w H P u l S R) ck ck)=_;unfold dk;refine kl ?_;rw [pI c];exact di (gQ (ae rfl (ae rfl aw)) (by show 2≤100000; decide))
 | false =>
  rw [hc] at c;have hne:0 < js.length:=by
   cases js with
   | nil=>simp at hc
   | cons o r=>simp
  have jl:=Jr.l;obtain ⟨d1,a1,b1,e1⟩:=aQ ns hl 121 (js.length:Int) (by omega);obtain ⟨i,rfl⟩:∃ i:Nat,d1=i:=⟨d1.toNat,by omega⟩;have hi:i < js.length:=by omega
  obtain ⟨n,hn⟩:∃ n,n=js[i]:=⟨_,rfl⟩;have gn:Good n:=by rw [hn]; exact Jr.g _ (Nt hi)
  obtain ⟨d2,a2,b2,e2⟩:=aQ ns hl 122 3 (by omega);obtain ⟨d3,a3,b3,e3⟩:=aQ ns hl 123 2 (by omega);have v5:zz8 (E7l ns js (akn s h p O) (gvn nm w H P u l S R) ck ck)=a_ (.ok (enc n)):=by
   rw [hn];refine (aT (x:=ej js) (y:=.int (i:Int)) rfl (jj ag rfl rfl ((eY (ae (x:=ej js) rfl aw)).trans ?_) e1)).trans (BC hi);show a_ (Rs.ok (Dv.int ((js.map enc).length:Int)))=_;rw [La]
  have s5:aL 5 zz8 (E7l ns js (akn s h p O) (gvn nm w H P u l S R) ck ck)=a_ (.nx (E7l ns js (akn s h p O) (gvn nm w H P u l S R) (a_ (enc n)) ck)):=aI v5 rfl;have s3:aL 3 (bp (aa (f2 ixD (ac 3) (fC (.int 0))) (aa (f2 ixD (ac 5) (fC (.int 2))) (aa (f2 ixD (ac 3) (fC (.int 2))) (aa (f2 ixD (ac 3) (fC (.int 3))) ah))))) (E7l ns js (akn s h p O) (gvn nm w H P u l S R) (a_ (enc n)) ck)=a_ (.nx (E7l ns js (akn s n.house p O) (gvn nm w H P u l S R) (a_ (enc n)) ck)):=aI (d:=akn s n.house p O) rfl rfl;obtain ⟨P',hP,eP⟩:=eK (l:=[.str n.path,P,.str "/x/y"]) a2 (by simpa using b2);have s6:aL 6 (f2 ixD (bz (aa (f2 ixD (ac 5) (fC (.int 4))) (aa (f2 ixD (ac 4) (fC (.int 3))) (aa (fC (.str "/x/y")) ah)))) (ai ag 3 (aa (ac 0) (aa (f2 bZ (ac 1) (fC (.int 2))) (aa (fC (.int 3)) ah))))) (E7l ns js (akn s n.house p O) (gvn nm w H P u l S R) (a_ (enc n)) ck)=a_ (.nx (E7l ns js (akn s n.house p O) (gvn nm w H P u l S R) (a_ (enc n)) (a_ P'))) :=
   aI ((aT (x:=.lst [.str n.path,P,.str "/x/y"]) (y:=.int d2) (iC (ae rfl (ae rfl (ae rfl aw))) (by show 3≤100000; decide)) (jj ag rfl rfl rfl e2)).trans eP) rfl
  obtain ⟨H',hH,eH⟩:=eK (l:=[.non,.str n.house]) a3 (by simpa using b3);refine ⟨n.house,n.nm,H',P',⟨gn.house,a.p,a.o⟩,⟨gn.nm,g.w,?_,?_,g.u,g.l,g.r⟩,dI ?_⟩
  · simp only [rl,I_,or_false] at hH;rcases hH with rfl | rfl
    · exact .inl rfl
    · exact .inr ⟨_,gn.house,rfl⟩
  · simp only [rl,I_,or_false] at hP;rcases hP with rfl | rfl | rfl
    · exact .inr ⟨_,gn.path,rfl⟩
    · exact g.pp
    · exact .inr ⟨b_ "/x/y",by decide,rfl⟩
  · show dk (E7l ns js (akn s h p O) (gvn nm w H P u l S R) ck ck)=_;unfold dk;rw [al (bA c),al s5,al s3,al s6];refine di (gQ (ae (x:=akn s n.house p O) rfl (ae (x:=gvn n.nm w H' P' u l S R) ?_ aw)) (by show 2≤100000; decide));have vH:f2 ixD (bz (aa (fC .non) (aa (f2 ixD (ac 5) (fC (.int 2))) ah))) (ai ag 3 (aa (ac 0) (aa (f2 bZ (ac 1) (fC (.int 3))) (aa (fC (.int 2)) ah)))) (E7l ns js (akn s n.house p O) (gvn nm w H P u l S R) (a_ (enc n)) (a_ P'))=a_ (.ok H') :=
     (aT (x:=.lst [.non,.str n.house]) (y:=.int d3) (iC (ae rfl (ae rfl aw)) (by show 2≤100000; decide)) (jj ag rfl rfl rfl e3)).trans eH
    exact (aT (x:=.tup [.str n.nm,.str w,H',P']) (y:=.tup [u,l,.bl S,.str R]) (gQ (ae rfl (ae rfl (ae vH (ae rfl aw)))) (by show 4≤100000; decide)) (by kernel_rfl)).trans rfl
theorem wb:∀ js:List Note,jU (js.map (fun o=>Dv.int o.us) ++ [.int 0])=a_ (js.map Note.us ++ [0])
 | []=>rfl
 | o :: js=>by
  show (jU (js.map (fun o=>Dv.int o.us) ++ [.int 0])).map (o.us :: ·)=_;rw [wb js];rfl
theorem last_ok {js:List Note} (hl:js.length≤18) (g:∀ o∈js,0≤o.us∧o.us≤39) {ρ:Ev} (h:ρ[2]?=a_ (a_ (ej js))):∃ L:Int,mF ρ=a_ (.ok (.int L))∧0≤L∧L≤39∧(∀ o∈js,o.us≤L)∧(0 < L→(js.any fun o=>q_ (o.us > L - 1))=c_):=by
 have e1:cq [] (ef (ac 2)) ck (f2 ixD (ac 0) (fC (.int 9))) ρ=a_ (.ok (.lst (js.map fun o=>Dv.int o.us))):=dU enc (fun o=>Dv.int o.us) (ie h) (by omega) fun o ho=>rfl;have e2:f2 bZ (cq [] (ef (ac 2)) ck (f2 ixD (ac 0) (fC (.int 9)))) (bz (aa (fC (.int 0)) ah)) ρ=a_ (.ok (.lst (js.map (fun o=>Dv.int o.us) ++ [.int 0]))):=by
  refine (aT e1 (iC (ae (x:=.int 0) rfl aw) (by show 1≤100000; decide))).trans ?_;show (if (js.map fun o=>Dv.int o.us).length + 1≤100000 then a_ (Rs.ok (Dv.lst (js.map (fun o=>Dv.int o.us) ++ [.int 0]))) else ck)=_;rw [if_pos (by simp; omega)]
 have e3:mF ρ=Eg [.lst (js.map (fun o=>Dv.int o.us) ++ [.int 0])]:=eY (ae e2 aw);have e4:∃ x xs,js.map Note.us ++ [0]=x :: xs:=by
  cases js with
  | nil=>exact ⟨0,[],rfl⟩
  | cons o r=>exact ⟨_,_,rfl⟩
 obtain ⟨x,xs,e4⟩:=e4;have e5:Eg [.lst (js.map (fun o=>Dv.int o.us) ++ [.int 0])]=a_ (.ok (.int (mxL x xs))):=by
  show (match jU (js.map (fun o=>Dv.int o.us) ++ [.int 0]) with | some (n :: ns)=>a_ (Rs.ok (Dv.int (mxL n ns))) | _=>ck)=_
  rw [wb,e4]
 obtain ⟨g1,g2,g3⟩:=uW xs x;have hall:∀ y∈js.map Note.us ++ [0],y≤mxL x xs:=by
  rw [e4];intro y hy;rcases rl.mp hy with rfl | hy
  · exact g1
  · exact g2 y hy
 have hin:mxL x xs∈js.map Note.us ++ [0]:=by
  rw [e4];rcases g3 with q | q
  · rw [q]; exact o_
  · exact pi _ q
 refine ⟨mxL x xs,e3.trans e5,hall 0 (by simp),?_,fun o ho=>hall _ (y_ _ (List.mem_map_of_mem ho)),fun hp=>?_⟩
 · rcases K8.mp hin with q | q
   · obtain ⟨o,ho,e⟩:=Lp.mp q;rw [← e]; exact (g o ho).2
   · rw [Le.mp q]; omega
 · rw [Mz];rcases K8.mp hin with q | q
   · obtain ⟨o,ho,e⟩:=Lp.mp q;refine ⟨o,ho,?_⟩;rw [decide_eq_true_eq,e];omega
   · rw [Le.mp q] at hp; omega
end J
end G
namespace G
open PySem PySem.Spec PyProof.Rows L2 FD
def jM:Dv:=.tup ((s_ 20).map fun k:Nat=>Dv.tup [.str "n",.str "",.str "a.b",.bl d_,.str (b_ "/x" ++ b_ (QX (k:Int))),.non,.bl d_,.str "any",.int 1,.int 2])
def mT:Dv:=.tup [.bl c_,.str "p.q",.str "/",.non]
def fuB (t:List Dv):Bool:=match am [.int 1,.tup t,jM,mT,.str "m=1",.int 9],am [.int 1,.tup t,jM,mT,.str "m=1; lasts 0",.int 9] with
 | some (.ok a),a_ (.ok b)=>okY (eqX (.lst [a,b]) (.lst [.tup [.str "refused",.int 5],jM]))
 | _,_=>d_
def iw:Nat→List (List Dv)
 | 0=>j4 rules
 | k + 1=>(iw k).drop 32
theorem k8 {α:Type} {l:List α} {p:α→Bool} (n:Nat) (h1:(l.take n).all p=c_) (h2:(l.drop n).all p=c_):l.all p=c_:=by
 rw [← N9 n l,RQ,h1,h2]; rfl
theorem KI:((iw 0).take 32).all (fun t=>fuB t && okY (aK [.tup t]))=c_:=by kernel_rfl
theorem KL:((iw 1).take 32).all (fun t=>fuB t && okY (aK [.tup t]))=c_:=by kernel_rfl
theorem KM:((iw 2).take 32).all (fun t=>fuB t && okY (aK [.tup t]))=c_:=by kernel_rfl
theorem KN:((iw 3).take 32).all (fun t=>fuB t && okY (aK [.tup t]))=c_:=by kernel_rfl
theorem KO:((iw 4).take 32).all (fun t=>fuB t && okY (aK [.tup t]))=c_:=by kernel_rfl
theorem KP:((iw 5).take 32).all (fun t=>fuB t && okY (aK [.tup t]))=c_:=by kernel_rfl
theorem KQ:((iw 6).take 32).all (fun t=>fuB t && okY (aK [.tup t]))=c_:=by kernel_rfl
theorem KR:((iw 7).take 32).all (fun t=>fuB t && okY (aK [.tup t]))=c_:=by kernel_rfl
theorem Gg:(j4 rules).all (fun t=>fuB t && okY (aK [.tup t]))=c_:=(k8 (l:=iw 0) 32 KI (k8 (l:=iw 1) 32 KL (k8 (l:=iw 2) 32 KM (k8 (l:=iw 3) 32 KN (k8 (l:=iw 4) 32 KO (k8 (l:=iw 5) 32 KP (k8 (l:=iw 6) 32 KQ KR)))))))
end G
namespace G
namespace J
open PySem PySem.Spec PyProof.Rows L2 FD
theorem wc (E:Ev):(fun ρ=>bnd ((aa (fC (.int 2)) ah) ρ) jY) E=a_ (.ok (([0,1]:List Int).map Dv.int)):=by
 refine (vN (k:=jY) (a:=[.int ((2:Nat):Int)]) rfl).trans ?_;rw [y4 (by omega)];rfl
theorem call6 (F:List Dv→Option (Rs Dv)) {f1 f2 f3 f4 f5 f6:FnE} {ρ:Ev} {a b c e g i d:Dv} (h1:f1 ρ=a_ (.ok a)) (h2:f2 ρ=a_ (.ok b)) (h3:f3 ρ=a_ (.ok c)) (h4:f4 ρ=a_ (.ok e)) (h5:f5 ρ=a_ (.ok g)) (h6:f6 ρ=a_ (.ok i)) (hF:F [a,b,c,e,g,i]=a_ (.ok d)):ai F 6 (aa f1 (aa f2 (aa f3 (aa f4 (aa f5 (aa f6 ah)))))) ρ=a_ (.ok d) :=
 dH (ae h1 (ae h2 (ae h3 (ae h4 (ae h5 (ae h6 aw)))))) rfl hF
def tw (k:Int):Dv:=.lst [rf k,rf k]
theorem JE (ρ:Ev):f2 oY (bz (aa (bp (aa (fC (.str "refused")) (aa (fC (.int 6)) ah))) ah)) (fC (.int 2)) ρ=a_ (.ok (tw 6))∧f2 oY (bz (aa (bp (aa (fC (.str "refused")) (aa (fC (.int 4)) ah))) ah)) (fC (.int 2)) ρ=a_ (.ok (tw 4))∧f2 oY (bz (aa (bp (aa (fC (.str "refused")) (aa (fC (.int 3)) ah))) ah)) (fC (.int 2)) ρ=a_ (.ok (tw 3))∧f2 oY (bz (aa (bp (aa (fC (.str "refused")) (aa (fC (.int 5)) ah))) ah)) (fC (.int 2)) ρ=a_ (.ok (tw 5))∧f2 oY (bz (aa (bp (aa (fC (.str "refused")) (aa (fC (.int 1)) ah))) ah)) (fC (.int 2)) ρ=a_ (.ok (tw 1)):=⟨by kernel_rfl,by kernel_rfl,by kernel_rfl,by kernel_rfl,by kernel_rfl⟩
theorem IR:neX (tw 6) (tw 6)=bo d_∧neX (tw 4) (tw 4)=bo d_∧neX (tw 3) (tw 3)=bo d_∧neX (tw 5) (tw 5)=bo d_∧eqX (tw 1) (tw 1)=bo c_:=⟨by kernel_rfl,by kernel_rfl,by kernel_rfl,by kernel_rfl,by kernel_rfl⟩
theorem IS:∀ d∈[Dv.int (-1),.int 10000,.non,.bl c_],aX [d]=bo d_:=by
 intro d hd;simp only [rl,I_,or_false] at hd;rcases hd with rfl | rfl | rfl | rfl <;> kernel_rfl
theorem IT:∀ d∈[Dv.str "",.str "n",.non,.str "n=1=2"],aC [d]=a_ (.exc 4):=by
 intro d hd;simp only [rl,I_,or_false] at hd;rcases hd with rfl | rfl | rfl | rfl <;> kernel_rfl
def E7r (ns:List Int) (t:List Dv) (js:List Note) (A X:Dv) (x5 x6:Option Dv):Ev:=[a_ (.scr ns),a_ (.tup t),a_ (ej js),a_ A,a_ X,x5,x6]
theorem sx (ns:List Int) (hl:ns.length≤63) {t:List Dv} (ht:t∈j4 rules) {js:List Note} (Jr:Jar js) {s:Bool} {h p:Str} {O:Dv} (a:Ak h p O) {X Gd:Dv} (hX:aC [X]=a_ (.ok Gd)):fR [.scr ns,.tup t,ej js,akn s h p O,X]=bo c_:=by
 have tb:=ib ht;have jy:=jar_y Jr;have ak:=vz (s:=s) a;obtain ⟨r1,r3,r4,r5,r6⟩:=refd;obtain ⟨d5,a5,b5,e5⟩:=aQ ns hl 131 4 (by omega);obtain ⟨od,ho,eo⟩:=eK (l:=[Dv.int (-1),.int 10000,.non,.bl c_]) a5 (by simpa using b5);obtain ⟨d6,a6,b6,e6⟩:=aQ ns hl 132 4 (by omega);obtain ⟨bd,hb,eb⟩:=eK (l:=[Dv.str "",.str "n",.non,.str "n=1=2"]) a6 (by simpa using b6);have on:=IS od ho;have bn:=IT bd hb;refine dI ?_;show dc (E7r ns t js (akn s h p O) X ck ck)=_;unfold dc;have s5:aL 5 (f2 ixD (bz (aa (f1 wg (fC (.int 1))) (aa (fC (.int 10000)) (aa (fC .non) (aa (fC (.bl c_)) ah))))) (ai ag 3 (aa (ac 0) (aa (fC (.int 131)) (aa (fC (.int 4)) ah))))) (E7r ns t js (akn s h p O) X ck ck)=a_ (.nx (E7r ns t js (akn s h p O) X (a_ od) ck)) :=
  aI ((aT (x:=.lst [Dv.int (-1),.int 10000,.non,.bl c_]) (y:=.int d5) (by kernel_rfl) (jj ag rfl rfl rfl e5)).trans eo) rfl
 rw [al s5];have m:=JE (E7r ns t js (akn s h p O) X (a_ od) ck);have m':=JE (E7r ns t js (akn s h p O) X (a_ od) (a_ bd));obtain ⟨n6,n4,n3,n5,n1⟩:=IR;have c1:fB (f2 neX (cq [("_law_table_here",1),("_law_jar_here",2),("_law_ask_here",3),("_law_text_here",4),("_law_odd",5)] (fun ρ=>bnd ((aa (fC (.int 2)) ah) ρ) jY) ck (ai am 6 (aa (ac 0) (aa (ac 1) (aa (ac 2) (aa (ac 3) (aa (ac 4) (aa (ac 5) ah)))))))) (f2 oY (bz (aa (bp (aa (fC (.str "refused")) (aa (fC (.int 6)) ah))) ah)) (fC (.int 2)))) (E7r ns t js (akn s h p O) X (a_ od) ck)=a_ (.ok d_) :=
  bf ((aT (dU (l:=([0,1]:List Int)) Dv.int (fun _=>rf 6) (wc _) (by decide) fun k hk=>call6 am rfl rfl rfl rfl rfl rfl (oV (rw6 tb jy ak hX on) (by decide) r6 k hk)) m.1).trans n6)
 rw [al (bA c1)];have s6:aL 6 (f2 ixD (bz (aa (fC (.str "")) (aa (fC (.str "n")) (aa (fC .non) (aa (fC (.str "n=1=2")) ah))))) (ai ag 3 (aa (ac 0) (aa (fC (.int 132)) (aa (fC (.int 4)) ah))))) (E7r ns t js (akn s h p O) X (a_ od) ck)=a_ (.nx (E7r ns t js (akn s h p O) X (a_ od) (a_ bd))) :=
  aI ((aT (x:=.lst [Dv.str "",.str "n",.non,.str "n=1=2"]) (y:=.int d6) (by kernel_rfl) (jj ag rfl rfl rfl e6)).trans eb) rfl
 rw [al s6];have c2:fB (f2 neX (cq [("_law_table_here",1),("_law_jar_here",2),("_law_ask_here",3),("_law_odd",5),("_law_bad",6)] (fun ρ=>bnd ((aa (fC (.int 2)) ah) ρ) jY) ck (ai am 6 (aa (ac 0) (aa (ac 1) (aa (ac 2) (aa (ac 3) (aa (ac 5) (aa (ac 4) ah)))))))) (f2 oY (bz (aa (bp (aa (fC (.str "refused")) (aa (fC (.int 4)) ah))) ah)) (fC (.int 2)))) (E7r ns t js (akn s h p O) X (a_ od) (a_ bd))=a_ (.ok d_) :=
  bf ((aT (dU (l:=([0,1]:List Int)) Dv.int (fun _=>rf 4) (wc _) (by decide) fun k hk=>call6 am rfl rfl rfl rfl rfl rfl (oV (rw4 tb jy ak bn) (by decide) r4 k hk)) m'.2.1).trans n4)
 rw [al (bA c2)];have ak3:df [.tup [.bl s,.str h,.str p]]=bo d_:=by kernel_rfl
 have c3:fB (f2 neX (cq [("_law_table_here",1),("_law_jar_here",2),("_law_ask_here",3),("_law_odd",5),("_law_bad",6)] (fun ρ=>bnd ((aa (fC (.int 2)) ah) ρ) jY) ck (ai am 6 (aa (ac 0) (aa (ac 1) (aa (ac 2) (aa (cR (ac 3) cm (bP (fC (.int 3)))) (aa (ac 5) (aa (ac 4) ah)))))))) (f2 oY (bz (aa (bp (aa (fC (.str "refused")) (aa (fC (.int 3)) ah))) ah)) (fC (.int 2)))) (E7r ns t js (akn s h p O) X (a_ od) (a_ bd))=a_ (.ok d_) :=
  bf ((aT (dU (l:=([0,1]:List Int)) Dv.int (fun _=>rf 3) (wc _) (by decide) fun k hk=>call6 am (e:=.tup [.bl s,.str h,.str p]) rfl rfl rfl rfl rfl rfl (oV (rw3 tb jy ak3) (by decide) r3 k hk)) m'.2.2.1).trans n3)
 rw [al (bA c3)];have jn:dg [.lst (js.map enc)]=bo d_:=by kernel_rfl
 have c4:fB (f2 neX (cq [("_law_table_here",1),("_law_jar_here",2),("_law_ask_here",3),("_law_odd",5),("_law_bad",6)] (fun ρ=>bnd ((aa (fC (.int 2)) ah) ρ) jY) ck (ai am 6 (aa (ac 0) (aa (ac 1) (aa (fB1 rO (aa (ac 2) ah)) (aa (cR (ac 3) cm (bP (fC (.int 3)))) (aa (ac 5) (aa (ac 4) ah)))))))) (f2 oY (bz (aa (bp (aa (fC (.str "refused")) (aa (fC (.int 5)) ah))) ah)) (fC (.int 2)))) (E7r ns t js (akn s h p O) X (a_ od) (a_ bd))=a_ (.ok d_) :=
  bf ((aT (dU (l:=([0,1]:List Int)) Dv.int (fun _=>rf 5) (wc _) (by decide) fun k hk=>call6 am (c:=.lst (js.map enc)) (e:=.tup [.bl s,.str h,.str p]) rfl rfl rfl rfl rfl rfl (oV (rw5 tb jn) (by decide) r5 k hk)) m'.2.2.2.1).trans n5)
 rw [al (bA c4)];have tn:bI [.lst t]=bo d_:=by kernel_rfl
 exact di ((aT (dU (l:=([0,1]:List Int)) Dv.int (fun _=>rf 1) (wc _) (by decide) fun k hk=>call6 am (b:=.lst t) (c:=.lst (js.map enc)) rfl rfl rfl rfl rfl rfl (oV (rw1 tn) (by decide) r1 k hk)) m'.2.2.2.2).trans n1)
end J
namespace J
open PySem PySem.Spec PyProof.Rows L2 FD
theorem yn {x y:Dv} (h:eqX x y=bo c_):neX x y=bo d_:=by
 unfold eqX at h;unfold neX;split at h
 · rename_i b e;cases h;rfl
 · rename_i e;split at h
   · rename_i hc;rw [if_pos hc];have:Ll (de x) (de y)=c_:=by
      cases q:Ll (de x) (de y) with
      | true=>rfl
      | false=>rw [q] at h; cases h
     rw [this];rfl
   · cases h
theorem neX_s (x:Str):neX (.str x) (.str x)=bo d_:=by
 show a_ (Rs.ok (Dv.bl (!seq x x)))=_;rw [x3];rfl
def EL (ns:List Int) (t:List Dv) (js:List Note) (A Gd:Dv) (L now:Int) (X:Dv) (x8 x9 x10 x11:Option Dv):Ev:=[a_ (.scr ns),a_ (.tup t),a_ (ej js),a_ A,a_ Gd,a_ (.int L),a_ (.int now),a_ X,x8,x9,x10,x11]
theorem zl (ρ:Ev):kQ ρ=a_ (.ok jM)∧kT ρ=a_ (.ok mT):=⟨by kernel_rfl,by kernel_rfl⟩
theorem fin (ns:List Int) (hl:ns.length≤63) {t:List Dv} (ht:t∈j4 rules) {js:List Note} (Jr:Jar js) {s:Bool} {h p:Str} {O:Dv} (a:Ak h p O) {X Gd:Dv} (hX:aC [X]=a_ (.ok Gd)) {L now:Int} {x8:Option Dv} :
 (ar (aL 9 kQ) (ar (aL 10 kT) (ar (aL 11 ji) (ar (aM mI (ay (fC (.bl d_))) (fun ρ=>a_ (.nx ρ))) (ay qb))))) (EL ns t js (akn s h p O) Gd L now X x8 ck ck ck)=a_ (.rt (.bl c_)):=by
 have fu:=ba (p:=fun t=>fuB t && okY (aK [.tup t])) Gg ht;rw [n_] at fu;obtain ⟨f1,f2'⟩:=fu;have nr:=gl f2';unfold fuB at f1;split at f1
 · rename_i x y q1 q2;have ee:=yn (gl f1);have s9:aL 9 kQ (EL ns t js (akn s h p O) Gd L now X x8 ck ck ck)=a_ (.nx (EL ns t js (akn s h p O) Gd L now X x8 (a_ jM) ck ck)):=aI (zl _).1 rfl;have s10:aL 10 kT (EL ns t js (akn s h p O) Gd L now X x8 (a_ jM) ck ck)=a_ (.nx (EL ns t js (akn s h p O) Gd L now X x8 (a_ jM) (a_ mT) ck)):=aI (zl _).2 rfl;have v11:ji (EL ns t js (akn s h p O) Gd L now X x8 (a_ jM) (a_ mT) ck)=a_ (.ok (.lst [x,y])):=by
    have e:=kW (cs:=[("_law_table_here",1),("_law_full",9),("_law_more",10)]) (src:=ef (bp (aa (fC (.str "m=1")) (aa (fC (.str "m=1; lasts 0")) ah)))) (elt:=ai am 6 (aa (fC (.int 1)) (aa (ac 1) (aa (ac 2) (aa (ac 3) (aa (ac 0) (aa (fC (.int 9)) ah))))))) (ρ:=EL ns t js (akn s h p O) Gd L now X x8 (a_ jM) (a_ mT) ck)
     (fun b:Bool=>if b then Dv.str "m=1" else Dv.str "m=1; lasts 0") (fun b=>if b then x else y) (l:=[c_,d_]) (by
       refine (show ef (bp (aa (fC (.str "m=1")) (aa (fC (.str "m=1; lasts 0")) ah))) _=a_ (.ok [.str "m=1",.str "m=1; lasts 0"]) from ?_)
       kernel_rfl) (by decide) fun b hb=>by
       cases b with
       | true=>exact call6 am rfl rfl rfl rfl rfl rfl q1
       | false=>exact call6 am rfl rfl rfl rfl rfl rfl q2
    exact e
   have s11:aL 11 ji (EL ns t js (akn s h p O) Gd L now X x8 (a_ jM) (a_ mT) ck)=a_ (.nx (EL ns t js (akn s h p O) Gd L now X x8 (a_ jM) (a_ mT) (a_ (.lst [x,y])))):=aI v11 rfl;have c4:mI (EL ns t js (akn s h p O) Gd L now X x8 (a_ jM) (a_ mT) (a_ (.lst [x,y])))=a_ (.ok d_):=by
    refine rq (x:=d_) (y:=d_) (bf ((aT (x:=.lst [x,y]) (y:=.lst [.tup [.str "refused",.int 5],jM]) rfl (iC (ae (gQ (ae rfl (ae rfl aw)) (by show 2≤100000; decide)) (ae rfl aw)) (by show 2≤100000; decide))).trans ee)) ?_;exact k7 (bf (k:=c_) (jw aK rfl nr))
   rw [al s9,al s10,al s11,al (bA c4)];exact di (dH (ae (x:=.scr ns) rfl (ae (x:=.tup t) rfl (ae (x:=ej js) rfl (ae (x:=akn s h p O) rfl (ae (x:=X) rfl aw))))) rfl (sx ns hl ht Jr a hX))
 · cases f1
end J
open PySem PySem.Spec PyProof.Rows L2 FD
theorem yo (ns:List Int) (hl:ns.length≤63):vm [.scr ns]=a_ (.ok (.bl c_)):=by
 obtain ⟨t,ht,eT⟩:=xY ns hl;obtain ⟨js,jn,eJ,Jr,hjl,JI⟩:=J.jar_ok ns hl 10 5 (by omega);obtain ⟨s,h,p,O,hh,hp,hO,eA⟩:=xZ ns hl 90;have a0:Ak h p O:=⟨me hh,hp,hO⟩;obtain ⟨nm0,w,H0,P0,u,l,S,R,g0,eG⟩:=ye ns hl 100 hh;obtain ⟨h',nm,H,P,a,g,eL⟩:=J.like_ok ns hl Jr (s:=s) a0 g0;have jl:=Jr.l;have hu39:∀ o∈js,0≤o.us∧o.us≤39:=fun o ho=>⟨Int.le_trans (Jr.g o ho).mk0 (Jr.g o ho).mu,JI.u o ho⟩;obtain ⟨L,e4,l0,l1,lu,lany⟩:=J.last_ok (js:=js) jl hu39 (ρ:=[a_ (.scr ns),a_ (.tup t),a_ (J.ej js),a_ (akn s h' p O),a_ (gvn nm w H P u l S R),ck,ck,ck,ck,ck,ck,ck]) rfl;obtain ⟨dn,n0,n1,e5⟩:=aQ ns hl 130 40 (by omega);obtain ⟨hw,pw,uw,lw,gw,egw⟩:=IG g;have eX:=Bq (S:=S) (IH gw);have rX:=FU gw;rw [← egw] at eX rX;obtain ⟨X,hXe⟩:∃ X,X=T nm w hw pw uw lw S R:=⟨_,rfl⟩;rw [← hXe] at eX rX;have hu:∀ o∈js,o.us≤L + dn:=fun o ho=>by have:=lu o ho; omega
 obtain ⟨x,ys,⟨w1,w2,_⟩,⟨k1,k2,gy,hy⟩⟩:=J.both_of (s:=s) (now:=L + dn) ht a g Jr (by omega) (by omega) hu;have rr:=J.rwy (Jd:=J.ej js) (ib ht) (J.jar_y Jr) (vz (s:=s) a) rX (oG (i:=L + dn) (by omega) (by omega));have hlate:(js.any fun o=>q_ (o.us > L + dn))=d_:=by
  rw [Rj];intro o ho;have:=hu o ho;simp; omega
 refine dI ?_;show vk [a_ (.scr ns),ck,ck,ck,ck,ck,ck,ck,ck,ck,ck,ck]=_;unfold vk;have v1:pZ [a_ (.scr ns),ck,ck,ck,ck,ck,ck,ck,ck,ck,ck,ck]=a_ (.ok (.tup t)):=fW eD rfl rfl eT;rw [al (aI v1 rfl)];simp only [KY,KW];have v2:p4 [a_ (.scr ns),a_ (.tup t),ck,ck,ck,ck,ck,ck,ck,ck,ck,ck]=a_ (.ok (J.ej js)):=jj ik rfl rfl rfl eJ;rw [al (aI v2 rfl)];simp only [KY,KW];have v3:p6 [a_ (.scr ns),a_ (.tup t),a_ (J.ej js),ck,ck,ck,ck,ck,ck,ck,ck,ck]=a_ (.ok (akn s h p O)):=fW ij rfl rfl eA;rw [al (aI v3 rfl)];simp only [KY,KW];have v4:mE [a_ (.scr ns),a_ (.tup t),a_ (J.ej js),a_ (akn s h p O),ck,ck,ck,ck,ck,ck,ck,ck]=a_ (.ok (.tup [akn s h' p O,gvn nm w H P u l S R])) :=
  dH (ae rfl (ae rfl (ae rfl (ae rfl (ae (jj ez rfl rfl rfl eG) aw))))) rfl eL
 have u4:oW [3,4] mE [a_ (.scr ns),a_ (.tup t),a_ (J.ej js),a_ (akn s h p O),ck,ck,ck,ck,ck,ck,ck,ck]=a_ (.nx [a_ (.scr ns),a_ (.tup t),a_ (J.ej js),a_ (akn s h' p O),a_ (gvn nm w H P u l S R),ck,ck,ck,ck,ck,ck,ck]):=by
  unfold oW;rw [v4];rfl
 rw [al u4,al (aI e4 rfl)];simp only [KY,KW];have v5:p7 [a_ (.scr ns),a_ (.tup t),a_ (J.ej js),a_ (akn s h' p O),a_ (gvn nm w H P u l S R),a_ (.int L),ck,ck,ck,ck,ck,ck]=a_ (.ok (.int (L + dn))):=(aT (x:=.int L) (y:=.int dn) rfl (jj ag rfl rfl rfl e5)).trans rfl;rw [al (aI v5 rfl)];simp only [KY,KW];have v6:p8 [a_ (.scr ns),a_ (.tup t),a_ (J.ej js),a_ (akn s h' p O),a_ (gvn nm w H P u l S R),a_ (.int L),a_ (.int (L + dn)),ck,ck,ck,ck,ck]=a_ (.ok (.str X)):=jw gD rfl eX;rw [al (aI v6 rfl)];simp only [KY,KW];have q0:mG (J.EL ns t js (akn s h' p O) (gvn nm w H P u l S R) L (L + dn) (.str X) ck ck ck ck)=a_ (.ok d_) :=
  bf ((aT (x:=.str x) (y:=.str x) (J.call6 am rfl rfl rfl rfl rfl rfl (J.told0 (J.verdict_of rr w1))) (dH (ae rfl (ae rfl (ae rfl (ae rfl (ae rfl aw))))) rfl w2)).trans (J.neX_s x))
 have q1:p9 (J.EL ns t js (akn s h' p O) (gvn nm w H P u l S R) L (L + dn) (.str X) ck ck ck ck)=a_ (.ok d_) :=
  bf ((aT (x:=J.ej ys) (y:=J.ej ys) (J.call6 am rfl rfl rfl rfl rfl rfl (J.told1 (J.taken_of jl rr hlate k1 hy))) (dH (ae rfl (ae rfl (ae rfl (ae rfl (ae rfl aw))))) rfl k2)).trans (IJ (J.it_ej gy) (by omega)))
 show ar (aM mG _ _) _ (J.EL ns t js (akn s h' p O) (gvn nm w H P u l S R) L (L + dn) (.str X) ck ck ck ck)=_;rw [al (bA q0),al (bA q1)];have q2:mH (J.EL ns t js (akn s h' p O) (gvn nm w H P u l S R) L (L + dn) (.str X) ck ck ck ck)=a_ (.ok (q_ (L > 0))):=bf ((aT (x:=.int L) (y:=.int 0) rfl rfl).trans rfl);by_cases hL:0 < L
 · rw [decide_eq_true hL] at q2;have rr2:=J.rwy (Jd:=J.ej js) (ib ht) (J.jar_y Jr) (vz (s:=s) a) rX (oG (i:=L - 1) (by omega) (by omega));have v7:kP (J.EL ns t js (akn s h' p O) (gvn nm w H P u l S R) L (L + dn) (.str X) ck ck ck ck)=a_ (.ok (J.rf 6)) :=
    J.call6 am rfl rfl rfl rfl rfl ((aT (x:=.int L) (y:=.int 1) rfl rfl).trans rfl) (J.told1x (J.taken_late jl rr2 (lany hL)) (by decide) J.refd.2.2.2.2)
   have st:aM mH (ar (aL 8 kP) (aM qa (ay (fC (.bl d_))) (fun ρ=>a_ (.nx ρ)))) (fun ρ=>a_ (.nx ρ)) (J.EL ns t js (akn s h' p O) (gvn nm w H P u l S R) L (L + dn) (.str X) ck ck ck ck)=a_ (.nx (J.EL ns t js (akn s h' p O) (gvn nm w H P u l S R) L (L + dn) (.str X) (a_ (J.rf 6)) ck ck ck)):=by
    rw [pI q2];have s8:aL 8 kP (J.EL ns t js (akn s h' p O) (gvn nm w H P u l S R) L (L + dn) (.str X) ck ck ck ck)=a_ (.nx (J.EL ns t js (akn s h' p O) (gvn nm w H P u l S R) L (L + dn) (.str X) (a_ (J.rf 6)) ck ck ck)):=aI v7 rfl;rw [al s8];exact bA (bf ((aT (x:=J.rf 6) (y:=J.rf 6) rfl (gQ (ae rfl (ae rfl aw)) (by show 2≤100000; decide))).trans (by kernel_rfl)))
   rw [al st];exact J.fin ns hl ht Jr a rX
 · rw [decide_eq_false hL] at q2;rw [al (bA q2)];exact J.fin ns hl ht Jr a rX
end G
namespace G
open PySem PySem.Spec PyProof.Rows L2 FD
theorem walk {l:PQ} {q:r_} {loose:List Str} {XP:(Str→Option g_)→K5→Prop} {YP:E_→K5→Prop} {d:DefRec} {K:Qb→e_} (hn:l.most=a_ 63) (hdf:d.params.defaults=[])
 (hY:∀ (w:E_) (h:K5),YP w h→(K w.params).In h)
 (F:∀ (w:E_) (mg:Str→Option g_) (fa:k_) (h:K5),(K w.params).In h→h.Ns C_ mg→mg d.name=a_ (.ref fa) →
   ∃ fd:LK,(∀ (s:h_) (u:g_),O3 s fd ⟨[u],[]⟩ [("_law_script",u)])∧∀ base:K5,(K w.params).In base→base.Ns C_ mg→FnOk l.prog w (K w.params) mg base CX0 14 fa fd ["_law_script"] (spF (K w.params) vm 1)) :
 Sd q loose XP YP l.row.toRowW d [] (fun f vs=>R0 f vs) :=
 L2.walk_of (n:=63) (k:=14) (x:="_law_script") (CX:=fun _=>CX0) (sp:=fun w=>spF (K w.params) vm 1) hn (by decide) hdf ⟨rfl,by decide,by decide⟩ hY F
  (fun _ _ a ns hl _ hS=>⟨[.scr ns],⟨.ref a,[],rfl,⟨a,rfl,hS⟩,rfl⟩,rfl,by rw [yo ns hl]; exact fun v H' _ r=>r⟩) fun _ _ _ _ _ z=>z
end G
open PySem PySem.W PyProof.Rows
set_option maxRecDepth 100000 in
theorem PySem.Challenge.cw_notejar_k51_taken_holds : PySem.Challenge.rw_notejar_k51_taken.Holds := by
 refine G.hld fun said=>?_;refine PySem.W.holds_open (q:=G.VQ) (loose:=G.VL) (Xt:=fun s=>recOk [] s) (XP:=fun _ _=>True) (Yf:=Hook.obs (Sh G.KK G.KA G.KA_ok)) (Ya:=Hook.val (Sh G.KK G.KA G.KA_ok)) (YP:=Hook.says (Sh G.KK G.KA G.KA_ok)) (N:=9248) G.left (Hook.of (Sh G.KK G.KA G.KA_ok)) (Hook.keeps (Sh G.KK G.KA G.KA_ok)) (fun _ _=>trivial) (fun _ _ _ _ _=>trivial) (by rfl) (by rfl) (by rfl) (fun s e=>recFacts_of e) (by rfl) (by first | assumption | decide +kernel) (by decide +kernel) G.hbr ?hw ?hc
 (case hw=>w_witness2)
 refine G.walk (l:=PySem.Challenge.rw_notejar_k51_taken) rfl rfl (fun w h Y=>PySem.W.kIn_of Y) ?F
 case F =>
  intro w mg fa h KX hG hmg;exact G.all_mk (C0:=37) (C1:=49) (C2:=61) (C3:=73) (C4:=85) (C5:=97) (C6:=109) (CJ:=24) KX hG hmg (G.af 482) (G.af 489) (G.af 496) (G.af 508) (G.af 515) (G.af 558) (G.af 591) (G.af 624) (G.af 610) (G.af 429 "notejar.jars" 740) (G.af 116 "notejar.kinds" 319) (G.af 137 "notejar.names" 344) (G.af 142 "notejar.names" 344) (G.af 208 "notejar.paths" 439) (G.af 130 "notejar.kinds" 319) (G.af 257 "notejar.asks" 475) (G.af 264 "notejar.asks" 475) (G.af 393 "notejar.notes" 622) (G.af 415 "notejar.jars" 740) (G.af 410 "notejar.jars" 740) (G.af 123 "notejar.kinds" 319) (G.af 236 "notejar.asks" 475) (G.af 243 "notejar.asks" 475) (G.af 278 "notejar.giving" 535) (G.af 290 "notejar.giving" 535) (G.af 283 "notejar.giving" 535) (G.af 358 "notejar.notes" 622) (G.af 405 "notejar.jars" 740) (G.af 422 "notejar.jars" 740) (G.af 250 "notejar.asks" 475) (G.af 149 "notejar.names" 344) (G.af 154 "notejar.names" 344) (G.af 161 "notejar.names" 344) (G.af 311 "notejar.giving" 535) (G.af 318 "notejar.giving" 535) (G.af 323 "notejar.giving" 535) (G.af 446 "notejar.jars" 740) (G.af 379 "notejar.notes" 622) (G.af 365 "notejar.notes" 622) (G.af 180 "notejar.names" 344) (G.af 173 "notejar.names" 344) (G.af 187 "notejar.names" 344) (G.af 194 "notejar.names" 344) (G.af 330 "notejar.notes" 622) (G.af 337 "notejar.notes" 622) (G.af 297 "notejar.giving" 535) (G.af 304 "notejar.giving" 535) (G.af 215 "notejar.paths" 439) (G.af 222 "notejar.paths" 439) (G.af 372 "notejar.notes" 622) (G.af 201 "notejar.names" 344) (G.af 271 "notejar.asks" 475) (G.af 344 "notejar.notes" 622) (G.af 168 "notejar.names" 344) (G.af 351 "notejar.notes" 622) (G.af 386 "notejar.notes" 622) (G.af 439 "notejar.jars" 740) (G.af 400 "notejar.notes" 622) (G.af 434 "notejar.jars" 740) (G.af 229 "notejar.paths" 439) (G.af 465 "notejar.jars" 740) (G.af 458 "notejar.jars" 740) (G.af 475 "notejar.jars" 740) (G.af 470 "notejar.jars" 740) (G.af 453 "notejar.jars" 740) (G.af 617) (G.af 520) (G.af 525) (G.af 579) (G.af 544) (G.af 530) (G.af 551) (G.af 537) (G.af 572) (G.af 598) (G.af 631) (G.af 636) (G.af 501) (G.af 603) (G.af 565) (G.af 641) (by kernel_rfl) (by kernel_rfl)
#print axioms PySem.Challenge.cw_notejar_k51_taken_holds
