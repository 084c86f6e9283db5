import PyProof.Rows.All
import Wide.All
import OpenK.AllK
import Wide.FinOn
import Lean
import PyProof.EqAt
import PyProof.EqKinds
import PyProof.TupleCall
import PySem.SetTable
import PyProof.SetKind
import PyProof.TupleKey
import PyProof.DictKinds
import PyProof.Rows.SetFrom
import PyProof.ZipIter
import PyProof.Conv_int
import PyProof.FactsAll.str
import PyProof.EnumIter
import PyProof.Rows.SortStr
import PyProof.Rows.SortWalk
import PyProof.Rows.MinMaxN
import PyProof.ConsumeWalk
import PyProof.CollectWalk
import PyProof.WalksMore
import PyProof.CollectStr
import PyProof.Rows.SortShellK
import PyProof.Rows.SortRunsK
import PyProof.SeqI3
import KE.KSortKey
import PyProof.Rows.CallKwBuiltin
import PyProof.SumAny
import KE.KLam
import PySem.Challenge.RW_notejar_k34_whole_looking
open PySem.Str renaming ofString → a_
open PySem renaming wpAny_bind → b_, wpAny_pure → c_, starEach → e_, wpAny → l_, model → o_, Around → q_, mainGlobals → t_, World → uk, behindInMarks → Fz, compareOp → FJ, foldedSetIterable → FL, wpAny_mono → FQ, backTo → F0, strKind → F1, cellsFrom → F3, wpAny_setState_of → F5, wpAny_newObj_type → F6, assignEach → F8, wpAny_holding → Gb, FuncData → Gp, wpAny_Call_Name_kw → Gr, codeAny_builtin → Gv, wpAny_call_entry → Gx, bootBuiltins → GF, Builtin → GL, wpAny_callSpecial?_slot → GN, keywordEach → GY, rawInt → G2, codeAny_mono → G5, wpAny_truthy_bool → G7, swapsWith → G8, wpAny_setField_rec → Hj, wpAny_typeOf → Hy, binaryOp → Hz, closureFor → HH, wpAny_setEntries_of → HP, mem_of_lookup → HQ, wpAny_getItem_str_slice → HR, wpAny_askSetting → HS, NameKind → HV, wpAny_of_eq → HY, codeAny → HZ, backToKw → Ii, wpAny_newList → Io, attributeBase → Iq, Keyword → Iv, wpAny_attempt → IK, wpAny_passesOwn → IQ, callerA → IR, wpAny_rule → IU, typeIs_str → IV, call_meets → IW, sliceBounds → Jb, sizeLine_eq → Jc, wpAny_storeSet_of → Jk, wpAny_runValue → Jl, wpAny_pyIter_list → Jm, pyNext → Jn, weight_type_call_type → JD, wpAny_forIn_list → JH, Params → JJ, plainId_quiet → JN, codeAny_call_builtin → JS, post_val_or_str → JX, letOwnedTupleGo → JY, codeAny_of_tree → JZ, assign → J0, BindsTo → Ke, pickOrder → Kg, PassesOwn → Kh, wpAny_seqItems → Kj, wpAny_newFunctionEnv_cells → Kk, wpAny_fieldsOf → Kl, firstArgMember → Km, GenState → Kp, wpAny_comprehension_free → KJ, setSearchFrom → KM, wpAny_isInstance → KO, relayAll → KP, putSet_of → KQ, noFill_tuple_add → KR, codeAmong → KS, check_set_init_1 → KT, wpAny_call → K7, setNext → K8, setAddHashed → K9, notedBy → K_, getItem → La, IsPart → Le, wpAny_execs_nil → Lo, importedModules → Lp, wpAny_eqIsQuiet_tuple → Ls, builtinLookup_eq_fast → Lu, unsupported → Ly, setAddHashedIn → Lz, newFunctionEnv → LA, lookup_relabel_local → LB, isSubtype_type → LC, isCodeTable → LD, bindArgs → LF, Result → LK, Model → LL, treeTable → L1, Fin → L3, seq_tuple_add → Mb, setsByText → Mi, pyIter → Mj, checkCount → Ml, call → Mm, list_append → Mv, concat_meets → Mw, compEnvC → Mx, TriplesOk → MQ, Thread → MR, wpAny_field → M5, subscripted → M6, strIterType → M7, spliced → Nd, holding → Nf, collect → Ng, typeOf → Nj, storeSet → Nk, slotArgs → Nl, boot_len → Nm, bindL → Nn, bindC → No, again → Np, ItemsAre → Nv, Drawn → NE
open PySem.W renaming Frag → ck, keepIn → GD, kia_one → GE, emptyDict → GU, kitOne → Hk, instObj → Hv, nsIn → HB, fnOf → H_, kla_obj → Ij, mg_of → IL, findIn → Jo, cellsFrom_some → Jp, OpenLaw → J4, codeIn → Kn, methodObj → KB, absHeap → Lb, lookIn → LG, kla_fn → LH, kIn_of → LI, WalkO → Mc, specialIn → My, kitx_list → Mz, kitx_dict → MB, plainGet → MN, through → Nh, openEnds → Nr, kHook → ND, isFn → NI
open PySem.Heap renaming get?_push_of_some → d_, get?_push_size → h_, lt_size → m_, size_push → z_, get?_push_ne → F7, get?_update_ne → Gh, size_update → GO, get?_update_self → Hs, get?_update_other → Ia, SameBut → Ib, get?_none_of_le → JU
open List renaming range → f_, mem_cons_of_mem → ge, mem_cons_self → g_, getElem?_eq_getElem → i_, mem_append_right → pi, mem_cons → p_, getElem?_eq_some_iff → u_, size_toArray → v_, map_cons → xy, length_map → y_, mem_map → C_, getElem?_map → D_, length_filter_le → FK, not_mem_nil → FP, pairwise_cons → FV, mem_filter → FX, lookup_cons → F4, replicate → F9, mem_append_left → F_, getElem?_eq_none → Gg, mem_append → Gj, getElem?_set_ne → Gq, mem_singleton → Gs, getElem?_set_self → Gu, mem_range → Gw, all_eq_true → Gz, map_map → GC, all_cons → GK, length_append → GM, mem_of_getElem? → GR, length_eq_zero_iff → GS, getElem?_append_right → GW, getElem?_range → GX, map_append → G0, length_set → G1, filter_cons_of_pos → G9, filter_cons_of_neg → G_, nodup_cons → Ha, length_cons → Hh, getD → Hi, set_cons_zero → Hm, set_cons_succ → Hn, lookup_append → Ho, getD_eq_getElem?_getD → Hq, getElem?_append_left → Hu, reverse_cons → HF, mem_zipIdx_iff_getElem? → Im, length_replicate → Iu, length_range → Ix, append_assoc → Iy, perm_append_singleton → IA, getElem_mem → IE, filterMap_cons → IJ, append_nil → IT, getElem?_replicate → Jh, getElem?_cons_succ → Ji, flatMap_cons → Jx, ext_getElem? → Jy, length_take → JK, drop_length → JL, countP_cons → JM, any_cons → JR, of_mem_zip → J7, toList_toArray → J9, mem_map_of_mem → J_, length_eraseIdx_of_lt → Kw, filterMap_map → Kx, pairwise_iff_getElem → Ky, getElem?_eq_none_iff → Kz, filter_congr → KH, any_eq_true → K6, take_of_length_le → Lj, range_succ_eq_map → Lk, pairwise_lt_range → Ll, filter_eq_nil_iff → Lm, range_succ → Lq, take_append_drop → Lv, length_singleton → Lw, not_lt → LV, lt_irrefl → LW, forIn_nil → LX, reverse_append → L_, map_congr_left → Ma, lt_trans → Mg, mem_filterMap → Mq, filter_filter → Mr, pairwise_map → MJ, mapM_toArray → MK, zipIdx_cons → MW, perm_middle → MX, mem_reverse → MY, length_drop → MZ, le_antisymm → M0, getElem_inj → M1, flatMap_def → M3, ext_getElem → M4, nil_append → M_, forIn_cons → Na, foldl_cons → Nb, map → Nz
open Nat renaming le_refl → j_, ne_of_lt → n_, lt_succ_of_lt → w_, lt_of_lt_of_le → x_, le_trans → FH, zero_le → FN, lt_irrefl → Gy, eq_of_beq_eq_true → GB, lt_succ_self → GI, ne_of_beq_eq_false → Hc, le_of_lt → Hd, le_succ → Hg, le_of_lt_succ → HE, le_of_eq → Ig, zero_add → ID, not_lt_zero → IS, mod_lt → I0, succ_pos → Jv, ne_of_gt → Jw, le_of_ble_eq_true → JF, beq → JQ, min_le_right → K4, add_sub_cancel_left → K5, lt_trans → Li
open Bool renaming and_eq_true → k_, false_eq_true → on, false_ne_true → rl, eq_iff_iff → FY, and_eq_true_iff → Ga, not_eq_true' → Go, true → HX, false → Ih, not_true → IP, not_false → JA, not_eq_false' → Ms
open PySem.Value renaming type → r_, ref → s_, none → FB, bool → GA, str → GG, isStrOf → Ir, builtin → IM, isStrOf_shape → L6, int → MO
open PySem.SetTable renaming insertAt → A_, grown → GV, insertAt_perm → Ld, turns → Md, leap → Me, tooFull → MS, advance → MT, runEnd → Nt, layClean → Nu, fits → NA, fill → NB
open PyProof.Rows renaming seqObj → B_, callWith_type1 → Ge, slot_tuple_getitem → Gf, callWith_builtin1 → G3, size_push' → Hl, listUpdate_at → HM, listItems_at → Ie, get?_update_seq → Il, envOfC → II, SortSt → Jt, AllBare → Ju, arrOf → JE, pairsOf → JP, entry_list_sort → J6, pairsOf_size → Kf, slot_list_sort → Kv, seqEpoch_at → KF, IntsAre → KG, pendingOf → K2, SortKind → K3, subscriptTail_builtinR → Lf, plain_sorted → Lg, entry_sorted → Lh, sortedHeap_old → LP, kind_sorted → LQ, failedOf → LR, args_list_sort → LS, Keyed → LU, oneLt'_eq → L4, lt_str → L9, sortedHeap_at → Mf, typeIs_bool' → MG, args_sorted1 → MH, StrsAre → MI, strOf → M8, tuples' → Ni, IsTup → Ny
open Option renaming none → E_, some → FM, map_eq_some_iff → GH, map_some → GZ, isSome_iff_exists → HN, bind_eq_some_iff → Jg, getD_none → MV, all_some → M9
open PySem.Obj renaming mapSeq → Fy, putSet → HK, mk → IX
open PySem.F renaming called_set → FF, args_tuple_add_2 → IN, plainAttrs_list → Je, entry_tuple_add → Jf, slot_str_split → Jj, slot_tuple_add → Jr, slot_list_append → JV, args_str_split_2 → Kq, entry_type_call → KC, entry_str_split → KD, typeCall_set_1 → KW, slot_str_partition → KY, slot_list_index → KZ, slot_list_count → K0, entry_set_init → K1, sub_list_frozenset → LM, args_list_append_2 → LN, entry_list_append → L7
open PySem.PyData renaming canLay0 → FR, eqv → Gc, canLayAll0 → GJ, depthAll → Hw, eqvAll → HJ, depth → Jq
open Option.some renaming inj → FU, injEq → HC
open False renaming elim → Gd
open Array renaming length_toList → Gi, getElem?_eq_some_iff → Gm, size_map → Hr, mem_toList_iff → HG, getD_eq_getD_getElem? → Iz, getElem?_map → I_, forIn_toList → Ja, toList_push → JB, toList → JC, getElem?_toList → JG, toArray_toList → JW, replicate → Lr, append_assoc → Mt, size_append → ML
open PySem.Builtin.Str renaming occurrences → Gk, strKind → L8
open PySem.Around renaming under_plainId → GP, under_plain → Ku, under → MF
open PyProof.Rows.F renaming plain_set_update_loop → GQ, entry_set_update_loop → HW
open PySem.NameKind renaming free → GT, cell → G6
open Int renaming emod_lt_of_pos → G4, emod_nonneg → Hx, toNat_natCast → KI
open PySem.Builtin.List renaming listExtendWith → Hb, listItems → Js, listSameRef → KN
open PySem.Txt renaming partition → He, startswith → HU, split → Jd, endswith → Kc, slice_le → Lc, slice → MP
open PySem.Builtin.Slice renaming slicePlaces → Ht, sliceAdjust → IG, sliceApplied → Kt
open PySem.Shared renaming TypeIs → HI
open PySem.Builtin.Tuple renaming tupleExact → HL, tupleItemsOf → Ks
open PySem.ClassData renaming mk → Ic
open PySem.Builtin.Frozenset renaming updateFrom → Ik, newClass → Nw, sizeOf → NC, slot0 → NF
open PySem.Calls renaming spliced_nil → Iw, call_function_entry → IF, spliced_cons → IZ, Name_function_global → Kr
open PySem.Data renaming dict → IB, fields → LO, cls → MD
open Ne renaming symm → IC
open PySem.Heap.SameBut renaming update → IH
open PySem.Code renaming quiet_builtin → IY, isFrame → ME
open List.Pairwise renaming nil → Jz
open PySem.SetTable.layClean renaming free → JO
open ForInStep renaming yield → J8
open PySem.W.Fast renaming tw11892475500146522536 → Ka, tw10156331382660048174 → Kb, tw6613529449190102663 → Ko
open True renaming intro → Ki
open PySem.SetTable.probe renaming go → KU
open StateT renaming run_pure → Ln
open List.Perm renaming append_left → Lx, swap → LY
open PySem.SeqAt.EqAt renaming bool_bool → LJ, str_int → Mn, int_str → Mp
open Sum renaming inr → LZ, inl → L0
open LawfulBEq renaming eq_of_beq → L5
open Function renaming comp → Mh
open PySem.pickOrder renaming go → Mu
open PySem.SetTable.below renaming go → MC
open Std.Legacy renaming Range → MM
open PySem.IsL renaming update → MU
open List.cons renaming injEq → Nc
open PySem.Walks renaming list → Nq
open PyProof.Rows.SortSt renaming mk' → Nx
open PyProof.Rows.IsTup renaming new → NG
open ForIn renaming forIn → NH
set_option maxHeartbeats 4000000
set_option Elab.async false
namespace TR
open PySem PySem.W
def gD (tb:String→Option GL) (p:Program) (w:uk) (n₀:Nat) (ann:Option Value):Nat→SharedT→MR→Option SharedT
 | 0,_,_=>none
 | n + 1,s,t=>match Nh t with
  | true=>some s
  | false=>match stepOk n₀ ann t with
   | false=>none
   | true=>match stepT (denote tb) p w s t with
    | some (s',t')=>gD tb p w n₀ ann n s' t'
    | none=>none
def iA:List Obj→BT→Nat→Option (BT×Nat)
 | [],t,n=>some (t,n)
 | o :: os,t,n=>match ((t.ins n o).get n).isSome with
  | true=>iA os (t.ins n o) (n + 1)
  | false=>none
def tQ (tb:String→Option GL) (p:Program) (w:uk) (N:Nat):Option Shared:=(fencedOpening tb p w N).bind fun s₀=>match s₀.heap.isNs t_ && s₀.gens.size == 0 with
 | true=>(iA s₀.heap.objs.toList .nil 0).bind fun x=>(gD tb p w s₀.heap.objs.size (s₀.heap.nsMap t_ "__annotations__") N ⟨x.1,x.2,s₀.heap.life,s₀.gens,s₀.drawn,s₀.toks,s₀.os⟩ (topStub p)).bind fun sT=>match staticsOk (Lp p.main.body) s₀.heap sT.abs.heap && namesBound p sT.abs.heap && gensDone sT.abs && laidKept s₀.heap sT.abs.heap with
  | true=>some sT.abs
  | false=>none
 | false=>none
section
variable {tb:String→Option GL} {p:Program} {w:uk} {n₀:Nat} {ann:Option Value}
theorem g8:∀ (n:Nat) (s:SharedT) (t:MR) (s':SharedT),gD tb p w n₀ ann n s t=some s'→topRun tb p w n₀ ann n s.abs t=some s'.abs
 | 0,_,_,_,h=>by cases h
 | n + 1,s,t,s',h=>by
  unfold gD at h
  unfold topRun
  cases ht:Nh t with
  | true=>rw [ht] at h; cases h; rfl
  | false =>
   rw [ht] at h
   cases hk:stepOk n₀ ann t with
   | false=>rw [hk] at h; cases h
   | true =>
    rw [hk] at h
    cases hs:stepT (denote tb) p w s t with
    | none=>rw [hs] at h; cases h
    | some x =>
     obtain ⟨s1,t1⟩:=x
     rw [hs] at h
     dsimp only at h ⊢
     rw [stepT_spec hs]
     exact g8 n s1 t1 s' h
theorem iB {life:Life}:∀ (os:List Obj) (t:BT) (n:Nat) (t':BT) (n':Nat),iA os t n=some (t',n')→(Lb t' n' life).objs=(Lb t n life).objs ++ os.toArray
 | [],t,n,t',n',h=>by cases h; simp
 | o :: os,t,n,t',n',h=>by
  unfold iA at h
  cases e:((t.ins n o).get n).isSome with
  | false=>rw [e] at h; cases h
  | true =>
   rw [e] at h
   rw [iB os _ _ _ _ h,absHeap_ins e]
   show (Lb t n life).objs.push o ++ os.toArray=_
   simp
theorem pp {N:Nat} {s:Shared} (h:tQ tb p w N=some s):Nr tb p w N=some s:=by
 unfold tQ at h
 unfold Nr
 obtain ⟨s₀,h0,h1⟩:=Jg.mp h
 rw [h0]
 show topFrom tb p w N s₀=some s
 unfold topFrom
 cases hc:(s₀.heap.isNs t_ && s₀.gens.size == 0) with
 | false=>rw [hc] at h1; cases h1
 | true =>
  rw [hc] at h1
  dsimp only at h1 ⊢
  obtain ⟨⟨t',n'⟩,h2,h3⟩:=Jg.mp h1
  obtain ⟨sT,h4,h5⟩:=Jg.mp h3
  have e:=iB (life:=s₀.heap.life) _ _ _ _ _ h2
  have e2:Lb t' n' s₀.heap.life=s₀.heap:=by
   have e3:(Lb t' n' s₀.heap.life).objs=s₀.heap.objs:=by
    rw [e]
    show (Lb BT.nil 0 s₀.heap.life).objs ++ s₀.heap.objs.toList.toArray=_
    simp [Lb,BT.list]
   obtain ⟨⟨objs,life⟩,g,d,k,os⟩:=s₀
   show Heap.mk _ _=Heap.mk _ _
   exact congrArg (Heap.mk · life) e3
  have r:=g8 _ _ _ _ h4
  have ea:(SharedT.abs ⟨t',n',s₀.heap.life,s₀.gens,s₀.drawn,s₀.toks,s₀.os⟩)=s₀:=by
   show Shared.mk (Lb t' n' s₀.heap.life) _ _ _ _=s₀
   rw [e2]
  rw [ea] at r
  rw [r]
  exact h5
theorem p8 {α:Type} {N:Nat} {f:Shared→α} {a:α} (h:(tQ tb p w N).map f=some a):(Nr tb p w N).map f=some a:=by
 obtain ⟨s,h1,h2⟩:=GH.mp h
 rw [pp h1]
 exact congrArg some h2
end
noncomputable def B4 (tb:String→Option GL) (p:Program) (w:uk) (n₀:Nat) (ann:Option Value) (n:Nat):SharedT→MR→Option SharedT :=
 @Nat.rec (fun _=>SharedT→MR→Option SharedT) (fun _ _=>none) (fun _ ih s t=>@Bool.rec (fun _=>Option SharedT) (@Bool.rec (fun _=>Option SharedT) none (@Option.rec (SharedT×MR) (fun _=>Option SharedT) none (fun x=>ih x.1 x.2) (Kb (Ka tb) p w s t)) (Ko n₀ ann t)) (some s) (Nh t)) n
theorem p9 {tb:String→Option GL} {p:Program} {w:uk} {n₀:Nat} {ann:Option Value}:∀ (n:Nat) (s:SharedT) (t:MR),B4 tb p w n₀ ann n s t=gD tb p w n₀ ann n s t
 | 0,_,_=>rfl
 | n + 1,s,t=>by
  show @Bool.rec (fun _=>Option SharedT) (@Bool.rec (fun _=>Option SharedT) none (@Option.rec (SharedT×MR) (fun _=>Option SharedT) none (fun x=>B4 tb p w n₀ ann n x.1 x.2) (Kb (Ka tb) p w s t)) (Ko n₀ ann t)) (some s) (Nh t)=_
  unfold gD
  rw [← Fast.te10156331382660048174,← Fast.te11892475500146522536,← Fast.te6613529449190102663]
  cases Nh t with
  | true=>rfl
  | false =>
   cases stepOk n₀ ann t with
   | false=>rfl
   | true =>
    cases stepT (denote tb) p w s t with
    | none=>rfl
    | some x=>exact p9 n x.1 x.2
noncomputable def openQ (tb:String→Option GL) (p:Program) (w:uk) (N:Nat):Option Shared:=(fencedOpening tb p w N).bind fun s₀=>match s₀.heap.isNs t_ && s₀.gens.size == 0 with
 | true=>(iA s₀.heap.objs.toList .nil 0).bind fun x=>(B4 tb p w s₀.heap.objs.size (s₀.heap.nsMap t_ "__annotations__") N ⟨x.1,x.2,s₀.heap.life,s₀.gens,s₀.drawn,s₀.toks,s₀.os⟩ (topStub p)).bind fun sT=>match staticsOk (Lp p.main.body) s₀.heap sT.abs.heap && namesBound p sT.abs.heap && gensDone sT.abs && laidKept s₀.heap sT.abs.heap with
  | true=>some sT.abs
  | false=>none
 | false=>none
theorem openQ_map {tb:String→Option GL} {p:Program} {w:uk} {α:Type} {N:Nat} {f:Shared→α} {a:α} (h:(openQ tb p w N).map f=some a):(Nr tb p w N).map f=some a:=by
 refine p8 ?_
 unfold openQ at h
 unfold tQ
 simp only [p9] at h
 exact h
end TR
namespace G
open PySem PySem.W PyProof.Rows
noncomputable def hT (i:Nat):Stmt:=PySem.Challenge.pw_notejar_k34_whole_looking.main.body.getD i (.Pass ⟨0,0,0,0⟩)
noncomputable def hA (s:Stmt):Arguments:=match s with
 | .FunctionDef _ a _ _ _ _ _ _ _ _=>a
 | _=>{ posonlyargs:=[],args:=[],vararg:=none,kwonlyargs:=[],kw_defaults:=[],kwarg:=none,defaults:=[] }
noncomputable def hB (s:Stmt):List Stmt:=match s with
 | .FunctionDef _ _ b _ _ _ _ _ _ _=>b
 | _=>[]
noncomputable def hS (s:Stmt):Scope:=match s with
 | .FunctionDef _ _ _ _ _ _ sc _ _ _=>sc
 | _=>{ kind:=.function,names:=[],isGenerator:=false,isCoroutine:=false }
noncomputable abbrev kS (s:String) (t:Nat):Value:=.str (a_ s) t
noncomputable abbrev kR (a:Nat):Value:=.ref a
noncomputable abbrev kI (i:Int) (t:Nat):Value:=.int i t
noncomputable abbrev kE (P:JJ) (s:String) (t:Nat) (v:Value):DictEntry:=⟨PySem.PyData.keyHash P (a_ s),.str (a_ s) t,v⟩
noncomputable def kF (x:String) (i:Nat) (m:String) (t c:Nat):Obj:=IX (r_ "function") E_ (Data.func (fnOf (a_ x) (a_ x) (hA (hT i)) (hB (hT i)) (hS (hT i)) .none FB FB (kS m t) E_ (kR c) FB)) #[]
noncomputable def kC (x:String) (a b c:Nat) (d e f:Int) (g:Nat) (h:Int) (i j:Nat) (k l:Int) (m:Nat):Obj:=IX (r_ "code") E_ (LO #[kS x a,kS x b,kS "/claim/cut.py" c,kI d 0,kI e 0,kI 0 0,kI 0 0,kI f 0,kR g,GA HX,kI h 0,kR i,FB,FB,FB,kR j,kI k 0,kI l 0,kS "/claim/cut.py" m]) #[]
noncomputable def kD (x:String) (a b c:Nat) (d e f:Int) (g:Nat) (h:Int) (i u v j:Nat) (k l:Int) (m:Nat):Obj:=IX (r_ "code") E_ (LO #[kS x a,kS x b,kS "/claim/cut.py" c,kI d 0,kI e 0,kI 0 0,kI 0 0,kI f 0,kR g,GA HX,kI h 0,kR i,FB,kR u,kR v,kR j,kI k 0,kI l 0,kS "/claim/cut.py" m]) #[]
noncomputable def KKa (P:JJ):Frag:=[(2,IX FB E_ (IB #[]) #[]),
 (3,IX (r_ "dict") E_ (IB #[kE P "__name__" 165 (kS "law_notejar_k34_whole_looking" 682),kE P "__doc__" 166 FB,kE P "__package__" 167 FB,kE P "__loader__" 168 (IM "__main__.__loader__#opaque"),kE P "__spec__" 169 FB,kE P "__annotations__" 170 (kR 6),kE P "__builtins__" 171 (kR 4),kE P "__file__" 173 (kS "/claim/cut.py" 172),kE P "__cached__" 174 FB,kE P "JarError" 206 (kR 24),kE P "NoTable" 222 (kR 37),kE P "NoAsk" 238 (kR 49),kE P "NoJar" 254 (kR 61),kE P "NoNumber" 270 (kR 73),kE P "is_text_of" 278 (kR 80),kE P "is_whole_number" 287 (kR 87),kE P "is_tuple_of" 295 (kR 94),kE P "FIGURES" 299 (kS "0123456789" 298),kE P "LABEL_SIGNS" 301 (kS "abcdefghijklmnopqrstuvwxyz0123456789-" 300),kE P "LONGEST_LABEL" 303 (kI 8 302),kE P "MOST_LABELS" 305 (kI 5 304),kE P "MOST_RULES" 307 (kI 8 306),kE P "is_label" 314 (kR 101),kE P "is_name" 320 (kR 106),kE P "is_rule" 327 (kR 113),kE P "is_table" 333 (kR 118),kE P "need_table" 340 (kR 125),kE P "lies_within" 348 (kR 132),kE P "ends_longest_first" 354 (kR 137),kE P "behind_first_dot" 361 (kR 144),kE P "is_told_open" 369 (kR 151),kE P "find_open_end" 379 (kR 158),kE P "find_own_end" 390 (kR 165),kE P "PATH_SIGNS" 394 (kS "abcdefghijklmnopqrstuvwxyz0123456789-_./" 393),kE P "LONGEST_PATH" 396 (kI 20 395),kE P "is_path" 403 (kR 172),kE P "lies_under" 411 (kR 179),kE P "LAST_MOMENT" 415 (kI 9999 414),kE P "ASK_SAFE" 417 (kI 0 416),kE P "ASK_HOUSE" 419 (kI 1 418),kE P "ASK_PATH" 421 (kI 2 420),kE P "ASK_ORIGIN" 423 (kI 3 422),kE P "ASK_PARTS" 425 (kI 4 424),kE P "is_moment" 432 (kR 186),kE P "is_moment_or_none" 439 (kR 193),kE P "need_moment" 446 (kR 200),kE P "is_ask" 453 (kR 207),kE P "need_ask" 460 (kR 214),kE P "comes_from_near" 471 (kR 221),kE P "NOTE_NAME_SIGNS" 475 (kS "abcdefghijklmnopqrstuvwxyzABCDEFGHIJKLMNOPQRSTUVWXYZ0123456789-_" 474),kE P "LONGEST_NOTE_NAME" 477 (kI 10 476),kE P "NO_WORTH_SIGNS" 479 (kS ";,=" 478),kE P "LONGEST_WORTH" 481 (kI 12 480),kE P "is_note_name" 488 (kR 228),kE P "is_worth" 494 (kR 233),kE P "is_reach" 501 (kR 240),kE P "NOTE_NAME" 505 (kI 0 504),kE P "NOTE_WORTH" 507 (kI 1 506),kE P "NOTE_HOUSE" 509 (kI 2 508),kE P "NOTE_EXACT" 511 (kI 3 510),kE P "NOTE_PATH" 513 (kI 4 512),kE P "NOTE_ENDS" 515 (kI 5 514),kE P "NOTE_SAFE" 517 (kI 6 516),kE P "NOTE_REACH" 519 (kI 7 518),kE P "NOTE_MADE" 521 (kI 8 520),kE P "NOTE_USED" 523 (kI 9 522),kE P "NOTE_PARTS" 525 (kI 10 524),kE P "is_note" 532 (kR 247),kE P "key" 539 (kR 254),kE P "has_ended" 547 (kR 261),kE P "is_for" 555 (kR 268),kE P "goes" 565 (kR 275),kE P "MOST_NOTES" 569 (kI 20 568),kE P "is_jar" 575 (kR 280),kE P "is_by_made" 581 (kR 285),kE P "has_no_key_twice" 587 (kR 290),kE P "need_jar" 594 (kR 297),kE P "swept" 602 (kR 304),kE P "without_ended" 608 (kR 309),kE P "need_sending" 618 (kR 316),kE P "sent" 624 (kR 321),kE P "group_of" 635 (kR 328),kE P "groups" 641 (kR 333),kE P "MOST_ASKS" 645 (kI 9 644),kE P "by_group" 651 (kR 338),kE P "keys_of_group" 657 (kR 343),kE P "ending" 663 (kR 348),kE P "is_list_of_asks" 669 (kR 353),kE P "along" 675 (kR 358),kE P "asks_of" 681 (kR 363),kE P "_law_cell" 691 (kR 370),kE P "_law_drawn" 701 (kR 377),kE P "_law_name" 710 (kR 384),kE P "_law_table" 716 (kR 389),kE P "_law_path" 725 (kR 396),kE P "_law_ask" 734 (kR 403),kE P "_law_jar" 740 (kR 408),kE P "_law_key" 747 (kR 415),kE P "_law_go_along" 753 (kR 420),kE P "law" 759 (kR 425)] 100) #[]),
 (23,IX (r_ "dict") E_ (IB #[kE P "__module__" 196 (kS "notejar.errors" 187),kE P "__firstlineno__" 200 (kI 2 199),kE P "__static_attributes__" 201 (kR 22),kE P "__weakref__" 203 (kR 25),kE P "__doc__" 204 FB] 3) #[]),
 (24,IX (r_ "type") E_ (MD (Ic (a_ "JarError") [r_ "ValueError"] [kR 24,r_ "ValueError",r_ "Exception",r_ "BaseException",r_ "object"] 23 (a_ "JarError") HX [] [kR 37,kR 49,kR 61,kR 73] Ih E_ Ih)) #[FM (kR 15),E_,FM (kS "JarError" 189),FM (kS "JarError" 197),FM (IM "ValueError.__new__"),FM (GA HX)]),
 (36,IX (r_ "dict") E_ (IB #[kE P "__module__" 214 (kS "notejar.errors" 187),kE P "__firstlineno__" 218 (kI 4 217),kE P "__static_attributes__" 219 (kR 35),kE P "__doc__" 220 FB] 2) #[]),
 (37,IX (r_ "type") E_ (MD (Ic (a_ "NoTable") [kR 24] [kR 37,kR 24,r_ "ValueError",r_ "Exception",r_ "BaseException",r_ "object"] 36 (a_ "NoTable") HX [] [] Ih E_ Ih)) #[FM (kR 28),E_,FM (kS "NoTable" 207),FM (kS "NoTable" 215),FM (IM "ValueError.__new__"),FM (GA HX)]),
 (48,IX (r_ "dict") E_ (IB #[kE P "__module__" 230 (kS "notejar.errors" 187),kE P "__firstlineno__" 234 (kI 6 233),kE P "__static_attributes__" 235 (kR 47),kE P "__doc__" 236 FB] 2) #[]),
 (49,IX (r_ "type") E_ (MD (Ic (a_ "NoAsk") [kR 24] [kR 49,kR 24,r_ "ValueError",r_ "Exception",r_ "BaseException",r_ "object"] 48 (a_ "NoAsk") HX [] [] Ih E_ Ih)) #[FM (kR 40),E_,FM (kS "NoAsk" 223),FM (kS "NoAsk" 231),FM (IM "ValueError.__new__"),FM (GA HX)]),
 (60,IX (r_ "dict") E_ (IB #[kE P "__module__" 246 (kS "notejar.errors" 187),kE P "__firstlineno__" 250 (kI 8 249),kE P "__static_attributes__" 251 (kR 59),kE P "__doc__" 252 FB] 2) #[]),
 (61,IX (r_ "type") E_ (MD (Ic (a_ "NoJar") [kR 24] [kR 61,kR 24,r_ "ValueError",r_ "Exception",r_ "BaseException",r_ "object"] 60 (a_ "NoJar") HX [] [] Ih E_ Ih)) #[FM (kR 52),E_,FM (kS "NoJar" 239),FM (kS "NoJar" 247),FM (IM "ValueError.__new__"),FM (GA HX)]),
 (72,IX (r_ "dict") E_ (IB #[kE P "__module__" 262 (kS "notejar.errors" 187),kE P "__firstlineno__" 266 (kI 10 265),kE P "__static_attributes__" 267 (kR 71),kE P "__doc__" 268 FB] 2) #[]),
 (73,IX (r_ "type") E_ (MD (Ic (a_ "NoNumber") [kR 24] [kR 73,kR 24,r_ "ValueError",r_ "Exception",r_ "BaseException",r_ "object"] 72 (a_ "NoNumber") HX [] [] Ih E_ Ih)) #[FM (kR 64),E_,FM (kS "NoNumber" 255),FM (kS "NoNumber" 263),FM (IM "ValueError.__new__"),FM (GA HX)]),
 (79,kC "is_text_of" 273 274 275 13 4 3 76 181 77 78 276 13 277),
 (80,kF "is_text_of" 7 "notejar.kinds" 271 79),
 (86,kD "is_whole_number" 279 280 281 19 3 3 81 181 82 83 84 85 285 19 286),
 (87,kF "is_whole_number" 8 "notejar.kinds" 271 86),
 (93,kD "is_tuple_of" 288 289 290 23 2 3 88 181 89 90 91 92 293 23 294),
 (94,kF "is_tuple_of" 9 "notejar.kinds" 271 93),
 (100,kD "is_label" 308 309 310 31 1 3 95 181 96 97 98 99 312 31 313),
 (101,kF "is_label" 16 "notejar.names" 296 100),
 (105,kC "is_name" 315 316 317 35 1 3 102 181 103 104 318 35 319),
 (106,kF "is_name" 17 "notejar.names" 296 105),
 (112,kD "is_rule" 321 322 323 42 1 3 107 181 108 109 110 111 325 42 326),
 (113,kF "is_rule" 18 "notejar.names" 296 112),
 (117,kC "is_table" 328 329 330 50 1 3 114 181 115 116 331 50 332),
 (118,kF "is_table" 19 "notejar.names" 296 117),
 (124,kD "need_table" 334 335 336 56 1 3 119 181 120 121 122 123 338 56 339),
 (125,kF "need_table" 20 "notejar.names" 296 124),
 (131,kD "lies_within" 341 342 343 59 2 3 126 181 127 128 129 130 346 59 347),
 (132,kF "lies_within" 21 "notejar.names" 296 131),
 (136,kC "ends_longest_first" 349 350 351 61 1 3 133 181 134 135 352 61 353),
 (137,kF "ends_longest_first" 22 "notejar.names" 296 136),
 (143,kD "behind_first_dot" 355 356 357 64 1 3 138 181 139 140 141 142 359 64 360),
 (144,kF "behind_first_dot" 23 "notejar.names" 296 143),
 (150,kD "is_told_open" 362 363 364 66 2 3 145 181 146 147 148 149 367 66 368),
 (151,kF "is_told_open" 24 "notejar.names" 296 150),
 (157,kD "find_open_end" 370 371 372 70 2 3 152 181 153 154 155 156 377 70 378),
 (158,kF "find_open_end" 25 "notejar.names" 296 157),
 (164,kD "find_own_end" 380 381 382 79 2 3 159 181 160 161 162 163 388 79 389),
 (165,kF "find_own_end" 26 "notejar.names" 296 164),
 (171,kD "is_path" 397 398 399 89 1 3 166 181 167 168 169 170 401 89 402),
 (172,kF "is_path" 30 "notejar.paths" 391 171),
 (178,kD "lies_under" 404 405 406 91 2 3 173 181 174 175 176 177 409 91 410),
 (179,kF "lies_under" 31 "notejar.paths" 391 178),
 (185,kD "is_moment" 426 427 428 104 1 3 180 181 181 182 183 184 430 104 431),
 (186,kF "is_moment" 39 "notejar.asks" 412 185),
 (192,kD "is_moment_or_none" 433 434 435 106 1 3 187 181 188 189 190 191 437 106 438),
 (193,kF "is_moment_or_none" 40 "notejar.asks" 412 192),
 (199,kD "need_moment" 440 441 442 108 1 3 194 181 195 196 197 198 444 108 445),
 (200,kF "need_moment" 41 "notejar.asks" 412 199),
 (206,kD "is_ask" 447 448 449 111 1 3 201 181 202 203 204 205 451 111 452),
 (207,kF "is_ask" 42 "notejar.asks" 412 206),
 (213,kD "need_ask" 454 455 456 115 1 3 208 181 209 210 211 212 458 115 459),
 (214,kF "need_ask" 43 "notejar.asks" 412 213),
 (220,kD "comes_from_near" 461 462 463 118 2 3 215 181 216 217 218 219 469 118 470),
 (221,kF "comes_from_near" 44 "notejar.asks" 412 220),
 (227,kD "is_note_name" 482 483 484 130 1 3 222 181 223 224 225 226 486 130 487),
 (228,kF "is_note_name" 50 "notejar.giving" 472 227),
 (232,kC "is_worth" 489 490 491 132 1 3 229 181 230 231 492 132 493),
 (233,kF "is_worth" 51 "notejar.giving" 472 232),
 (239,kD "is_reach" 495 496 497 136 1 3 234 181 235 236 237 238 499 136 500),
 (240,kF "is_reach" 52 "notejar.giving" 472 239)]
noncomputable def KKl (P:JJ):Frag:=[(246,kD "is_note" 526 527 528 150 1 3 241 181 242 243 244 245 530 150 531),
 (247,kF "is_note" 65 "notejar.notes" 502 246),
 (253,kD "key" 533 534 535 156 1 3 248 181 249 250 251 252 537 156 538),
 (254,kF "key" 66 "notejar.notes" 502 253),
 (260,kD "has_ended" 540 541 542 158 2 3 255 181 256 257 258 259 545 158 546),
 (261,kF "has_ended" 67 "notejar.notes" 502 260),
 (267,kD "is_for" 548 549 550 160 2 3 262 181 263 264 265 266 553 160 554),
 (268,kF "is_for" 68 "notejar.notes" 502 267),
 (274,kD "goes" 556 557 558 164 4 3 269 181 270 271 272 273 563 164 564),
 (275,kF "goes" 69 "notejar.notes" 502 274),
 (279,kC "is_jar" 570 571 572 174 1 3 276 181 277 278 573 174 574),
 (280,kF "is_jar" 72 "notejar.jars" 566 279),
 (284,kC "is_by_made" 576 577 578 180 1 3 281 181 282 283 579 180 580),
 (285,kF "is_by_made" 73 "notejar.jars" 566 284),
 (289,kC "has_no_key_twice" 582 583 584 182 1 3 286 181 287 288 585 182 586),
 (290,kF "has_no_key_twice" 74 "notejar.jars" 566 289),
 (296,kD "need_jar" 588 589 590 185 1 3 291 181 292 293 294 295 592 185 593),
 (297,kF "need_jar" 75 "notejar.jars" 566 296),
 (303,kD "swept" 595 596 597 188 2 3 298 181 299 300 301 302 600 188 601),
 (304,kF "swept" 76 "notejar.jars" 566 303),
 (308,kC "without_ended" 603 604 605 192 2 3 305 181 306 307 606 192 607),
 (309,kF "without_ended" 77 "notejar.jars" 566 308),
 (315,kD "need_sending" 609 610 611 194 4 3 310 181 311 312 313 314 616 194 617),
 (316,kF "need_sending" 78 "notejar.jars" 566 315),
 (320,kC "sent" 619 620 621 199 4 3 317 181 318 319 622 199 623),
 (321,kF "sent" 79 "notejar.jars" 566 320),
 (327,kD "group_of" 627 628 629 204 2 3 322 181 323 324 325 326 633 204 634),
 (328,kF "group_of" 81 "notejar.room" 625 327),
 (332,kC "groups" 636 637 638 209 2 3 329 181 330 331 639 209 640),
 (333,kF "groups" 82 "notejar.room" 625 332),
 (337,kC "by_group" 646 647 648 216 2 3 334 181 335 336 649 216 650),
 (338,kF "by_group" 85 "notejar.looking" 642 337),
 (342,kC "keys_of_group" 652 653 654 218 3 3 339 181 340 341 655 218 656),
 (343,kF "keys_of_group" 86 "notejar.looking" 642 342),
 (347,kC "ending" 658 659 660 220 3 3 344 181 345 346 661 220 662),
 (348,kF "ending" 87 "notejar.looking" 642 347),
 (352,kC "is_list_of_asks" 664 665 666 225 1 3 349 181 350 351 667 225 668),
 (353,kF "is_list_of_asks" 88 "notejar.looking" 642 352),
 (357,kC "along" 670 671 672 229 4 3 354 181 355 356 673 229 674),
 (358,kF "along" 89 "notejar.looking" 642 357),
 (362,kC "asks_of" 676 677 678 236 4 3 359 181 360 361 679 236 680),
 (363,kF "asks_of" 90 "notejar.looking" 642 362),
 (369,kD "_law_cell" 684 685 686 239 2 3 364 181 365 366 367 368 689 239 690),
 (370,kF "_law_cell" 92 "law_notejar_k34_whole_looking" 682 369),
 (376,kD "_law_drawn" 692 693 694 243 3 3 371 181 372 373 374 375 699 243 700),
 (377,kF "_law_drawn" 93 "law_notejar_k34_whole_looking" 682 376),
 (383,kD "_law_name" 702 703 704 247 2 3 378 181 379 380 381 382 708 247 709),
 (384,kF "_law_name" 94 "law_notejar_k34_whole_looking" 682 383),
 (388,kC "_law_table" 711 712 713 251 2 3 385 181 386 387 714 251 715),
 (389,kF "_law_table" 95 "law_notejar_k34_whole_looking" 682 388),
 (395,kD "_law_path" 717 718 719 254 2 3 390 181 391 392 393 394 723 254 724),
 (396,kF "_law_path" 96 "law_notejar_k34_whole_looking" 682 395),
 (402,kD "_law_ask" 726 727 728 257 2 3 397 181 398 399 400 401 732 257 733),
 (403,kF "_law_ask" 97 "law_notejar_k34_whole_looking" 682 402),
 (407,kC "_law_jar" 735 736 737 260 3 3 404 181 405 406 738 260 739),
 (408,kF "_law_jar" 98 "law_notejar_k34_whole_looking" 682 407),
 (414,kD "_law_key" 741 742 743 278 1 3 409 181 410 411 412 413 745 278 746),
 (415,kF "_law_key" 99 "law_notejar_k34_whole_looking" 682 414),
 (419,kC "_law_go_along" 748 749 750 280 5 3 416 181 417 418 751 280 752),
 (420,kF "_law_go_along" 100 "law_notejar_k34_whole_looking" 682 419),
 (424,kC "law" 754 755 756 295 1 3 421 181 422 423 757 295 758),
 (425,kF "law" 101 "law_notejar_k34_whole_looking" 682 424),
 (4,IX (r_ "module") (some builtinsNs) Data.plain #[])]
noncomputable def KKb (P:JJ):Frag:=KKl P ++ [(318,{ cls:=.none,data:=.fields #[] })]
noncomputable def KK (P:JJ):Frag:=KKa P ++ KKb P
noncomputable def KAa:List Addr:=[2,3,23,24,36,37,48,49,60,61,72,73,79,80,86,87,93,94,100,101,105,106,112,113,117,118,124,125,131,132,136,137,143,144,150,151,157,158,164,165,171,172,178,179,185,186,192,193,199,200,206,207,213,214,220,221,227,228,232,233,239,240]
noncomputable def KAb:List Addr:=[246,247,253,254,260,261,267,268,274,275,279,280,284,285,289,290,296,297,303,304,308,309,315,316,320,321,327,328,332,333,337,338,342,343,347,348,352,353,357,358,362,363,369,370,376,377,383,384,388,389,395,396,402,403,407,408,414,415,419,420,424,425,4,318]
noncomputable def KA:List Addr:=KAa ++ KAb
noncomputable def KL (P:JJ):Frag:=KKa P ++ KKl P
theorem KL_in {P:JJ} {h:Heap} (X:(KK P).In h):(KL P).In h:=fun b o e=>X b o (by
 show List.lookup b (KKa P ++ (KKl P ++ _))=some o
 rw [← Iy,Ho,show List.lookup b (KKa P ++ KKl P)=some o from e]
 rfl)
theorem KT_in {P:JJ} {h:Heap} (X:(KK P).In h):h.get? 318=some { cls:=.none,data:=.fields #[] }:=X 318 _ (by kernel_rfl)
theorem KA_ok (P:JJ):KA=(KK P).map (·.1):=by kernel_rfl
noncomputable def VQ:Program:=view PySem.Challenge.pw_notejar_k34_whole_looking [101]
theorem hbr:PySem.Challenge.rw_notejar_k34_whole_looking.row.prog.bare:=⟨rfl,rfl,rfl,rfl,rfl,by decide +kernel⟩
set_option maxRecDepth 100000 in
theorem hld (h:PySem.Challenge.rw_notejar_k34_whole_looking.row.wellSaid=true→PySem.Challenge.rw_notejar_k34_whole_looking.row.Holds):PySem.Challenge.rw_notejar_k34_whole_looking.Holds:=by
 w_on; o_law
 exact h (by assumption)
noncomputable def VL:List Str:=[a_ "JarError",a_ "NoTable",a_ "NoAsk",a_ "NoJar",a_ "NoNumber",a_ "is_text_of",a_ "is_whole_number",a_ "is_tuple_of",a_ "FIGURES",a_ "LABEL_SIGNS",a_ "LONGEST_LABEL",a_ "MOST_LABELS",a_ "MOST_RULES",a_ "is_label",a_ "is_name",a_ "is_rule",a_ "is_table",a_ "need_table",a_ "lies_within",a_ "ends_longest_first",a_ "behind_first_dot",a_ "is_told_open",a_ "find_open_end",a_ "find_own_end",a_ "PATH_SIGNS",a_ "LONGEST_PATH",a_ "is_path",a_ "lies_under",a_ "LAST_MOMENT",a_ "ASK_SAFE",a_ "ASK_HOUSE",a_ "ASK_PATH",a_ "ASK_ORIGIN",a_ "ASK_PARTS",a_ "is_moment",a_ "is_moment_or_none",a_ "need_moment",a_ "is_ask",a_ "need_ask",a_ "comes_from_near",a_ "NOTE_NAME_SIGNS",a_ "LONGEST_NOTE_NAME",a_ "NO_WORTH_SIGNS",a_ "LONGEST_WORTH",a_ "is_note_name",a_ "is_worth",a_ "is_reach",a_ "NOTE_NAME",a_ "NOTE_WORTH",a_ "NOTE_HOUSE",a_ "NOTE_EXACT",a_ "NOTE_PATH",a_ "NOTE_ENDS",a_ "NOTE_SAFE",a_ "NOTE_REACH",a_ "NOTE_MADE",a_ "NOTE_USED",a_ "NOTE_PARTS",a_ "is_note",a_ "key",a_ "has_ended",a_ "is_for",a_ "goes",a_ "MOST_NOTES",a_ "is_jar",a_ "is_by_made",a_ "has_no_key_twice",a_ "need_jar",a_ "swept",a_ "without_ended",a_ "need_sending",a_ "sent",a_ "group_of",a_ "groups",a_ "MOST_ASKS",a_ "by_group",a_ "keys_of_group",a_ "ending",a_ "is_list_of_asks",a_ "along",a_ "asks_of",a_ "_law_cell",a_ "_law_drawn",a_ "_law_name",a_ "_law_table",a_ "_law_path",a_ "_law_ask",a_ "_law_jar",a_ "_law_key",a_ "_law_go_along"]
theorem Ex {α β γ:Type} {o:Option α} {f:α→β} {g:α→γ} {a:β} {b:γ} (h1:o.map f=some a) (h2:o.map g=some b):o.map (fun s=>(f s,g s))=some (a,b):=by
 cases o with
 | none=>cases h1
 | some x=>cases h1; cases h2; rfl
set_option maxRecDepth 100000 in
theorem B5 (w:uk):(TR.openQ L1 PySem.Challenge.pw_notejar_k34_whole_looking w 6138).map (openSeen VQ VL (Lp PySem.Challenge.pw_notejar_k34_whole_looking.main.body) (fun s=>recOk [] s) true)=some (openGood VQ VL):=by kernel_rfl
set_option maxRecDepth 100000 in
theorem yE (w:uk):(TR.openQ L1 PySem.Challenge.pw_notejar_k34_whole_looking w 6138).map (fun s=>KAa.map s.heap.get?)=some ((KKa w.params).map fun p=>some p.2):=by kernel_rfl
set_option maxRecDepth 100000 in
theorem yF (w:uk):(TR.openQ L1 PySem.Challenge.pw_notejar_k34_whole_looking w 6138).map (fun s=>KAb.map s.heap.get?)=some ((KKb w.params).map fun p=>some p.2):=by kernel_rfl
theorem tR {α β γ:Type} {o:Option α} {f:α→β→γ} {A B:List β} {X Y:List γ} (h1:o.map (fun s=>A.map (f s))=some X) (h2:o.map (fun s=>B.map (f s))=some Y):o.map (fun s=>(A ++ B).map (f s))=some (X ++ Y):=by
 cases o with
 | none=>cases h1
 | some x=>cases h1; cases h2; simp
theorem B6 (w:uk):(TR.openQ L1 PySem.Challenge.pw_notejar_k34_whole_looking w 6138).map (fun s=>KA.map s.heap.get?)=some ((KK w.params).map fun p=>some p.2):=by
 show (TR.openQ L1 PySem.Challenge.pw_notejar_k34_whole_looking w 6138).map (fun s=>(KAa ++ KAb).map s.heap.get?)=some ((KKa w.params ++ KKb w.params).map fun p=>some p.2)
 rw [G0]
 exact tR (f:=fun s:Shared=>s.heap.get?) (yE w) (yF w)
theorem left:LeftO PySem.Challenge.pw_notejar_k34_whole_looking VQ VL (fun s=>recOk [] s) (Hook.obs (ND KK KA KA_ok)) (Hook.val (ND KK KA KA_ok)) 6138:=fun w=>TR.openQ_map (Ex (B5 w) (B6 w))
end G
set_option Elab.async false
set_option linter.all false
set_option maxRecDepth 100000
namespace L2
open PySem PySem.Spec PyProof.Rows
abbrev Key:=Sum Int Str
def yG:Key→Value→Bool
 | .inl k,v=>Value.isInt k v
 | .inr x,v=>Ir x v
def Ey (w:uk):Key→Int
 | .inl k=>hashInt k
 | .inr x=>hashStr w x
theorem bc:∀ {k:Key} {v:Value},yG k v=true→(∃ i t,k=L0 i∧v=MO i t)∨(∃ x t,k=LZ x∧v=GG x t)
 | .inl i,v,h=>by
  obtain ⟨t,e⟩:=Value.isInt_shape (k:=i) (v:=v) h
  exact .inl ⟨i,t,rfl,e⟩
 | .inr x,v,h=>by
  obtain ⟨t,e⟩:=L6 (x:=x) (v:=v) h
  exact .inr ⟨x,t,rfl,e⟩
theorem yH (a b:Int):decide ((L0 a:Key)=L0 b)=(a == b):=by
 by_cases e:a=b
 · subst e; simp
 · have h:¬ (L0 a:Key)=L0 b:=fun q=>e (Sum.inl.inj q)
   rw [decide_eq_false h]
   exact (beq_eq_false_iff_ne.mpr e).symm
theorem yI (a b:Str):decide ((LZ a:Key)=LZ b)=decide (a=b):=by
 by_cases e:a=b
 · subst e; simp
 · have h:¬ (LZ a:Key)=LZ b:=fun q=>e (Sum.inr.inj q)
   rw [decide_eq_false h,decide_eq_false e]
theorem yJ (a:Int) (b:Str):decide ((L0 a:Key)=LZ b)=false:=decide_eq_false (fun q=>nomatch q)
theorem yK (a:Str) (b:Int):decide ((LZ a:Key)=L0 b)=false:=decide_eq_false (fun q=>nomatch q)
def qa (prog:Program) (w:uk):PySem.KeyKind prog w Key where
 is:=yG
 hash:=Ey w
 inj:=fun v a b ha hb=>by
  rcases bc ha with ⟨i,t,rfl,rfl⟩ | ⟨x,t,rfl,rfl⟩
  · rcases bc hb with ⟨j,u,rfl,e⟩ | ⟨y,u,rfl,e⟩
    · injection e with e1 _; rw [e1]
    · exact nomatch e
  · rcases bc hb with ⟨j,u,rfl,e⟩ | ⟨y,u,rfl,e⟩
    · exact nomatch e
    · injection e with e1 _; rw [e1]
 byValue:=fun k v h=>by
  rcases bc h with ⟨i,t,rfl,rfl⟩ | ⟨x,t,rfl,rfl⟩ <;> rfl
 pyHash:=fun hv h=>by
  rcases bc hv with ⟨i,t,rfl,rfl⟩ | ⟨x,t,rfl,rfl⟩
  · exact wpAny_pyHash_int h
  · exact wpAny_pyHash_str h
 eqBool:=fun hu hv h=>by
  rcases bc hu with ⟨i,t,rfl,rfl⟩ | ⟨x,t,rfl,rfl⟩
  · rcases bc hv with ⟨j,u,rfl,rfl⟩ | ⟨y,u,rfl,rfl⟩
    · rw [yH] at h; exact wpAny_eqBool_int h
    · rw [yJ] at h; exact Mp i t y u _ _ _ _ h
  · rcases bc hv with ⟨j,u,rfl,rfl⟩ | ⟨y,u,rfl,rfl⟩
    · rw [yK] at h; exact Mn x t j u _ _ _ _ h
    · rw [yI] at h; exact wpAny_eqBool_str h
 «strs»:=fun k x t v h=>by
  rcases bc h with ⟨i,u,rfl,e⟩ | ⟨y,u,rfl,e⟩
  · exact nomatch e
  · injection e with e1 _
    subst e1
    cases v <;> rfl
inductive V where
 | non | bl (b:Bool) | int (i:Int) | str (x:Str) | byt (b:Array UInt8) | flt (b:UInt64) | ref (a:Addr) | ty (n:String)
 deriving DecidableEq
def RelV:V→Value→Prop
 | .non,u=>u=FB
 | .bl b,u=>u=GA b
 | .int i,u=>∃ t,u=MO i t
 | .str x,u=>∃ t,u=GG x t
 | .byt b,u=>∃ t,u=Value.bytes b t
 | .flt b,u=>∃ t,u=Value.float b t
 | .ref a,u=>u=s_ a
 | .ty n,u=>u=r_ n
abbrev Vals:List V→List Value→Prop:=Paired RelV
theorem Vals.length {xs:List V} {us:List Value} (r:Vals xs us):xs.length=us.length:=Paired.length r
theorem Vals.get:∀ {xs:List V} {us:List Value} {i:Nat} {x:V},Vals xs us→xs[i]?=some x→∃ u,us[i]?=some u∧RelV x u
 | _,_,_,_,.nil,e=>by simp at e
 | _,_,0,_,.cons r _,e=>by simp at e; subst e; exact ⟨_,rfl,r⟩
 | _,_,i + 1,x,.cons _ t,e=>by
  obtain ⟨u,h1,h2⟩:=Vals.get (i:=i) (x:=x) t (by simpa using e)
  exact ⟨u,by simpa using h1,h2⟩
theorem Vals.set {x:V} {u:Value} (r:RelV x u):∀ {xs:List V} {us:List Value} (i:Nat),Vals xs us→Vals (xs.set i x) (us.set i u)
 | _,_,_,.nil=>.nil
 | _,_,0,.cons _ t=>.cons r t
 | _,_,i + 1,.cons q t=>.cons q (Vals.set r i t)
theorem Vals.append:∀ {xs ys:List V} {us ws:List Value},Vals xs us→Vals ys ws→Vals (xs ++ ys) (us ++ ws)
 | _,_,_,_,.nil,s=>s
 | _,_,_,_,.cons r t,s=>.cons r (Vals.append t s)
theorem Vals.take:∀ {xs:List V} {us:List Value} (n:Nat),Vals xs us→Vals (xs.take n) (us.take n)
 | _,_,0,_=>.nil
 | _,_,_ + 1,.nil=>.nil
 | _,_,n + 1,.cons r t=>.cons r (Vals.take n t)
theorem Vals.drop:∀ {xs:List V} {us:List Value} (n:Nat),Vals xs us→Vals (xs.drop n) (us.drop n)
 | _,_,0,r=>r
 | _,_,_ + 1,.nil=>.nil
 | _,_,n + 1,.cons _ t=>Vals.drop n t
theorem Vals.none_of:∀ {xs:List V} {us:List Value} {i:Nat},Vals xs us→xs[i]?=none→us[i]?=none:=fun {xs us i} r e=>by
 have h1:=r.length
 have h2:xs.length≤i:=Kz.mp e
 exact Kz.mpr (by omega)
def RelO:Option V→Option Value→Prop
 | some v,some u=>RelV v u
 | none,none=>True
 | _,_=>False
def KV {κ:Type}:List (κ×V)→List (κ×Value)→Prop:=Paired fun (p:κ×V) (q:κ×Value)=>p.1=q.1∧RelV p.2 q.2
def kV:Key→V
 | .inl i=>.int i
 | .inr x=>.str x
inductive HO where
 | lst (xs:List V)
 | tup (xs:List V)
 | dK (kvs:List (Key×V)) | dT (kvs:List (List Key×V))
 | set (S:Int→Bool) (n:Nat)
 | ins (C dx:Addr) (fs:List (Str×V))
 | own (x:Addr)
 | xd (fs:List (Str×V))
 | met (f x:Addr)
 | rng (lo hi:Int)
 | frz (o:Obj) (u:HO)
 | tbl (ps:Array Value)
 | ext (φ:Heap→Prop)
abbrev Hp:=Addr→Option HO
def upd (H:Hp) (a:Addr) (o:HO):Hp:=fun b=>if b=a then some o else H b
theorem am {H:Hp} {a:Addr} {o:HO}:upd H a o a=some o:=by unfold upd; rw [if_pos rfl]
theorem au {H:Hp} {a b:Addr} {o:HO} (h:b≠a):upd H a o b=H b:=by unfold upd; rw [if_neg h]
theorem v4 {H:Hp} {a:Addr} {o u:HO}:upd (upd H a o) a u=upd H a u:=by
 funext b; unfold upd; split <;> rfl
theorem ao {H:Hp} {a b:Addr} {o:HO} (h:H a=some o) (h':H b=none):a≠b:=by
 intro e; subst e; rw [h] at h'; cases h'
section
variable (P:Program) (w:uk)
def ObjOk (H:Hp) (h:Heap) (a:Addr):HO→Prop
 | .lst xs=>xs.length≤sizeLine∧∃ (its:List Value) (n:Nat),Vals xs its∧h.get? a=some { cls:=.type "list",data:=.seq its.toArray n }
 | .tup xs=>xs.length≤sizeLine∧∃ its:List Value,Vals xs its∧Ny h a its.toArray
 | .dK kvs=>kvs.length≤sizeLine∧(a == sysModules)=false∧∃ vs,KV kvs vs∧h.DictOf (qa P w) a vs
 | .dT kvs=>kvs.length≤sizeLine∧(a == sysModules)=false∧∃ xs:List (List Key×Addr×Value),
  Paired (fun (p:List Key×V) (q:List Key×Addr×Value)=>p.1=q.1∧H q.2.1=some (.tup (p.1.map kV))∧RelV p.2 q.2.2) kvs xs ∧
  ∃ o es ep,h.get? a=some o∧o.ExactDict∧o.data=.dict es ep∧es.toList=xs.map (entryOfKey (tupleKind (qa P w)))∧(xs.map (·.1)).Nodup
 | .set S n=>h.SetOf (intKind P w) a S n
 | .ins C dx fs=>H dx=some (.own a)∧fs.length≤1000∧dx≠a∧h.get? a=some (Hv C dx) ∧
  ∃ mA,h.Ns1 dx mA∧(∀ f,RelO (fs.lookup f) (mA f))∧PySem.Within mA (fs.map (·.1))
 | .own _=>∃ o,h.get? a=some o
 | .xd fs=>∃ mA,h.Ns1 a mA∧∀ f,RelO (fs.lookup f) (mA f)
 | .rng lo hi=>∃ t u v,h.get? a=some { cls:=.type "range",data:=.fields #[.int lo t,.int hi u,.int 1 v] }
 | .frz o u=>h.get? a=some o∧ObjOk H h a u
 | .tbl ps=>∃ qs:Array Value,h.get? a=some { cls:=.none,data:=.fields qs }∧MQ qs.toList∧∀ pos v,KS pos qs.toList=some v→∃ c oc vs q t t',v=.ref c∧H c=some (.frz oc (.ext fun _=>True))∧oc.data=.fields vs∧vs[1]?=some (.str q t)∧ps[0]?=some (.str q t')
 | .met f x=>h.get? a=some (KB (.ref f) (.ref x))
 | .ext φ=>φ h∧(∃ o,h.get? a=some o)∧∀ h1 h2:Heap,φ h1→(∀ o,h1.get? a=some o→h2.get? a=some o)→φ h2
def HOk (H:Hp) (h:Heap):Prop:=∀ a o,H a=some o→ObjOk P w H h a o
end
section
variable {P:Program} {w:uk} {H H':Hp} {h h':Heap} {a:Addr} {o:HO}
theorem ObjOk.lt (x:ObjOk P w H h a o):a < h.objs.size:=by
 cases o with
 | lst xs=>obtain ⟨_,_,_,_,e⟩:=x; exact m_ e
 | tup xs=>obtain ⟨_,_,_,p⟩:=x; exact p.lt
 | dK kvs=>obtain ⟨_,_,_,_,o,_,_,e,_⟩:=x; exact m_ e
 | dT kvs=>obtain ⟨_,_,_,_,o,_,_,e,_⟩:=x; exact m_ e
 | set S n=>obtain ⟨o,_,_,_,e,_⟩:=x; exact m_ e
 | ins C dx fs=>obtain ⟨_,_,_,e,_⟩:=x; exact m_ e
 | own y=>obtain ⟨_,e⟩:=x; exact m_ e
 | xd fs=>obtain ⟨_,⟨_,_,_,e,_⟩,_⟩:=x; exact m_ e
 | rng lo hi=>obtain ⟨_,_,_,e⟩:=x; exact m_ e
 | frz ob u=>obtain ⟨e,_⟩:=x; exact m_ e
 | tbl ps=>obtain ⟨_,e,_⟩:=x; exact m_ e
 | met f y=>exact m_ (show h.get? a=some _ from x)
 | ext φ=>obtain ⟨_,⟨_,e⟩,_⟩:=x; exact m_ e
theorem Paired.mapP {α β:Type} {F G:α→β→Prop}:∀ {l₁:List α} {l₂:List β},Paired F l₁ l₂→(∀ a b,F a b→G a b)→Paired G l₁ l₂
 | _,_,.nil,_=>.nil
 | _,_,.cons r t,f=>.cons (f _ _ r) (Paired.mapP t f)
theorem ObjOk.stay (x:ObjOk P w H h a o) (k:∀ b u,(b=a∨H b=some (.own a))→h.get? b=some u→h'.get? b=some u)
 (ho:∀ b,H b=some (.own a)→H' b=some (.own a)) (ht:∀ b xs,H b=some (.tup xs)→H' b=some (.tup xs))
 (hf:∀ b o u,H b=some (.frz o u)→H' b=some (.frz o u):=by first | exact fun _ _ _ q=>q | (intro c _ _ q; rw [au (ao q (by assumption))]; exact q)):ObjOk P w H' h' a o:=by
 induction o with
 | lst xs=>obtain ⟨z,its,n,r,e⟩:=x; exact ⟨z,its,n,r,k _ _ (.inl rfl) e⟩
 | tup xs=>obtain ⟨z,its,r,ob,e,c⟩:=x; exact ⟨z,its,r,ob,k _ _ (.inl rfl) e,c⟩
 | dK kvs=>obtain ⟨z,y,vs,r,ob,es,ep,e,c⟩:=x; exact ⟨z,y,vs,r,ob,es,ep,k _ _ (.inl rfl) e,c⟩
 | dT kvs =>
  obtain ⟨z,y,xs,r,ob,es,ep,e,c⟩:=x
  exact ⟨z,y,xs,Paired.mapP r fun p q z=>⟨z.1,ht _ _ z.2.1,z.2.2⟩,ob,es,ep,k _ _ (.inl rfl) e,c⟩
 | set S n=>obtain ⟨ob,es,ep,t,e,c⟩:=x; exact ⟨ob,es,ep,t,k _ _ (.inl rfl) e,c⟩
 | ins C dx fs =>
  obtain ⟨d,z,ne,e,mA,⟨od,es,ep,e2,c⟩,r⟩:=x
  exact ⟨ho _ d,z,ne,k _ _ (.inl rfl) e,mA,⟨od,es,ep,k _ _ (.inr d) e2,c⟩,r⟩
 | own y=>obtain ⟨ob,e⟩:=x; exact ⟨ob,k _ _ (.inl rfl) e⟩
 | xd fs=>obtain ⟨mA,⟨od,es,ep,e,c⟩,r⟩:=x; exact ⟨mA,⟨od,es,ep,k _ _ (.inl rfl) e,c⟩,r⟩
 | rng lo hi=>obtain ⟨t,u,v,e⟩:=x; exact ⟨t,u,v,k _ _ (.inl rfl) e⟩
 | frz ob u ih=>obtain ⟨e,q⟩:=x; exact ⟨k _ _ (.inl rfl) e,ih q⟩
 | tbl ps =>
  obtain ⟨qs,e,tr,ch⟩:=x
  exact ⟨qs,k a _ (.inl rfl) e,tr,fun pos v hv=>let ⟨c,oc,vs,q,t,t',e1,e2,r⟩:=ch pos v hv; ⟨c,oc,vs,q,t,t',e1,hf _ _ _ e2,r⟩⟩
 | met f y =>
  have e:h.get? a=some (KB (.ref f) (.ref y)):=x
  show h'.get? a=some (KB (.ref f) (.ref y))
  exact k a _ (.inl rfl) e
 | ext φ=>obtain ⟨p,⟨o,e⟩,st⟩:=x; exact ⟨st _ _ p fun o q=>k _ _ (.inl rfl) q,⟨o,k _ _ (.inl rfl) e⟩,st⟩
theorem HOk.lt (x:HOk P w H h) (e:H a=some o):a < h.objs.size:=(x a o e).lt
theorem HOk.fresh (x:HOk P w H h) (e:h.objs.size≤a):H a=none:=by
 cases q:H a with
 | none=>rfl
 | some u=>exact absurd (x_ (x.lt q) e) (Gy _)
theorem HOk.kept (x:HOk P w H h) (k:∀ b u,h.get? b=some u→h'.get? b=some u):HOk P w H h':=fun a o e =>
 (x a o e).stay (fun b u _ q=>k b u q) (fun _ q=>q) fun _ _ q=>q
theorem HOk.laid (x:HOk P w H h) (k:∀ b u,h.get? b=some u→h'.get? b=some u) (hp:h.objs.size≤a) (new:ObjOk P w (upd H a o) h' a o):HOk P w (upd H a o) h':=fun b u e=>by
 have hn:=x.fresh hp
 by_cases hb:b=a
 · subst hb; rw [am] at e; cases e; exact new
 · rw [au hb] at e
   exact (x b u e).stay (fun c v _ q=>k c v q) (fun c q=>by rw [au (ao q hn)]; exact q) fun c xs q=>by rw [au (ao q hn)]; exact q
end
def Rd (H:Hp) (a:Addr) (u:HO):Prop:=H a=some u∨∃ o,H a=some (.frz o u)
theorem Rd.of {H:Hp} {a:Addr} {u:HO} (h:H a=some u):Rd H a u:=.inl h
theorem Rd.ok {P:Program} {w:uk} {H:Hp} {h:Heap} {a:Addr} {u:HO} (r:Rd H a u) (x:HOk P w H h):ObjOk P w H h a u:=by
 rcases r with r | ⟨o,r⟩
 · exact x a u r
 · obtain ⟨_,q⟩:=x a _ r
   exact q
def Mut:Option HO→Prop
 | some (.lst _)=>True
 | some (.dK _)=>True
 | some (.dT _)=>True
 | some (.set _ _)=>True
 | some (.ins _ _ _)=>True
 | some (.ext _)=>True
 | _=>False
section
variable {P:Program} {w:uk} {H:Hp} {h h':Heap} {x e:Addr} {o':HO}
theorem HOk.write (ok:HOk P w H h) (mu:Mut (H x)) (he:e=x∨H e=some (.own x)) (k:∀ b u,b≠e→h.get? b=some u→h'.get? b=some u) (heo:∃ u,h'.get? e=some u)
 (new:ObjOk P w (upd H x o') h' x o'):HOk P w (upd H x o') h':=fun b u q=>by
 have nown:∀ c y,H c=some (.own y)→c≠x:=fun c y r z=>by subst z; rw [r] at mu; exact mu
 have ntup:∀ c xs,H c=some (.tup xs)→c≠x:=fun c xs r z=>by subst z; rw [r] at mu; exact mu
 by_cases hb:b=x
 · subst hb; rw [am] at q; cases q; exact new
 · rw [au hb] at q
   by_cases hbe:b=e
   · have q':H b=some (.own x):=by
      rcases he with z | z
      · exact absurd (hbe.trans z) hb
      · rw [hbe]; exact z
     rw [q] at q'; cases q'
     obtain ⟨v,hv⟩:=heo
     exact ⟨v,by rw [hbe]; exact hv⟩
   · refine (ok b u q).stay (fun c v hc r=>k c v ?_ r) (fun c r=>by rw [au (nown c b r)]; exact r) (fun c xs r=>by rw [au (ntup c xs r)]; exact r) fun c _ _ r=>by rw [au (fun z=>by subst z; rw [r] at mu; exact mu)]; exact r
     rcases hc with rfl | hc
     · exact hbe
     · rintro rfl
       rcases he with z | z
       · exact nown c b hc z
       · rw [hc] at z; cases z; exact hb rfl
end
structure Un (fs ex:List Addr) (H H':Hp) (h h':Heap):Prop where
 keep:∀ b o,h.get? b=some o→H b=none→b ∉ fs→b ∉ ex→h'.get? b=some o
 slot:∀ b o,h.get? b=some o→H b=none→b∈fs→b ∉ ex→∃ sl,h'.get? b=some { o with slots:=sl }
 free:∀ b o,h.get? b=some o→H b=none→b ∉ ex→H' b=none
 there:∀ b o,h.get? b=some o→b ∉ ex→∃ o',h'.get? b=some o'
 tups:∀ b xs,H b=some (.tup xs)→H' b=some (.tup xs)
 frzs:∀ b o u,H b=some (.frz o u)→H' b=some (.frz o u)
 tbls:∀ b ps,H b=some (.tbl ps)→∃ more,H' b=some (.tbl (ps ++ more))
section
variable {fs fs' ex ex':List Addr} {H H1 H2:Hp} {h h1 h2 h':Heap} {a x e:Addr} {o:HO}
theorem Un.any (u:Un fs ex H H1 h h1) {b:Addr} {ob:Obj} (q:h.get? b=some ob) (n:H b=none) (hx:b ∉ ex):∃ sl,h1.get? b=some { ob with slots:=sl }:=by
 by_cases hb:b∈fs
 · exact u.slot b ob q n hb hx
 · exact ⟨ob.slots,u.keep b ob q n hb hx⟩
theorem Un.trans (a:Un fs ex H H1 h h1) (b:Un fs ex H1 H2 h1 h2):Un fs ex H H2 h h2 where
 keep:=fun c ob q n hc hx=>b.keep c ob (a.keep c ob q n hc hx) (a.free c ob q n hx) hc hx
 slot:=fun c ob q n hc hx=>by
  obtain ⟨sl,e1⟩:=a.slot c ob q n hc hx
  obtain ⟨sl',e2⟩:=b.slot c _ e1 (a.free c ob q n hx) hc hx
  exact ⟨sl',e2⟩
 free:=fun c ob q n hx=>by
  obtain ⟨o',e1⟩:=a.there c ob q hx
  exact b.free c o' e1 (a.free c ob q n hx) hx
 there:=fun c ob q hx=>by
  obtain ⟨o',e1⟩:=a.there c ob q hx
  exact b.there c o' e1 hx
 tups:=fun c xs q=>b.tups c xs (a.tups c xs q)
 frzs:=fun c ob xs q=>b.frzs c ob xs (a.frzs c ob xs q)
 tbls:=fun c ps q=>by
  obtain ⟨m1,e1⟩:=a.tbls c ps q
  obtain ⟨m2,e2⟩:=b.tbls c _ e1
  exact ⟨m1 ++ m2,by rw [e2,Mt]⟩
theorem Un.kept (k:∀ b u,h.get? b=some u→h'.get? b=some u):Un fs ex H H h h' :=
 ⟨fun b ob q _ _ _=>k b ob q,fun b ob q _ _ _=>⟨ob.slots,k b ob q⟩,fun _ _ _ n _=>n,fun b ob q _=>⟨ob,k b ob q⟩,fun _ _ q=>q,fun _ _ _ q=>q,fun _ ps q=>⟨#[],by rw [q]; simp⟩⟩
theorem Un.refl:Un fs ex H H h h:=Un.kept fun _ _ q=>q
theorem Un.laid (k:∀ b u,h.get? b=some u→h'.get? b=some u) (hp:h.objs.size≤a) (hn:H a=none):Un fs ex H (upd H a o) h h' where
 keep:=fun b u q _ _ _=>k b u q
 slot:=fun b u q _ _ _=>⟨u.slots,k b u q⟩
 free:=fun b u q n _=>by rw [au (n_ (x_ (m_ q) hp))]; exact n
 there:=fun b u q _=>⟨u,k b u q⟩
 tups:=fun b xs q=>by rw [au (ao q hn)]; exact q
 frzs:=fun b u xs q=>by rw [au (ao q hn)]; exact q
 tbls:=fun b ps q=>⟨#[],by rw [au (ao q hn),q]; simp⟩
theorem Un.write (mu:Mut (H x)) (he:e=x∨H e=some (.own x)) (k:∀ b u,b≠e→h.get? b=some u→h'.get? b=some u) (heo:∃ u,h'.get? e=some u):Un fs ex H (upd H x o) h h':=by
 have hx:∀ b,H b=none→b≠x:=fun b n z=>by subst z; rw [n] at mu; exact mu
 have hb:∀ b,H b=none→b≠e:=fun b n z=>by
  subst z
  rcases he with r | r
  · exact hx b n r
  · rw [n] at r; cases r
 have hm:∀ b u,H b=some u→¬ Mut (some u)→b≠x:=fun b u q nm z=>by subst z; rw [q] at mu; exact nm mu
 refine ⟨fun b u q n _ _=>k b u (hb b n) q,fun b u q n _ _=>⟨u.slots,k b u (hb b n) q⟩,fun b u q n _=>by rw [au (hx b n)]; exact n,fun b u q _=>?_,
  fun b xs q=>by rw [au (hm b _ q fun z=>z)]; exact q,fun b u xs q=>by rw [au (hm b _ q fun z=>z)]; exact q,fun b ps q=>⟨#[],by rw [au (hm b _ q fun z=>z),q]; simp⟩⟩
 by_cases hbe:b=e
 · subst hbe; exact heo
 · exact ⟨u,k b u hbe q⟩
theorem Un.mono (u:Un fs ex H H1 h h1) (hs:∀ b∈fs,b∈fs') (hx:∀ b∈ex,b∈ex'):Un fs' ex' H H1 h h1 :=
 ⟨fun b ob q n hb he=>u.keep b ob q n (fun z=>hb (hs b z)) fun z=>he (hx b z),fun _ _ q n _ he=>u.any q n fun z=>he (hx _ z),fun b ob q n he=>u.free b ob q n fun z=>he (hx b z),fun b ob q he=>u.there b ob q fun z=>he (hx b z),u.tups,u.frzs,u.tbls⟩
end
def trk (h:Heap) (H:Hp):List Addr:=(f_ h.objs.size).filter fun a=>(H a).isSome
def nO (h:Heap) (H:Hp):Heap:=PySem.W.hideAll h (trk h H)
theorem kN (h:Heap) (H:Hp):(nO h H).objs.size=h.objs.size:=PySem.W.hideAll_size _ _
theorem nQ {h:Heap} {H:Hp} {b:Addr} {o:Obj} (e:h.get? b=some o) (n:H b=none):(nO h H).get? b=some o :=
 PySem.W.hideAll_get _ e fun hm=>by
  have q:(H b).isSome=true:=(FX.mp hm).2
  rw [n] at q; simp at q
theorem qb {h:Heap} {H:Hp} {b:Addr} {o:Obj} (e:(nO h H).get? b=some o):h.get? b=some o∧H b=none:=by
 have e':h.get? b=some o:=PySem.W.of_hideAll (trk h H) e
 refine ⟨e',?_⟩
 cases q:H b with
 | none=>rfl
 | some x =>
  have hm:b∈trk h H:=FX.mpr ⟨Gw.mpr (m_ e'),by simp [q]⟩
  have z:(nO h H).get? b=none:=PySem.W.hideAll_none (trk h H) hm
  rw [z] at e; cases e
def v6 (g h:Heap) (L:Addr):List (Addr×Obj):=(f_ h.objs.size).filterMap fun a=>if a=L∨(g.get? a).isSome=true then none else (h.get? a).map fun o=>(a,o)
def cz (g h:Heap) (L d:Addr):List (Addr×Obj):=(v6 g h L).filter fun p=>decide (p.1≠d)
structure Mod (K:ck) (mg:Str→Option Value) (base:Heap):Prop where
 kin:K.In base
 glob:base.Ns t_ mg
 blt:∃ mb,base.Ns builtinsNs mb∧∀ x:Str,x≠"__name__"→mb x=GF x
 nolimit:base.NoLimit
structure Cx where
 prog:Program
 w:uk
 K:ck
 mg:Str→Option Value
 base:Heap
 A:q_
 N:List Str
 s₀:Shared
 H₀:Hp
 env:Env
 outer:List Env
 stack:List Env
 ex:List Addr
 fn:Str→Bool
 calm:Bool
 pn:List (Addr×Obj)
 xe:Value→Shared→Prop
def frs (l:List Env):List Addr:=l.filterMap (·.frame)
abbrev Cx.fs (X:Cx):List Addr:=frs X.outer
def Vis (sc:Scope) (x:Str):Prop:=sc.names.lookup x=some .local∨sc.names.lookup x=some .cell∨sc.names.lookup x=some .free
def Loc (sc:Scope) (x:Str):Prop:=sc.names.lookup x=some .local∨sc.names.lookup x=some .cell
def Ez (env:Env) (h:Heap) (m:Str→Option Value) (x:Str) (u:Value):Prop :=
 (env.kindOf x=some .local∧m x=some u)∨((env.kindOf x=some .cell∨env.kindOf x=some .free)∧∃ c,env.cells.lookup x=some c∧h.IsCell c (some u))
structure Cx.Ok (X:Cx):Prop where
 mod:Mod X.K X.mg X.base
 kind:X.env.scope.kind=.function
 glob:X.env.globals=t_
 blt:X.env.builtins=builtinsNs
 above:X.s₀.heap.objs.size≤X.env.locals
 inj:∀ x y c,X.env.cells.lookup x=some c→X.env.cells.lookup y=some c→x=y
 has:∀ x,(X.env.kindOf x=some .cell∨X.env.kindOf x=some .free)→∃ c,X.env.cells.lookup x=some c
 cab:∀ x c,X.fn x=true→X.env.cells.lookup x=some c→X.s₀.heap.objs.size≤c
 hd:X.calm=true→X.A.handled=none
 frames:X.A.frames=some X.stack
 stk:X.stack=X.outer∨(X.stack=X.env :: X.outer∧X.env.frame=some X.env.locals)
 exf:∀ b∈X.ex,b≠X.env.locals∧∀ x c,X.env.cells.lookup x=some c→c≠b
 bs:∀ b o,X.base.get? b=some o→X.s₀.heap.get? b=some o∧X.H₀ b=none
 bsz:X.base.objs.size≤X.s₀.heap.objs.size
 noex:∀ b o,X.base.get? b=some o→b ∉ X.ex
 exfs:∀ b∈X.ex,b ∉ X.fs
 funs:X.s₀.heap.FunFrames X.base X.outer
 frf:∀ b∈X.fs,X.H₀ b=none
structure Inv (X:Cx) (pins:List (Addr×Obj)) (σ:List (Option V)) (H:Hp) (s:Shared):Prop where
 ok:X.Ok
 os:s.os=X.s₀.os
 bare:Ju s.gens
 base:Un X.fs X.ex X.H₀ H X.s₀.heap s.heap
 loc:∃ m,s.heap.Ns X.env.locals m∧∀ (i:Nat) (x:Str) (v:V),X.N[i]?=some x→σ[i]?=some (some v)→Vis X.env.scope x→∃ u,RelV v u∧Ez X.env s.heap m x u
 cell:∀ x c,X.env.cells.lookup x=some c→∃ v,s.heap.IsCell c v
 free:H X.env.locals=none
 freeC:∀ x c,X.env.cells.lookup x=some c→H c=none
 pin:∀ p∈X.pn ++ pins,s.heap.get? p.1=some p.2∧H p.1=none∧p.1≠X.env.locals∧p.1 ∉ X.fs∧∀ v,p.2.data≠.cell v
 hok:HOk X.prog X.w H s.heap
 len:σ.length=X.N.length
section
variable {X:Cx} {pins:List (Addr×Obj)} {σ:List (Option V)} {H H':Hp} {s:Shared} {h':Heap}
theorem Cx.Ok.nofr (ok:X.Ok) {b:Addr} {o:Obj} (e:X.base.get? b=some o):b ∉ X.fs:=fun hb=>by
 have:=(ok.funs.mem hb).1
 rw [e] at this; cases this
theorem Inv.bs (I:Inv X pins σ H s):∀ b o,X.base.get? b=some o→s.heap.get? b=some o∧H b=none:=fun b o e =>
 ⟨I.base.keep b o (I.ok.bs b o e).1 (I.ok.bs b o e).2 (I.ok.nofr e) (I.ok.noex b o e),I.base.free b o (I.ok.bs b o e).1 (I.ok.bs b o e).2 (I.ok.noex b o e)⟩
theorem Inv.bk (I:Inv X pins σ H s):∀ b o,X.base.get? b=some o→s.heap.get? b=some o:=fun b o e=>(I.bs b o e).1
theorem Inv.mod (I:Inv X pins σ H s):Mod X.K X.mg X.base:=I.ok.mod
theorem Inv.kIn (I:Inv X pins σ H s):X.K.In s.heap:=I.ok.mod.kin.keeps I.bk
theorem Inv.nolimit (I:Inv X pins σ H s):s.heap.NoLimit:=I.ok.mod.nolimit.keeps I.bk
theorem Inv.fr (I:Inv X pins σ H s):∃ m,Fr X.base X.env.locals s.heap m :=
 let ⟨m,hn,_⟩:=I.loc
 ⟨m,hn,I.bk,FH I.ok.bsz I.ok.above⟩
theorem Inv.lt (I:Inv X pins σ H s):X.env.locals < s.heap.objs.size:=let ⟨_,hn,_⟩:=I.loc; hn.lt
theorem Inv.sz (I:Inv X pins σ H s):X.s₀.heap.objs.size≤s.heap.objs.size:=FH I.ok.above (Hd I.lt)
theorem Inv.nofs (I:Inv X pins σ H s) {a:Addr} (h:s.heap.objs.size≤a):a ∉ X.fs:=fun hb=>by
 obtain ⟨_,o,ho,_⟩:=I.ok.funs.mem hb
 exact absurd (x_ (m_ ho) (FH I.sz h)) (Gy _)
theorem Inv.cne (I:Inv X pins σ H s):∀ x c,X.env.cells.lookup x=some c→c≠X.env.locals:=fun x c e z=>by
 obtain ⟨v,o,ho,hd⟩:=I.cell x c e
 obtain ⟨m,⟨o',es,ep,ho',hd',_⟩,_⟩:=I.loc
 rw [z,ho'] at ho; cases ho; rw [hd'] at hd; cases hd
theorem Inv.funs (I:Inv X pins σ H s):s.heap.FunFrames X.base X.outer:=by
 have all:∀ (l:List Env),(∀ b∈frs l,b∈X.fs)→X.s₀.heap.FunFrames X.base l→s.heap.FunFrames X.base l:=by
  intro l
  induction l with
  | nil=>intro _ _; trivial
  | cons env r ih =>
   intro hs hl
   obtain ⟨hk,⟨L,o,hf,hn,ho,hd⟩,hr⟩:=hl
   have hL:L∈X.fs:=hs L (by unfold frs; rw [IJ,hf]; exact g_)
   obtain ⟨sl,e⟩:=I.base.slot L o ho (I.ok.frf L hL) hL fun z=>I.ok.exfs L z hL
   exact ⟨hk,⟨L,_,hf,hn,e,hd⟩,ih (fun b hb=>hs b (by unfold frs; rw [IJ,hf]; exact ge _ hb)) hr⟩
 exact all X.outer (fun _ hb=>hb) I.ok.funs
theorem Inv.stack (I:Inv X pins σ H s):s.heap.FunFrames X.base X.stack:=by
 rcases I.ok.stk with e | ⟨e,hf⟩
 · rw [e]; exact I.funs
 · rw [e]
   obtain ⟨m,hn,_⟩:=I.loc
   refine .cons (by rw [I.ok.kind]; decide) hf hn ?_ I.funs
   exact JU (FH I.ok.bsz I.ok.above)
theorem Inv.stkSub (I:Inv X pins σ H s):∀ b∈frs X.stack,b∈X.env.locals :: X.fs:=fun b hb=>by
 rcases I.ok.stk with e | ⟨e,hf⟩
 · rw [e] at hb; exact ge _ hb
 · rw [e] at hb
   unfold frs at hb
   rw [IJ,hf] at hb
   exact hb
theorem Inv.stkFree (I:Inv X pins σ H s):∀ b∈frs X.stack,H b=none:=fun b hb=>by
 rcases p_.mp (I.stkSub b hb) with e | hb
 · rw [e]; exact I.free
 · obtain ⟨_,o,ho,_⟩:=I.ok.funs.mem hb
   exact I.base.free b o ho (I.ok.frf b hb) fun z=>I.ok.exfs b z hb
theorem Inv.step {g':Array Kp} {t':Nat} {d':NE} {ch:List Addr} (I:Inv X pins σ H s)
 (hch:∀ b∈ch,(b∈X.ex∨X.s₀.heap.objs.size≤b)∧b≠X.env.locals∧(∀ x c,X.env.cells.lookup x=some c→c≠b)∧∀ p∈X.pn ++ pins,p.1≠b)
 (keep:∀ b o,b≠X.env.locals→b ∉ X.fs→b ∉ ch→s.heap.get? b=some o→H b=none→h'.get? b=some o)
 (slot:∀ b o,b≠X.env.locals→b∈X.fs→b ∉ ch→s.heap.get? b=some o→H b=none→∃ sl,h'.get? b=some { o with slots:=sl }) (free:∀ b o,b ∉ ch→s.heap.get? b=some o→H b=none→H' b=none)
 (there:∀ b o,b ∉ ch→s.heap.get? b=some o→∃ o',h'.get? b=some o')
 (tups:∀ b xs,H b=some (.tup xs)→H' b=some (.tup xs)) (frzs:∀ b o u,H b=some (.frz o u)→H' b=some (.frz o u)) (tbls:∀ b ps,H b=some (.tbl ps)→∃ more,H' b=some (.tbl (ps ++ more)))
 (ns:∀ m,s.heap.Ns X.env.locals m→h'.Ns X.env.locals m) (hok:HOk X.prog X.w H' h') (hg:Ju g') :
 Inv X pins σ H' { s with heap:=h',gens:=g',drawn:=d',toks:=t' }:=by
 have neL:∀ b o,X.s₀.heap.get? b=some o→b≠X.env.locals:=fun b o e=>n_ (x_ (m_ e) I.ok.above)
 have neC:∀ b o,X.s₀.heap.get? b=some o→b ∉ X.ex→b ∉ ch:=fun b o e hx hb=>by
  rcases (hch b hb).1 with z | z
  · exact hx z
  · exact absurd (x_ (m_ e) z) (Gy _)
 have cellK:∀ x c,X.env.cells.lookup x=some c→∀ v,s.heap.IsCell c v→h'.IsCell c v:=fun x c e v ⟨o,ho,hd⟩=>by
  have nch:c ∉ ch:=fun z=>(hch c z).2.2.1 x c e rfl
  by_cases hc:c∈X.fs
  · obtain ⟨sl,q⟩:=slot c o (I.cne x c e) hc nch ho (I.freeC x c e)
    exact ⟨_,q,hd⟩
  · exact ⟨o,keep c o (I.cne x c e) hc nch ho (I.freeC x c e),hd⟩
 refine ⟨I.ok,I.os,hg,⟨fun b o e n hb hx=>?_,fun b o e n hb hx=>?_,fun b o e n hx=>?_,fun b o e hx=>?_,fun b xs e=>tups b xs (I.base.tups b xs e),fun b o xs e=>frzs b o xs (I.base.frzs b o xs e),fun b ps e=>?_⟩,?_,fun x c e=>?_,?_,fun x c e=>?_,fun p hp=>?_,hok,I.len⟩
 · exact keep b o (neL b o e) hb (neC b o e hx) (I.base.keep b o e n hb hx) (I.base.free b o e n hx)
 · obtain ⟨sl,e1⟩:=I.base.slot b o e n hb hx
   obtain ⟨sl',e2⟩:=slot b _ (neL b o e) hb (neC b o e hx) e1 (I.base.free b o e n hx)
   exact ⟨sl',e2⟩
 · obtain ⟨o',e1⟩:=I.base.there b o e hx
   exact free b o' (neC b o e hx) e1 (I.base.free b o e n hx)
 · obtain ⟨o',e1⟩:=I.base.there b o e hx
   exact there b o' (neC b o e hx) e1
 · obtain ⟨m1,e1⟩:=I.base.tbls b ps e
   obtain ⟨m2,e2⟩:=tbls b _ e1
   exact ⟨m1 ++ m2,by rw [e2,Mt]⟩
 · obtain ⟨m,hn,hl⟩:=I.loc
   refine ⟨m,ns m hn,fun i x v e1 e2 e3=>?_⟩
   obtain ⟨u,r,l⟩:=hl i x v e1 e2 e3
   refine ⟨u,r,?_⟩
   rcases l with l | ⟨k,c,e,z⟩
   · exact .inl l
   · exact .inr ⟨k,c,e,cellK x c e _ z⟩
 · obtain ⟨v,z⟩:=I.cell x c e
   exact ⟨v,cellK x c e v z⟩
 · obtain ⟨m,⟨o,_,_,ho,_⟩,_⟩:=I.loc
   exact free _ o (fun z=>(hch _ z).2.1 rfl) ho I.free
 · obtain ⟨v,o,ho,hd⟩:=I.cell x c e
   exact free c o (fun z=>(hch c z).2.2.1 x c e rfl) ho (I.freeC x c e)
 · obtain ⟨e,n,ne,nf,d⟩:=I.pin p hp
   have nch:p.1 ∉ ch:=fun z=>(hch p.1 z).2.2.2 p hp rfl
   exact ⟨keep p.1 p.2 ne nf nch e n,free p.1 p.2 nch e n,ne,nf,d⟩
theorem Inv.un {t':Nat} (I:Inv X pins σ H s) (u:Un X.fs [] H H' s.heap h') (hok:HOk X.prog X.w H' h'):Inv X pins σ H' { s with heap:=h',toks:=t' }:=by
 obtain ⟨m,⟨o,es,ep,ho,r⟩,_⟩:=id I.loc
 obtain ⟨sl,hL⟩:=u.any ho I.free (by simp)
 exact I.step (g':=s.gens) (d':=s.drawn) (ch:=[]) (fun _ z=>nomatch z) (fun b o _ hb _ e n=>u.keep b o e n hb (by simp)) (fun b o _ hb _ e n=>u.slot b o e n hb (by simp)) (fun b o _ e n=>u.free b o e n (by simp)) (fun b o _ e=>u.there b o e (by simp)) u.tups u.frzs u.tbls (fun m' hm=>by
  obtain ⟨o',es',ep',ho',r'⟩:=hm
  rw [ho] at ho'; cases ho'
  exact ⟨_,es',ep',hL,r'⟩) hok I.bare
theorem Inv.call {g':Array Kp} {t':Nat} {d':NE} {ch:List Addr} (I:Inv X pins σ H s) (u:Un (frs X.stack) ch H H' s.heap h') (hok:HOk X.prog X.w H' h') (hg:Ju g')
 (hch:∀ b∈ch,(b∈X.ex∨X.s₀.heap.objs.size≤b)∧b≠X.env.locals∧(∀ x c,X.env.cells.lookup x=some c→c≠b)∧∀ p∈X.pn ++ pins,p.1≠b) :
 Inv X pins σ H' { s with heap:=h',gens:=g',drawn:=d',toks:=t' }:=by
 obtain ⟨m,⟨o,es,ep,ho,r⟩,_⟩:=id I.loc
 obtain ⟨sl,hL⟩:=u.any ho I.free fun z=>(hch _ z).2.1 rfl
 exact I.step (ch:=ch) hch (fun b o hL hb hc e n=>u.keep b o e n (fun z=>(p_.mp (I.stkSub b z)).elim hL hb) hc) (fun b o _ _ hc e n=>u.any e n hc) (fun b o hc e n=>u.free b o e n hc) (fun b o hc e=>u.there b o e hc) u.tups u.frzs u.tbls (fun m' hm=>by
  obtain ⟨o',es',ep',ho',r'⟩:=hm
  rw [ho] at ho'; cases ho'
  exact ⟨_,es',ep',hL,r'⟩) hok hg
theorem Inv.turned {t':Nat} {it:Addr} (I:Inv X pins σ H s) (k:∀ b o,b≠it→s.heap.get? b=some o→h'.get? b=some o) (hn:H it=none) (hL:it≠X.env.locals)
 (h1:it∈X.ex∨X.s₀.heap.objs.size≤it) (h2:∀ x c,X.env.cells.lookup x=some c→c≠it) (h3:∀ p∈X.pn ++ pins,p.1≠it):Inv X pins σ H { s with heap:=h',toks:=t' }:=by
 have nit:∀ b u,H b=some u→b≠it:=fun b u e z=>by rw [z,hn] at e; cases e
 refine I.step (g':=s.gens) (d':=s.drawn) (ch:=[it]) (fun b hb=>?_) (fun b o _ _ hc e _=>k b o (fun z=>hc (by simp [z])) e) (fun b o _ _ hc e _=>⟨o.slots,k b o (fun z=>hc (by simp [z])) e⟩) (fun _ _ _ _ n=>n)
  (fun b o hc e=>⟨o,k b o (fun z=>hc (by simp [z])) e⟩) (fun _ _ e=>e) (fun _ _ _ e=>e) (fun b ps e=>⟨#[],by rw [e]; simp⟩) (fun m hm=>?_) (fun b u e=>?_) I.bare
 · have e:b=it:=by simpa using hb
   subst e
   exact ⟨h1,hL,h2,h3⟩
 · obtain ⟨o,es,ep,ho,r⟩:=hm
   exact ⟨o,es,ep,k _ o (IC hL) ho,r⟩
 · refine (I.hok b u e).stay (fun c v hc q=>k c v ?_ q) (fun _ q=>q) fun _ _ q=>q
   rcases hc with z | z
   · rw [z]; exact nit b u e
   · exact nit c _ z
theorem Inv.tok (I:Inv X pins σ H s) (t:Nat):Inv X pins σ H { s with toks:=t }:=I.un (h':=s.heap) (t':=t) Un.refl I.hok
theorem Inv.kept {t':Nat} (I:Inv X pins σ H s) (k:∀ b u,s.heap.get? b=some u→h'.get? b=some u):Inv X pins σ H { s with heap:=h',toks:=t' }:=I.un (Un.kept k) (I.hok.kept k)
theorem Inv.laid {a:Addr} {o:HO} {t':Nat} (I:Inv X pins σ H s) (k:∀ b u,s.heap.get? b=some u→h'.get? b=some u) (hp:s.heap.objs.size≤a) (new:ObjOk X.prog X.w (upd H a o) h' a o) :
 Inv X pins σ (upd H a o) { s with heap:=h',toks:=t' }:=I.un (Un.laid k hp (I.hok.fresh hp)) (I.hok.laid k hp new)
theorem Inv.write {x e:Addr} {o:HO} {t':Nat} (I:Inv X pins σ H s) (mu:Mut (H x)) (he:e=x∨H e=some (.own x)) (k:∀ b u,b≠e→s.heap.get? b=some u→h'.get? b=some u) (heo:∃ u,h'.get? e=some u)
 (new:ObjOk X.prog X.w (upd H x o) h' x o):Inv X pins σ (upd H x o) { s with heap:=h',toks:=t' }:=I.un (Un.write mu he k heo) (I.hok.write mu he k heo new)
theorem Inv.pins_of {pins':List (Addr×Obj)} (I:Inv X pins σ H s) (h:∀ p∈pins',s.heap.get? p.1=some p.2∧H p.1=none∧p.1≠X.env.locals∧p.1 ∉ X.fs∧∀ v,p.2.data≠.cell v):Inv X pins' σ H s :=
 ⟨I.ok,I.os,I.bare,I.base,I.loc,I.cell,I.free,I.freeC,fun p hp=>(Gj.mp hp).elim (fun z=>I.pin p (F_ _ z)) (h p),I.hok,I.len⟩
theorem nR {N:List Str} (hN:N.Nodup) {i j:Nat} {x:Str} (a:N[i]?=some x) (b:N[j]?=some x):i=j:=by
 obtain ⟨h1,e1⟩:=u_.mp a
 obtain ⟨h2,e2⟩:=u_.mp b
 exact (M1 hN).mp (e1.trans e2.symm)
theorem qc {M:LL} {A:q_} {E:Value→Shared→Prop} {i:Nat} {x:Str} {v:V} {u:Value} {Q:Unit→Shared→Prop} (I:Inv X pins σ H s) (hN:X.N.Nodup) (hi:X.N[i]?=some x) (hx:Loc X.env.scope x) (r:RelV v u)
 (h:∀ s',Inv X pins (σ.set i (some v)) H s'→(∃ a,Ib a s.heap s'.heap∧(a=X.env.locals∨X.env.cells.lookup x=some a))→Q () s') (hf:X.fn x=true∨X.env.scope.names.lookup x=some .local:=by first | exact .inl rfl | exact .inr rfl | assumption):l_ M A (storeName X.env x u) Q E s:=by
 obtain ⟨m,hn,hl⟩:=id I.loc
 have hcls:(X.env.scope.kind == .class || (X.env.scope.kind == .module && X.env.locals != X.env.globals))=false:=by rw [I.ok.kind]; rfl
 have hiσ:i < σ.length:=by rw [I.len]; exact (u_.mp hi).1
 have cne:=I.cne
 have tracked:∀ {a:Addr} {h':Heap},(∃ o,s.heap.get? a=some o∧H a=none)→Ib a s.heap h'→HOk X.prog X.w H h':=fun {a h'} ha hs b ob e=>by
  obtain ⟨_,_,hfree⟩:=ha
  refine (I.hok b ob e).stay (fun c w' hc q=>(hs.2 c ?_).trans q) (fun _ q=>q) fun _ _ q=>q
  rintro rfl
  rcases hc with rfl | hc
  · rw [hfree] at e; cases e
  · rw [hfree] at hc; cases hc
 rcases hx with hk | hk
 · refine wpAny_storeName_local hk hn (fun h' hn' hs=>?_) hcls
   obtain ⟨oL,_,_,hoL,_⟩:=id hn
   refine h _ ⟨I.ok,I.os,I.bare,⟨fun b o e n hb hx=>?_,fun b o e n hb hx=>?_,I.base.free,fun b o e hx=>?_,I.base.tups,I.base.frzs,I.base.tbls⟩,⟨_,hn',fun j y v' e1 e2 e3=>?_⟩,fun y c e=>?_,I.free,I.freeC,fun p hp=>?_,tracked ⟨oL,hoL,I.free⟩ hs,by simpa using I.len⟩ ⟨_,hs,.inl rfl⟩
   · exact (hs.2 b (n_ (x_ (m_ e) I.ok.above))).trans (I.base.keep b o e n hb hx)
   · obtain ⟨sl,e1⟩:=I.base.slot b o e n hb hx
     exact ⟨sl,(hs.2 b (n_ (x_ (m_ e) I.ok.above))).trans e1⟩
   · obtain ⟨o',e1⟩:=I.base.there b o e hx
     exact ⟨o',(hs.2 b (n_ (x_ (m_ e) I.ok.above))).trans e1⟩
   · by_cases hj:j=i
     · subst hj
       rw [hi] at e1; cases e1
       rw [Gu hiσ] at e2
       cases e2
       exact ⟨u,r,.inl ⟨hk,by simp⟩⟩
     · rw [Gq (IC hj)] at e2
       obtain ⟨u',r',q⟩:=hl j y v' e1 e2 e3
       refine ⟨u',r',?_⟩
       rcases q with ⟨k,e⟩ | ⟨k,c,e,z⟩
       · refine .inl ⟨k,?_⟩
         have:y≠x:=fun e=>hj (nR hN e1 (e ▸ hi))
         simp [this,e]
       · exact .inr ⟨k,c,e,z.sameBut hs (cne y c e)⟩
   · obtain ⟨w',z⟩:=I.cell y c e
     exact ⟨w',z.sameBut hs (cne y c e)⟩
   · obtain ⟨e,n,ne,nf,d⟩:=I.pin p hp
     exact ⟨(hs.2 p.1 ne).trans e,n,ne,nf,d⟩
 · have hfn:X.fn x=true:=by
    rcases hf with z | z
    · exact z
    · rw [z] at hk; cases hk
   obtain ⟨c,hc⟩:=I.ok.has x (.inl hk)
   obtain ⟨w',z⟩:=I.cell x c hc
   refine wpAny_storeName_cell I.ok.kind hk hc z (fun h' hc' hs=>?_)
   obtain ⟨oc,hoc,hocd⟩:=id z
   refine h { s with heap:=h' } ⟨I.ok,I.os,I.bare,⟨fun b o e n hb hx=>?_,fun b o e n hb hx=>?_,I.base.free,fun b o e hx=>?_,I.base.tups,I.base.frzs,I.base.tbls⟩,⟨m,hn.sameBut hs (IC (cne x c hc)),fun j y v' e1 e2 e3=>?_⟩,fun y c' e=>?_,I.free,I.freeC,fun p hp=>?_,tracked ⟨oc,hoc,I.freeC x c hc⟩ hs,by simpa using I.len⟩ ⟨c,hs,.inr hc⟩
   · exact (hs.2 b (n_ (x_ (m_ e) (I.ok.cab x c hfn hc)))).trans (I.base.keep b o e n hb hx)
   · obtain ⟨sl,e1⟩:=I.base.slot b o e n hb hx
     exact ⟨sl,(hs.2 b (n_ (x_ (m_ e) (I.ok.cab x c hfn hc)))).trans e1⟩
   · obtain ⟨o',e1⟩:=I.base.there b o e hx
     exact ⟨o',(hs.2 b (n_ (x_ (m_ e) (I.ok.cab x c hfn hc)))).trans e1⟩
   · by_cases hj:j=i
     · subst hj
       rw [hi] at e1; cases e1
       rw [Gu hiσ] at e2
       cases e2
       exact ⟨u,r,.inr ⟨.inl hk,c,hc,hc'⟩⟩
     · rw [Gq (IC hj)] at e2
       obtain ⟨u',r',q⟩:=hl j y v' e1 e2 e3
       refine ⟨u',r',?_⟩
       rcases q with q | ⟨k,c',e,z'⟩
       · exact .inl q
       · refine .inr ⟨k,c',e,z'.sameBut hs ?_⟩
         rintro rfl
         exact hj (nR hN e1 (I.ok.inj _ _ _ e hc ▸ hi))
   · by_cases hcc:c'=c
     · subst hcc; exact ⟨_,hc'⟩
     · obtain ⟨w2,z2⟩:=I.cell y c' e
       exact ⟨w2,z2.sameBut hs hcc⟩
   · obtain ⟨e,n,ne,nf,d⟩:=I.pin p hp
     refine ⟨(hs.2 p.1 ?_).trans e,n,ne,nf,d⟩
     intro q
     rw [q,hoc] at e
     have q':oc=p.2:=FU e
     exact d w' (by rw [← q']; exact hocd)
theorem nS {M:LL} {A:q_} {E:Value→Shared→Prop} {i:Nat} {x:Str} {v:V} {u:Value} {Q:Unit→Shared→Prop} (I:Inv X pins σ H s) (hN:X.N.Nodup) (hi:X.N[i]?=some x) (hx:Loc X.env.scope x) (r:RelV v u)
 (h:∀ s',Inv X pins (σ.set i (some v)) H s'→Q () s') (hf:X.fn x=true∨X.env.scope.names.lookup x=some .local:=by first | exact .inl rfl | exact .inr rfl | assumption):l_ M A (storeName X.env x u) Q E s :=
 qc I hN hi hx r (fun s' I' _=>h s' I') hf
theorem Inv.call' {s':Shared} {ch:List Addr} (I:Inv X pins σ H s) (ho:s'.os=s.os) (u:Un (frs X.stack) ch H H' s.heap s'.heap) (hok:HOk X.prog X.w H' s'.heap) (hg:Ju s'.gens)
 (hch:∀ b∈ch,(b∈X.ex∨X.s₀.heap.objs.size≤b)∧b≠X.env.locals∧(∀ x c,X.env.cells.lookup x=some c→c≠b)∧∀ p∈X.pn ++ pins,p.1≠b):Inv X pins σ H' s':=by
 obtain ⟨h',g',d',t',o'⟩:=s'
 have e:o'=s.os:=ho
 subst e
 exact I.call (g':=g') (t':=t') (d':=d') u hok hg hch
end
abbrev XK:=Value→Option Addr→Hp→Prop
abbrev St:=List (Option V)
abbrev VK:=V→Hp→Prop
abbrev TE:=St→Hp→VK→Prop
abbrev TT:=St→Hp→(Bool→Hp→Prop)→Prop
abbrev TA:=St→Hp→(List V→Hp→Prop)→Prop
structure pZ where
 nx:St→Hp→Prop
 rt:VK
 bk:St→Hp→Prop:=fun _ _=>False
 ct:St→Hp→Prop:=fun _ _=>False
abbrev TS:=pZ→St→Hp→Prop
def EP (X:Cx) (pins:List (Addr×Obj)) (σ:St) (Q:VK) (u:Value) (s':Shared):Prop:=∃ v H',Inv X pins σ H' s'∧RelV v u∧Q v H'
def TP (X:Cx) (pins:List (Addr×Obj)) (σ:St) (Q:Bool→Hp→Prop) (b:Bool) (s':Shared):Prop:=∃ H',Inv X pins σ H' s'∧Q b H'
def AP (X:Cx) (pins:List (Addr×Obj)) (σ:St) (Q:List V→Hp→Prop) (us:List Value) (s':Shared):Prop:=∃ vs H',Inv X pins σ H' s'∧Vals vs us∧Q vs H'
def SP (X:Cx) (pins:List (Addr×Obj)) (D:pZ) (f:Flow) (s':Shared):Prop :=
 match f with
 | .next=>∃ σ' H',Inv X pins σ' H' s'∧D.nx σ' H'
 | .brk=>∃ σ' H',Inv X pins σ' H' s'∧D.bk σ' H'
 | .cont=>∃ σ' H',Inv X pins σ' H' s'∧D.ct σ' H'
 | .ret u=>∃ v σ' H',Inv X pins σ' H' s'∧RelV v u∧D.rt v H'
def PE (X:Cx) (e:Expr) (t:TE):Prop :=
 ∀ (pins:List (Addr×Obj)) (s:Shared) (σ:St) (H:Hp) (Q:VK),Inv X pins σ H s→t σ H Q→l_ (o_ X.prog X.w) X.A (eval e X.env) (EP X pins σ Q) X.xe s
def PT (X:Cx) (e:Expr) (t:TT):Prop :=
 ∀ (pins:List (Addr×Obj)) (s:Shared) (σ:St) (H:Hp) (Q:Bool→Hp→Prop),Inv X pins σ H s→t σ H Q→l_ (o_ X.prog X.w) X.A (isTrue e X.env (eval e X.env)) (TP X pins σ Q) X.xe s
def PW (X:Cx) (e:Expr) (t:TT):Prop :=
 ∀ (whole:Sem Value) (pins:List (Addr×Obj)) (s:Shared) (σ:St) (H:Hp) (Q:Bool→Hp→Prop),Inv X pins σ H s→t σ H Q→l_ (o_ X.prog X.w) X.A (isTrue e X.env whole) (TP X pins σ Q) X.xe s
theorem PW.pt {X:Cx} {e:Expr} {t:TT} (h:PW X e t):PT X e t:=h _
def PA (X:Cx) (es:List Expr) (t:TA):Prop :=
 ∀ (pos:Pos) (pins:List (Addr×Obj)) (s:Shared) (σ:St) (H:Hp) (Q:List V→Hp→Prop),Inv X pins σ H s→t σ H Q→l_ (o_ X.prog X.w) X.A (Nd (F0 pos (e_ es X.env))) (AP X pins σ Q) X.xe s
def PS (X:Cx) (st:Stmt) (t:TS):Prop :=
 ∀ (pins:List (Addr×Obj)) (s:Shared) (σ:St) (H:Hp) (D:pZ),Inv X pins σ H s→t D σ H→l_ (o_ X.prog X.w) X.A (exec st X.env) (SP X pins D) X.xe s
def PSs (X:Cx) (st:List Stmt) (t:TS):Prop :=
 ∀ (pins:List (Addr×Obj)) (s:Shared) (σ:St) (H:Hp) (D:pZ),Inv X pins σ H s→t D σ H→l_ (o_ X.prog X.w) X.A (execs st X.env) (SP X pins D) X.xe s
theorem thn {α:Type} {t:Sem α} {Q Q':α→Shared→Prop} {M:LL} {A:q_} {E:Value→Shared→Prop} {s:Shared} (h:l_ M A t Q E s) (hQ:∀ a s,Q a s→Q' a s):l_ M A t Q' E s:=FQ h hQ fun _ _ x=>x
section
variable {X:Cx}
def yL (i:Nat):TE:=fun σ H Q=>∃ v,σ[i]?=some (some v)∧Q v H
def tC (v:V):TE:=fun _ H Q=>Q v H
theorem qd {i:Nat} {x:Str} {pos:Pos} (hN:X.N[i]?=some x) (hv:Vis X.env.scope x) (hd:(x == ("__debug__":Str))=false:=by decide) (hcd:(x == ("__classdict__":Str))=false:=by decide):PE X (.Name x pos) (yL i):=by
 intro pins s σ H Q I h
 obtain ⟨v,e,h⟩:=h
 obtain ⟨m,hn,hl⟩:=I.loc
 obtain ⟨u,r,l⟩:=hl i x v hN e hv
 have fin:EP X pins σ Q u s:=⟨v,H,I,r,h⟩
 rcases l with ⟨hk,hm⟩ | ⟨hk,c,hc,hcell⟩
 · exact wpAny_Name (wpAny_loadName_local I.ok.kind hk hn hm fin) hd
 · rcases hk with hk | hk
   · exact wpAny_Name (wpAny_loadName_cell I.ok.kind hk hc hcell fin) hd
   · exact wpAny_Name (wpAny_loadName_free I.ok.kind hk hc hcell fin hcd) hd
theorem yM {i j pos}:PE X (.Constant (.int i) j pos) (tC (.int i)):=fun _ _ _ H _ I h=>wpAny_Constant_int ⟨.int i,H,I.tok _,⟨_,rfl⟩,h⟩
theorem B7 {b j pos}:PE X (.Constant (.bool b) j pos) (tC (.bl b)):=fun _ _ _ H _ I h=>Constant_bool ⟨.bl b,H,I,rfl,h⟩
theorem yN {j pos}:PE X (.Constant .none j pos) (tC .non):=fun _ _ _ H _ I h=>Constant_none ⟨.non,H,I,rfl,h⟩
theorem yO {x j pos}:PE X (.Constant (.str x) j pos) (tC (.str x)):=fun _ _ _ H _ I h=>Calls.Constant_str ⟨.str x,H,I.tok _,⟨_,rfl⟩,h⟩
def Gl (X:Cx) (x:Str):Prop:=X.env.kindOf x=some .globalImplicit
theorem qe {E:Value→Shared→Prop} {pins:List (Addr×Obj)} {s:Shared} {σ:St} {H:Hp} {x:Str} {u:Value} {pos:Pos} {Q:Value→Shared→Prop} (I:Inv X pins σ H s) (hg:Gl X x) (hm:X.mg x=some u) (h:Q u s)
 (hd:(x == ("__debug__":Str))=false:=by decide):l_ (o_ X.prog X.w) X.A (eval (.Name x pos) X.env) Q E s :=
 Kr I.ok.kind hg (Calls.loadGlobal_global (by rw [I.ok.glob]; exact I.mod.glob.keeps I.bk) hm h) hd
theorem cZ {E:Value→Shared→Prop} {pins:List (Addr×Obj)} {s:Shared} {σ:St} {H:Hp} {x:Str} {u:Value} {pos:Pos} {Q:Value→Shared→Prop} (I:Inv X pins σ H s) (hg:Gl X x) (hm:X.mg x=none) (hv:GF x=some u) (h:Q u s)
 (hn:x≠"__name__":=by decide) (hd:(x == ("__debug__":Str))=false:=by decide):l_ (o_ X.prog X.w) X.A (eval (.Name x pos) X.env) Q E s:=by
 obtain ⟨mb,h1,h2⟩:=I.mod.blt
 exact Kr I.ok.kind hg (Calls.loadGlobal_builtin (by rw [I.ok.glob]; exact I.mod.glob.keeps I.bk) hm (by rw [I.ok.blt]; exact h1.keeps I.bk) ((h2 x hn).trans hv) h) hd
theorem qf {x:Str} {v:V} {u:Value} {pos:Pos} (hg:Gl X x) (hm:X.mg x=some u) (r:RelV v u) (hd:(x == ("__debug__":Str))=false:=by decide):PE X (.Name x pos) (tC v) :=
 fun _ _ _ H _ I h=>qe I hg hm ⟨v,H,I,r,h⟩ hd
theorem v7 {x:Str} {v:V} {u:Value} {pos:Pos} (hg:Gl X x) (hm:X.mg x=none) (hv:GF x=some u) (r:RelV v u) (hn:x≠"__name__":=by decide) (hd:(x == ("__debug__":Str))=false:=by decide):PE X (.Name x pos) (tC v) :=
 fun _ _ _ H _ I h=>cZ I hg hm hv ⟨v,H,I,r,h⟩ hn hd
variable {a b:Expr} {ta tb:TE} {pos:Pos}
def tB (t:TE):TT:=fun σ H Q=>t σ H fun x H1=>∃ c,x=.bl c∧Q c H1
theorem yP {e:Expr} {t:TE} (h:PE X e t) (he:∀ whole,isTrue e X.env whole=(do let v ← whole; standAt e.pos; Nf [v] (truthy v)):=by intro _; rfl):PT X e (tB t):=by
 intro pins s σ H Q I hw
 refine isTrue_plain (thn (h pins s σ H _ I hw) fun v s1 ⟨x,H1,I1,r1,q1⟩=>?_) (he _)
 obtain ⟨d,rfl,q⟩:=q1
 cases r1
 exact G7 ⟨H1,I1,q⟩
variable {tA tB':TT} {cz:List Expr}
def EA (t u:TT):TT:=fun σ H Q=>t σ H fun c H1=>if c=true then u σ H1 Q else Q false H1
def tOr (t u:TT):TT:=fun σ H Q=>t σ H fun c H1=>if c=true then Q true H1 else u σ H1 Q
def EB (t:TT):TT:=fun σ H Q=>t σ H fun c H1=>Q (!c) H1
theorem wa (ha:PT X a tA):PW X (.BoolOp .And [a] pos) tA:=by
 intro wh pins s σ H Q I h
 refine isTrue_and (thn (ha pins s σ H Q I h) fun c s1 e=>?_)
 cases c with
 | true=>exact isTrue_and_nil e
 | false=>exact e
theorem yQ (ha:PT X a tA):PW X (.BoolOp .Or [a] pos) tA:=by
 intro wh pins s σ H Q I h
 refine isTrue_or (thn (ha pins s σ H Q I h) fun c s1 e=>?_)
 cases c with
 | false=>exact isTrue_or_nil e
 | true=>exact e
theorem yR (ha:PT X a tA) (hb:PW X (.BoolOp .And (b :: cz) pos) tB'):PW X (.BoolOp .And (a :: b :: cz) pos) (EA tA tB'):=by
 intro wh pins s σ H Q I h
 refine isTrue_and (thn (ha pins s σ H _ I h) fun c s1 ⟨H1,I1,q1⟩=>?_)
 cases c with
 | true=>exact hb wh pins s1 σ H1 Q I1 q1
 | false=>exact ⟨H1,I1,q1⟩
theorem B8 (ha:PT X a tA) (hb:PW X (.BoolOp .Or (b :: cz) pos) tB'):PW X (.BoolOp .Or (a :: b :: cz) pos) (tOr tA tB'):=by
 intro wh pins s σ H Q I h
 refine isTrue_or (thn (ha pins s σ H _ I h) fun c s1 ⟨H1,I1,q1⟩=>?_)
 cases c with
 | true=>exact ⟨H1,I1,q1⟩
 | false=>exact hb wh pins s1 σ H1 Q I1 q1
theorem yS (ha:PT X a tA):PT X (.UnaryOp .Not a pos) (EB tA):=by
 intro pins s σ H Q I h
 exact isTrue_not (ha pins s σ H (fun c H1=>Q (!c) H1) I h)
def B9 (ta tb:TE):TE:=fun σ H Q=>ta σ H fun x H1=>∃ c,x=.bl c∧if c=true then tb σ H1 Q else Q (.bl false) H1
def EC (ta tb:TE):TE:=fun σ H Q=>ta σ H fun x H1=>∃ c,x=.bl c∧if c=true then Q (.bl true) H1 else tb σ H1 Q
def Ca (ta:TE):TE:=fun σ H Q=>ta σ H fun x H1=>∃ c,x=.bl c∧Q (.bl (!c)) H1
theorem yT {op} {t:TE} (h:PE X a t):PE X (.BoolOp op [a] pos) t:=fun pins s σ H Q I hw=>BoolOp_one (h pins s σ H Q I hw)
theorem yU (ha:PE X a ta) (hb:PE X (.BoolOp .And (b :: cz) pos) tb):PE X (.BoolOp .And (a :: b :: cz) pos) (B9 ta tb):=by
 intro pins s σ H Q I h
 refine BoolOp_and (thn (ha pins s σ H _ I h) fun v s1 ⟨x,H1,I1,r1,q1⟩=>?_)
 obtain ⟨c,rfl,q1⟩:=q1
 cases r1
 refine G7 ?_
 cases c with
 | true=>exact hb pins s1 σ H1 Q I1 q1
 | false=>exact ⟨.bl false,H1,I1,rfl,q1⟩
theorem Cb (ha:PE X a ta) (hb:PE X (.BoolOp .Or (b :: cz) pos) tb):PE X (.BoolOp .Or (a :: b :: cz) pos) (EC ta tb):=by
 intro pins s σ H Q I h
 refine BoolOp_or (thn (ha pins s σ H _ I h) fun v s1 ⟨x,H1,I1,r1,q1⟩=>?_)
 obtain ⟨c,rfl,q1⟩:=q1
 cases r1
 refine G7 ?_
 cases c with
 | false=>exact hb pins s1 σ H1 Q I1 q1
 | true=>exact ⟨.bl true,H1,I1,rfl,q1⟩
theorem yV (ha:PE X a ta):PE X (.UnaryOp .Not a pos) (Ca ta):=by
 intro pins s σ H Q I h
 refine UnaryOp_ (thn (ha pins s σ H _ I h) fun v s1 ⟨x,H1,I1,r1,q1⟩=>?_)
 obtain ⟨c,rfl,q1⟩:=q1
 cases r1
 exact not_of (G7 ⟨.bl (!c),H1,I1,rfl,q1⟩)
end
def SqL (K:ck) (H:Hp) (a:Addr) (xs:List V):Prop :=
 Rd H a (.lst xs) ∨
  ∃ (o:Obj) (its:Array Value) (n:Nat),K.lookup a=some o∧o.cls=.type "list"∧o.dict=none∧o.data=.seq its n∧its.size≤sizeLine∧Vals xs its.toList
def SqT (K:ck) (H:Hp) (a:Addr) (xs:List V):Prop :=
 Rd H a (.tup xs) ∨
  ∃ (o:Obj) (its:Array Value) (n:Nat),K.lookup a=some o∧o.cls=.type "tuple"∧o.data=.seq its n∧its.size≤sizeLine∧Vals xs its.toList
def ED:Value→Option V
 | .none=>some .non
 | .bool b=>some (.bl b)
 | .int i _=>some (.int i)
 | .str x _=>some (.str x)
 | .bytes b _=>some (.byt b)
 | .float b _=>some (.flt b)
 | .ref a=>some (.ref a)
 | .type n=>some (.ty n)
 | _=>none
theorem RelV.abs {x:V} {u:Value} (r:RelV x u):ED u=some x:=by
 cases x with
 | non=>cases r; rfl
 | bl _=>cases r; rfl
 | int _=>obtain ⟨t,rfl⟩:=r; rfl
 | str _=>obtain ⟨t,rfl⟩:=r; rfl
 | byt _=>obtain ⟨t,rfl⟩:=r; rfl
 | flt _=>obtain ⟨t,rfl⟩:=r; rfl
 | ref _=>cases r; rfl
 | ty _=>cases r; rfl
theorem RelV.inj {x y:V} {u:Value} (r:RelV x u) (q:RelV y u):x=y:=FU (r.abs.symm.trans q.abs)
theorem Vals.inj:∀ {xs ys:List V} {us:List Value},Vals xs us→Vals ys us→xs=ys
 | _,_,_,.nil,.nil=>rfl
 | _,_,_,.cons r t,.cons r' t'=>by rw [r.inj r',Vals.inj t t']
section
variable {X:Cx} {pins:List (Addr×Obj)} {σ:St} {H:Hp} {s:Shared} {a:Addr} {xs ys:List V}
theorem SqL.of {K:ck} (h:H a=some (.lst xs)):SqL K H a xs:=.inl (.inl h)
theorem SqT.of {K:ck} (h:H a=some (.tup xs)):SqT K H a xs:=.inl (.inl h)
theorem Inv.list (I:Inv X pins σ H s) (h:SqL X.K H a xs):∃ its:List Value,Vals xs its∧PlainL s.heap a its.toArray∧xs.length≤sizeLine:=by
 rcases h with h | ⟨o,its,n,hk,hc,hd,hs,hz,r⟩
 · obtain ⟨z,its,n,r,e⟩:=h.ok I.hok
   exact ⟨its,r,⟨_,n,e,rfl,rfl,rfl⟩,z⟩
 · refine ⟨its.toList,r,⟨o,n,I.kIn a o hk,hc,hd,by simpa using hs⟩,?_⟩
   have e:=r.length
   simp only [Gi] at e
   omega
theorem Inv.tuple (I:Inv X pins σ H s) (h:SqT X.K H a xs):∃ its:List Value,Vals xs its∧Ny s.heap a its.toArray∧xs.length≤sizeLine:=by
 rcases h with h | ⟨o,its,n,hk,hc,hs,hz,r⟩
 · obtain ⟨z,its,r,p⟩:=h.ok I.hok
   exact ⟨its,r,p,z⟩
 · refine ⟨its.toList,r,⟨o,I.kIn a o hk,hc,n,by simpa using hs⟩,?_⟩
   have e:=r.length
   simp only [Gi] at e
   omega
theorem Inv.list_inj (I:Inv X pins σ H s) (h:SqL X.K H a xs) (h':SqL X.K H a ys):xs=ys:=by
 obtain ⟨its,r,⟨o,n,e,_,_,d⟩,_⟩:=I.list h
 obtain ⟨its',r',⟨o',n',e',_,_,d'⟩,_⟩:=I.list h'
 rw [e] at e'; cases e'
 rw [d] at d'
 injection d' with d1 _
 have:its=its':=by simpa using congrArg JC d1
 subst this
 exact r.inj r'
theorem Inv.tuple_inj (I:Inv X pins σ H s) (h:SqT X.K H a xs) (h':SqT X.K H a ys):xs=ys:=by
 obtain ⟨its,r,⟨o,e,_,n,d⟩,_⟩:=I.tuple h
 obtain ⟨its',r',⟨o',e',_,n',d'⟩,_⟩:=I.tuple h'
 rw [e] at e'; cases e'
 rw [d] at d'
 injection d' with d1 _
 have:its=its':=by simpa using congrArg JC d1
 subst this
 exact r.inj r'
end
abbrev Cx.wish (X:Cx) (E:Value→Shared→Prop):Cx:={ X with xe:=E }
abbrev Cx.nox (X:Cx):Cx:=X.wish fun _ _=>False
theorem Cx.Ok.wish {X:Cx} (ok:X.Ok) (E:Value→Shared→Prop):(X.wish E).Ok :=
 ⟨ok.mod,ok.kind,ok.glob,ok.blt,ok.above,ok.inj,ok.has,ok.cab,ok.hd,ok.frames,ok.stk,ok.exf,ok.bs,ok.bsz,ok.noex,ok.exfs,ok.funs,ok.frf⟩
theorem Cx.Ok.unwish {X:Cx} {E:Value→Shared→Prop} (ok:(X.wish E).Ok):X.Ok :=
 ⟨ok.mod,ok.kind,ok.glob,ok.blt,ok.above,ok.inj,ok.has,ok.cab,ok.hd,ok.frames,ok.stk,ok.exf,ok.bs,ok.bsz,ok.noex,ok.exfs,ok.funs,ok.frf⟩
section
variable {X:Cx} {pins:List (Addr×Obj)} {σ:St} {H:Hp} {s:Shared} {E:Value→Shared→Prop}
theorem Inv.wish (I:Inv X pins σ H s) (E:Value→Shared→Prop):Inv (X.wish E) pins σ H s:=⟨I.ok.wish E,I.os,I.bare,I.base,I.loc,I.cell,I.free,I.freeC,I.pin,I.hok,I.len⟩
theorem Inv.unwish (I:Inv (X.wish E) pins σ H s):Inv X pins σ H s:=⟨I.ok.unwish,I.os,I.bare,I.base,I.loc,I.cell,I.free,I.freeC,I.pin,I.hok,I.len⟩
theorem SP.unwish {D:pZ} {f:Flow} {s':Shared} (h:SP (X.wish E) pins D f s'):SP X pins D f s':=by
 cases f with
 | next=>obtain ⟨σ',H',I,q⟩:=h; exact ⟨σ',H',I.unwish,q⟩
 | brk=>obtain ⟨σ',H',I,q⟩:=h; exact ⟨σ',H',I.unwish,q⟩
 | cont=>obtain ⟨σ',H',I,q⟩:=h; exact ⟨σ',H',I.unwish,q⟩
 | ret u=>obtain ⟨v,σ',H',I,r,q⟩:=h; exact ⟨v,σ',H',I.unwish,r,q⟩
theorem PE.nox {e:Expr} {t:TE} (h:PE X.nox e t):PE X e t:=fun pins s σ H Q I hw =>
 FQ (h pins s σ H Q (I.wish _) hw) (fun _ _ ⟨v,H',I',r,q⟩=>⟨v,H',I'.unwish,r,q⟩) fun _ _ z=>Gd z
theorem PT.nox {e:Expr} {t:TT} (h:PT X.nox e t):PT X e t:=fun pins s σ H Q I hw =>
 FQ (h pins s σ H Q (I.wish _) hw) (fun _ _ ⟨H',I',q⟩=>⟨H',I'.unwish,q⟩) fun _ _ z=>Gd z
theorem PSs.nox {st:List Stmt} {t:TS} (h:PSs X.nox st t):PSs X st t:=fun pins s σ H D I hw =>
 FQ (h pins s σ H D (I.wish _) hw) (fun _ _ q=>q.unwish) fun _ _ z=>Gd z
end
section
variable {X:Cx} {st:Stmt} {cz:List Stmt} {t u:TS} {e:Expr} {te:TE} {pos:Pos}
def Cc:TS:=fun D σ H=>D.nx σ H
def EE (t u:TS):TS:=fun D σ H=>t { D with nx:=u D } σ H
theorem qg:PSs X [] Cc:=fun _ _ σ H _ I h=>Lo ⟨σ,H,I,h⟩
theorem jY (h1:PS X st t) (h2:PSs X cz u):PSs X (st :: cz) (EE t u):=by
 intro pins s σ H D I h
 refine wpAny_execs_cons (thn (h1 pins s σ H { D with nx:=u D } I h) fun f s1 q=>?_)
 cases f with
 | next =>
  obtain ⟨σ',H',I',q⟩:=q
  exact h2 pins s1 σ' H' D I' q
 | ret v=>exact q
 | brk=>exact q
 | cont=>exact q
theorem qh (h1:PS X st t):PSs X [st] t:=by
 intro pins s σ H D I h
 refine wpAny_execs_cons (thn (h1 pins s σ H D I h) fun f s1 q=>?_)
 cases f with
 | next=>exact Lo q
 | ret v=>exact q
 | brk=>exact q
 | cont=>exact q
theorem Inv.quiet {pins:List (Addr×Obj)} {σ:St} {H:Hp} {s:Shared} (I:Inv X pins σ H s):interactive X.env=false:=by simp [interactive,I.ok.kind]
def Cd (te:TE):TS:=fun D σ H=>te σ H fun _ H1=>D.nx σ H1
theorem qi (he:PE X e te) (hs:G8 e none pos.line X.env=pure false:=by rfl):PS X (.Expr e pos) (Cd te):=by
 intro pins s σ H D I h
 exact wpAny_Expr_any (thn (he pins s σ H _ I h) fun v s1 ⟨x,H1,I1,r1,q1⟩=>⟨σ,H1,I1,q1⟩) I.quiet hs
def EF (te:TE):TS:=fun D σ H=>te σ H D.rt
theorem vo (he:PE X e te):PS X (.Return (some e) pos) (EF te):=by
 intro pins s σ H D I h
 exact wpAny_Return_some (thn (he pins s σ H _ I h) fun v s1 ⟨x,H1,I1,r1,q1⟩=>⟨x,σ,H1,I1,r1,q1⟩)
def EG (c:TT) (t u:TS):TS:=fun D σ H=>c σ H fun b H1=>if b=true then t D σ H1 else u D σ H1
theorem yW {c:Expr} {a b:List Stmt} {tc:TT} (hc:PT X c tc) (ha:PSs X a t) (hb:PSs X b u):PS X (.If c a b pos) (EG tc t u):=by
 intro pins s σ H D I h
 refine wpAny_If (thn (hc pins s σ H _ I h) fun d s1 ⟨H1,I1,q1⟩=>?_)
 cases d with
 | true=>exact ha pins s1 σ H1 D I1 q1
 | false=>exact hb pins s1 σ H1 D I1 q1
def yX:TS:=fun _ _ _=>False
theorem tU:PS X st yX:=fun _ _ _ _ _ _ h=>h.elim
end
abbrev TG:=V→St→Hp→(St→Hp→Prop)→Prop
abbrev TGs:=List V→St→Hp→(St→Hp→Prop)→Prop
def PG (X:Cx) (target:Expr) (t:TG):Prop :=
 ∀ (pins:List (Addr×Obj)) (s:Shared) (σ:St) (H:Hp) (v:V) (u:Value) (Q:St→Hp→Prop),Inv X pins σ H s→RelV v u→t v σ H Q →
  l_ (o_ X.prog X.w) X.A (J0 target X.env u) (fun _ s'=>∃ σ' H',Inv X pins σ' H' s'∧Q σ' H') X.xe s
def PGs (X:Cx) (ts:List Expr) (t:TGs):Prop :=
 ∀ (pins:List (Addr×Obj)) (s:Shared) (σ:St) (H:Hp) (vs:List V) (us:List Value) (Q:St→Hp→Prop),Inv X pins σ H s→Vals vs us→t vs σ H Q →
  l_ (o_ X.prog X.w) X.A (assignInOrder ((F8 ts X.env).map (·.2)) us) (fun _ s'=>∃ σ' H',Inv X pins σ' H' s'∧Q σ' H') X.xe s
section
variable {X:Cx} {pos:Pos}
def mC (i:Nat):TG:=fun v σ H Q=>Q (σ.set i (some v)) H
theorem gE {i:Nat} {x:Str} (hN:X.N.Nodup) (hi:X.N[i]?=some x) (hx:Loc X.env.scope x) (hf:X.fn x=true∨X.env.scope.names.lookup x=some .local:=by first | exact .inl rfl | exact .inr rfl | assumption):PG X (.Name x pos) (mC i):=by
 intro pins s σ H v u Q I r h
 exact wpAny_assign_Name (nS I hN hi hx r (fun s' I'=>⟨_,H,I',h⟩) hf)
def EH:TGs:=fun vs σ H Q=>vs=[]∧Q σ H
def Ce (t:TG) (u:TGs):TGs:=fun vs σ H Q=>∃ v r,vs=v :: r∧t v σ H fun σ' H'=>u r σ' H' Q
theorem wb:PGs X [] EH:=by
 intro pins s σ H vs us Q I r h
 obtain ⟨e,h⟩:=h
 subst e
 cases r
 exact assignInOrder_nil ⟨σ,H,I,h⟩
theorem nU {e:Expr} {es:List Expr} {t:TG} {u:TGs} (h1:PG X e t) (h2:PGs X es u)
 (hs:(F8 (e :: es) X.env).map (·.2)=J0 e X.env :: (F8 es X.env).map (·.2):=by rfl):PGs X (e :: es) (Ce t u):=by
 intro pins s σ H vs us Q I r h
 obtain ⟨v,vr,e1,h⟩:=h
 subst e1
 cases r with
 | cons r rr =>
  rw [hs]
  refine assignInOrder_cons (thn (h1 pins s σ H _ _ _ I r h) fun _ s1 ⟨σ1,H1,I1,q1⟩=>?_)
  exact h2 pins s1 σ1 H1 _ _ Q I1 rr q1
def EI (K:ck) (n:Nat) (t:TGs):TG:=fun v σ H Q=>∃ a xs,v=.ref a∧SqT K H a xs∧xs.length=n∧t xs σ H Q
theorem yY {es:List Expr} {k:Nat} {t:TGs} {n:Nat} (hc:X.calm=true) (h:PGs X es t)
 (hn:(F8 es X.env).length=n:=by rfl) (hst:(F8 es X.env).findIdx? (·.1)=none:=by rfl):PG X (.Tuple es k pos) (EI X.K n t):=by
 intro pins s σ H v u Q I r hw
 obtain ⟨a,xs,e1,hq,hl,hw⟩:=hw
 subst e1
 cases r
 obtain ⟨its,rv,ht,hz⟩:=I.tuple hq
 refine assign_Tuple_tuple (I.ok.hd hc) ht (by simp [hn,← hl,rv.length]) hst fun h' hx=>?_
 have I1:Inv X pins σ H { s with heap:=h' }:=I.kept (t':=s.toks) fun b o e=>hx b o (n_ (m_ e)) e
 exact h pins _ σ H xs _ Q I1 (by simpa using rv) hw
def EJ (te:TE) (g:TG):TS:=fun D σ H=>te σ H fun x H1=>g x σ H1 D.nx
theorem qj {i:Nat} {x:Str} {e:Expr} {te:TE} {pos':Pos} (hN:X.N.Nodup) (hi:X.N[i]?=some x) (hx:Loc X.env.scope x) (he:PE X e te) (hs:G8 e (some (.Name x pos')) pos.line X.env=pure false:=by rfl) (hf:X.fn x=true∨X.env.scope.names.lookup x=some .local:=by first | exact .inl rfl | exact .inr rfl | assumption) :
 PS X (.Assign [.Name x pos'] e pos) (EJ te (mC i)):=by
 intro pins s σ H D I h
 refine wpAny_Assign_Name (thn (he pins s σ H _ I h) fun v s1 ⟨y,H1,I1,r1,q1⟩=>?_) hs
 exact nS I1 hN hi hx r1 (fun s2 I2=>⟨_,H1,I2,q1⟩) hf
end
section
variable {X:Cx} {pos:Pos}
end
structure It where
 go:Nat→Hp→Prop
 yld:Nat→Hp→V→Hp→Prop
 stop:Nat→Hp→Prop
def nV (X:Cx) (pins:List (Addr×Obj)) (H:Hp) (b:Addr):Prop :=
 H b=none∧b≠X.env.locals∧b ∉ X.fs∧(b∈X.ex∨X.s₀.heap.objs.size≤b)∧(∀ x c,X.env.cells.lookup x=some c→c≠b)∧∀ p∈X.pn ++ pins,p.1≠b
theorem Inv.fpOk {X:Cx} {pins:List (Addr×Obj)} {σ:St} {H H':Hp} {s:Shared} {b:Addr} (I:Inv X pins σ H s) (hb:s.heap.objs.size≤b) (hn:H' b=none):nV X pins H' b:=by
 refine ⟨hn,Jw (x_ I.lt hb),I.nofs hb,.inr (FH I.sz hb),fun x c e z=>?_,fun p hp z=>?_⟩
 · obtain ⟨v,q⟩:=I.cell x c e
   exact absurd (x_ q.lt (by rw [z]; exact hb)) (Gy _)
 · exact absurd (x_ (m_ (I.pin p hp).1) (by rw [z]; exact hb)) (Gy _)
structure vp (P:Program) (w:uk) (K:ck) (tg:Expr) (J:It) (fp:List Addr) (it:Addr) (tn:Nat→Heap→Prop):Prop where
 mem:it∈fp
 obj:∀ i h,tn i h→∀ b∈fp,∃ o,h.get? b=some o∧∀ v,o.data≠.cell v
 keep:∀ i h h',tn i h→(∀ b∈fp,∀ o,h.get? b=some o→h'.get? b=some o)→tn i h'
 item:∀ (X:Cx),X.prog=P→X.w=w→X.K=K→X.calm=true→∀ (i:Nat) (pins:List (Addr×Obj)) (s:Shared) (σ:St) (H:Hp) (E:Value→Shared→Prop),Inv X pins σ H s→(∀ b∈fp,nV X pins H b)→tn i s.heap→J.go i H →
  l_ (o_ P w) X.A (Jn (.ref it)) (fun r s1=>∃ u,r=some u ∧
   l_ (o_ P w) X.A (JY tg (.ref it) u) (fun _ s2=>∃ x H',Inv X pins σ H' s2∧RelV x u∧J.yld i H x H'∧tn (i + 1) s2.heap∧∀ b∈fp,H' b=none) E s1) E s
 done:∀ (X:Cx),X.prog=P→X.w=w→X.K=K→X.calm=true→∀ (i:Nat) (pins:List (Addr×Obj)) (s:Shared) (σ:St) (H:Hp) (E:Value→Shared→Prop),Inv X pins σ H s→(∀ b∈fp,nV X pins H b)→tn i s.heap→J.stop i H →
  l_ (o_ P w) X.A (Jn (.ref it)) (fun r s1=>r=none∧Inv X pins σ H s1) E s
 self:∀ (A:q_) (i:Nat) (s:Shared) (Q:Value→Shared→Prop) (E:Value→Shared→Prop),tn i s.heap→Q (.ref it) s→l_ (o_ P w) A (Mj (.ref it)) Q E s
abbrev TI:=St→Hp→(It→Hp→Prop)→Prop
def PIE (X:Cx) (pins:List (Addr×Obj)) (σ:St) (tg:Expr) (R:It→Hp→Prop) (itv:Value) (s2:Shared):Prop :=
 ∃ (it:Addr) (fp:List Addr) (tn:Nat→Heap→Prop) (J:It) (H':Hp),itv=.ref it∧Inv X pins σ H' s2∧vp X.prog X.w X.K tg J fp it tn∧tn 0 s2.heap∧(∀ b∈fp,nV X pins H' b)∧R J H'
def PI (X:Cx) (tg iter:Expr) (wi:TI):Prop :=
 ∀ (pins:List (Addr×Obj)) (s:Shared) (σ:St) (H:Hp) (R:It→Hp→Prop),Inv X pins σ H s→wi σ H R →
  l_ (o_ X.prog X.w) X.A (eval iter X.env) (fun v s1=>l_ (o_ X.prog X.w) X.A (Mj v) (PIE X pins σ tg R) X.xe s1) X.xe s
theorem mD {M:LL} {A:q_} {E:Value→Shared→Prop} {s:Shared} {tg:Expr} {it:Addr} {u:Value} {o:Obj} {n:String} {vs:Array Value} {Q:Unit→Shared→Prop} (ho:s.heap.get? it=some o) (hc:o.cls=.type n) (hd:o.data=.fields vs)
 (hn:["enumerate","zip","dict_itemiterator","dict_reverseitemiterator","odict_iterator","itertools.zip_longest","itertools.pairwise"].contains n=false) (hQ:Q () s):l_ M A (JY tg (.ref it) u) Q E s:=by
 unfold JY
 cases tg <;> first
  | exact c_ hQ
  | (cases u <;> first
      | exact c_ hQ
      | (refine b_ (wpAny_load ho ?_)
         rw [hc,hd]
         show l_ M A (if (["enumerate","zip","dict_itemiterator","dict_reverseitemiterator","odict_iterator","itertools.zip_longest","itertools.pairwise"].contains n && vs[0]? == some (G2 _))=true then _ else _) Q E s
         rw [if_neg (by intro h; rw [hn,Bool.false_and] at h; cases h)]
         exact c_ hQ))
def Itl (K:ck) (a:Addr):It :=
 ⟨fun i H=>∃ xs x,SqL K H a xs∧xs[i]?=some x,fun i H x H'=>H'=H∧∀ xs,SqL K H a xs→xs[i]?=some x,fun i H=>∃ xs,SqL K H a xs∧xs.length≤i⟩
def Itt (K:ck) (a:Addr):It :=
 ⟨fun i H=>∃ xs x,SqT K H a xs∧xs[i]?=some x,fun i H x H'=>H'=H∧∀ xs,SqT K H a xs→xs[i]?=some x,fun i H=>∃ xs,SqT K H a xs∧xs.length≤i⟩
def Itr (lo:Int) (n:Nat):It:=⟨fun i _=>i < n,fun i H x H'=>H'=H∧x=.int (lo + i),fun i _=>n≤i⟩
theorem qk {P:Program} {w:uk} {K:ck} {tg:Expr} (a it:Addr):vp P w K tg (Itl K a) [it] it (fun i h=>h.IsListIter it a i) where
 mem:=by simp
 obj:=fun i h st b hb=>by
  have e:b=it:=by simpa using hb
  subst e
  obtain ⟨o,e,c,d⟩:=st
  exact ⟨o,e,fun v z=>by rw [d] at z; cases z⟩
 keep:=fun i h h' st k=>st.at fun o e=>k it (by simp) o e
 item:=by
  intro X hP hw hK hc i pins s σ H E I hf st hg
  subst hP hw hK
  obtain ⟨xs,x,hq,hx⟩:=hg
  obtain ⟨its,rv,p,hz⟩:=I.list hq
  obtain ⟨u,hu,ru⟩:=rv.get hx
  obtain ⟨f0,f1,f2,f3,f4,f5⟩:=hf it (by simp)
  refine wpAny_pyNext_list_item st p.isList (x:=u) (by simpa using hu) fun h' st' sb=>?_
  have I1:Inv X pins σ H { s with heap:=h' }:=I.turned (t':=s.toks) (fun b o hb e=>(sb.2 b hb).trans e) f0 f1 f3 f4 f5
  obtain ⟨o,e,c,d⟩:=id st'
  exact ⟨u,rfl,mD (s:={ s with heap:=h' }) e c d (by decide) ⟨x,H,I1,ru,⟨rfl,fun ys hy=>by rw [I.list_inj hy hq]; exact hx⟩,st',fun b hb=>(hf b hb).1⟩⟩
 done:=by
  intro X hP hw hK hc i pins s σ H E I hf st hg
  subst hP hw hK
  obtain ⟨xs,hq,hx⟩:=hg
  obtain ⟨its,rv,p,hz⟩:=I.list hq
  obtain ⟨f0,f1,f2,f3,f4,f5⟩:=hf it (by simp)
  have hl:=rv.length
  exact wpAny_pyNext_list_end (I.ok.hd hc) st p.isList (by simp; omega) fun h' eb=>⟨rfl,I.turned (t':=s.toks) (fun b o hb e=>eb b o hb e) f0 f1 f3 f4 f5⟩
 self:=fun _ _ _ _ _ st h=>wpAny_pyIter_listiter st h
theorem pq {P:Program} {w:uk} {K:ck} {tg:Expr} (a it:Addr):vp P w K tg (Itt K a) [it] it (fun i h=>h.IsTupleIter it a i) where
 mem:=by simp
 obj:=fun i h st b hb=>by
  have e:b=it:=by simpa using hb
  subst e
  obtain ⟨o,e,c,d⟩:=st
  exact ⟨o,e,fun v z=>by rw [d] at z; cases z⟩
 keep:=fun i h h' st k=>st.at fun o e=>k it (by simp) o e
 item:=by
  intro X hP hw hK hc i pins s σ H E I hf st hg
  subst hP hw hK
  obtain ⟨xs,x,hq,hx⟩:=hg
  obtain ⟨its,rv,p,hz⟩:=I.tuple hq
  obtain ⟨u,hu,ru⟩:=rv.get hx
  obtain ⟨f0,f1,f2,f3,f4,f5⟩:=hf it (by simp)
  refine wpAny_pyNext_tuple_item st (show s.heap.IsTuple a its.toArray from p) (x:=u) (by simpa using hu) fun h' st' sb=>?_
  have I1:Inv X pins σ H { s with heap:=h' }:=I.turned (t':=s.toks) (fun b o hb e=>(sb.2 b hb).trans e) f0 f1 f3 f4 f5
  obtain ⟨o,e,c,d⟩:=id st'
  exact ⟨u,rfl,mD (s:={ s with heap:=h' }) e c d (by decide) ⟨x,H,I1,ru,⟨rfl,fun ys hy=>by rw [I.tuple_inj hy hq]; exact hx⟩,st',fun b hb=>(hf b hb).1⟩⟩
 done:=by
  intro X hP hw hK hc i pins s σ H E I hf st hg
  subst hP hw hK
  obtain ⟨xs,hq,hx⟩:=hg
  obtain ⟨its,rv,p,hz⟩:=I.tuple hq
  obtain ⟨f0,f1,f2,f3,f4,f5⟩:=hf it (by simp)
  have hl:=rv.length
  exact wpAny_pyNext_tuple_end (I.ok.hd hc) st (show s.heap.IsTuple a its.toArray from p) (by simp; omega) fun h' eb=>⟨rfl,I.turned (t':=s.toks) (fun b o hb e=>eb b o hb e) f0 f1 f3 f4 f5⟩
 self:=fun _ _ _ _ _ st h=>wpAny_pyIter_tupleiter st h
theorem pr {P:Program} {w:uk} {K:ck} {tg:Expr} (it:Addr) (lo:Int) (n:Nat):vp P w K tg (Itr lo n) [it] it (fun i h=>IsRangeIter h it (lo + (i:Nat) * 1) ((n:Int) - (i:Nat)) 1) where
 mem:=by simp
 obj:=fun i h st b hb=>by
  have e:b=it:=by simpa using hb
  subst e
  exact ⟨_,st,fun v z=>by
   have z':LO _=Data.cell v:=z
   cases z'⟩
 keep:=fun i h h' st k=>k it (by simp) _ st
 item:=by
  intro X hP hw hK hc i pins s σ H E I hf st hg
  subst hP hw hK
  obtain ⟨f0,f1,f2,f3,f4,f5⟩:=hf it (by simp)
  have W:=Walks.range (prog:=X.prog) (w:=X.w) (I.ok.hd hc) it lo 1 n
  refine W.item i s _ _ hg st fun v h' tk hv st' kk=>?_
  obtain ⟨t,rfl⟩:=hv
  have I1:Inv X pins σ H { s with heap:=h',toks:=tk }:=I.turned (fun b o hb e=>kk b o (by simpa using hb) e) f0 f1 f3 f4 f5
  refine ⟨_,rfl,mD (s:={ s with heap:=h',toks:=tk }) (n:="range_iterator") st' rfl rfl (by decide) ⟨.int (lo + i),H,I1,⟨t,?_⟩,⟨rfl,rfl⟩,st',fun b hb=>(hf b hb).1⟩⟩
  rw [Int.mul_one]
 done:=by
  intro X hP hw hK hc i pins s σ H E I hf st hg
  subst hP hw hK
  obtain ⟨f0,f1,f2,f3,f4,f5⟩:=hf it (by simp)
  exact wpAny_pyNext_range_end (I.ok.hd hc) st (by have:n≤i:=hg; omega) fun h' eb=>⟨rfl,I.turned (t':=s.toks) (fun b o hb e=>eb b o hb e) f0 f1 f3 f4 f5⟩
 self:=fun _ _ _ _ _ st h=>wpAny_pyIter_rangeiter st h
section
variable {X:Cx} {tg:Expr}
theorem nW {pins:List (Addr×Obj)} {σ:St} {H:Hp} {s:Shared} {R:It→Hp→Prop} {E:Value→Shared→Prop} {lo hi:Int} {t u v:Tok} {tk:Nat} (I:Inv X pins σ H s) (h1:-(2 ^ 62)≤lo) (h2:lo < 2 ^ 62) (h3:-(2 ^ 62)≤hi) (h4:hi < 2 ^ 62)
 (q:R (Itr lo (hi - lo).toNat) H):l_ (o_ X.prog X.w) X.A (Mj (.ref s.heap.objs.size)) (PIE X pins σ tg R) E { s with heap:=s.heap.push { cls:=.type "range",data:=.fields #[.int lo t,.int hi u,.int 1 v] },toks:=tk }:=by
 refine wpAny_pyIter_range (IsRange.new ..) (small_one h1 h2 h3 h4) ?_
 have I1:Inv X pins σ H { s with heap:=s.heap.push { cls:=.type "range",data:=.fields #[.int lo t,.int hi u,.int 1 v] },toks:=tk }:=I.kept fun b o e=>d_ _ e
 refine ⟨(s.heap.push { cls:=.type "range",data:=.fields #[.int lo t,.int hi u,.int 1 v] }).objs.size,[(s.heap.push { cls:=.type "range",data:=.fields #[.int lo t,.int hi u,.int 1 v] }).objs.size],_,_,H,rfl,
  I1.kept (t':=tk) fun b o e=>d_ _ e,pr _ lo (hi - lo).toNat,?_,fun b hb=>?_,q⟩
 · have e1:lo + ((0:Nat):Int) * 1=lo:=by simp
   have e2:(((hi - lo).toNat:Nat):Int) - ((0:Nat):Int)=Builtin.Range.rangeSize lo hi 1:=by rw [rangeSize_one]; split <;> omega
   show IsRangeIter _ _ (lo + ((0:Nat):Int) * 1) ((((hi - lo).toNat:Nat):Int) - ((0:Nat):Int)) 1
   rw [e1,e2]
   exact h_ _ rfl
 · have e:b=(s.heap.push { cls:=.type "range",data:=.fields #[.int lo t,.int hi u,.int 1 v] }).objs.size:=by simpa using hb
   subst e
   exact I1.fpOk (j_ _) (I1.hok.fresh (j_ _))
def Cf (ta:TA):TI:=fun σ H R=>ta σ H fun vs H1=>∃ j:Int,vs=[.int j]∧-(2 ^ 62)≤j∧j < 2 ^ 62∧R (Itr 0 j.toNat) H1
def Cg (ta:TA):TI:=fun σ H R=>ta σ H fun vs H1=>∃ i j:Int,vs=[.int i,.int j]∧(-(2 ^ 62)≤i∧i < 2 ^ 62∧-(2 ^ 62)≤j∧j < 2 ^ 62)∧R (Itr i (j - i).toNat) H1
theorem ql {a:Expr} {ta:TA} {p pos:Pos} (hg:Gl X "range") (hm:X.mg "range"=none) (ha:PA X [a] ta) (hs:e_ [a] X.env=[(false,eval a X.env)]:=by rfl):PI X tg (.Call (.Name "range" p) [a] [] pos) (Cf ta):=by
 intro pins s σ H R I h
 refine Call_ (cZ I hg hm boot_range (Ge (thn (ha pos pins s σ H _ I h) fun us s1 ⟨vs,H1,I1,r1,q1⟩=>?_) hs rfl))
 obtain ⟨j,e,q1,q2,q⟩:=q1
 subst e
 cases r1 with
 | cons r rr =>
  cases rr
  obtain ⟨t,rfl⟩:=r
  exact call_range_1 (nW I1 (by omega) (by omega) q1 q2 (by simpa using q))
theorem qm {a b:Expr} {ta:TA} {p pos:Pos} (hg:Gl X "range") (hm:X.mg "range"=none) (ha:PA X [a,b] ta) (hs:e_ [a,b] X.env=[(false,eval a X.env),(false,eval b X.env)]:=by rfl) (hs2:e_ [b] X.env=[(false,eval b X.env)]:=by rfl) :
 PI X tg (.Call (.Name "range" p) [a,b] [] pos) (Cg ta):=by
 intro pins s σ H R I h
 refine Call_ (cZ I hg hm boot_range (Ge (thn (ha pos pins s σ H _ I h) fun us s1 ⟨vs,H1,I1,r1,q1⟩=>?_) (by rw [hs,hs2]) (by rw [hs2]; rfl)))
 obtain ⟨i,j,e,⟨q1,q2,q3,q4⟩,q⟩:=q1
 subst e
 cases r1 with
 | cons r rr =>
  cases rr with
  | cons r' rr =>
   cases rr
   obtain ⟨t,rfl⟩:=r
   obtain ⟨t',rfl⟩:=r'
   exact call_range_2 (nW I1 q1 q2 q3 q4 q)
def EK (wi:TI) (g:TG) (tb:TS):TS:=fun D σ H=>wi σ H fun J H1=>∃ W:Nat→Nat→St→Hp→Prop,(∃ m,W 0 m σ H1)∧∀ i m σ H,W i m σ H →
 (J.stop i H∧D.nx σ H)∨(J.go i H∧∃ N:St→Hp→Prop,(∀ σ' H',N σ' H'→∃ m',m' < m∧W (i + 1) m' σ' H')∧∀ x H',J.yld i H x H'→g x σ H' fun σ2 H2=>tb { D with nx:=N,ct:=N,bk:=D.nx } σ2 H2)
def cf (fp:List Addr) (h:Heap):List (Addr×Obj):=fp.filterMap fun b=>(h.get? b).map fun o=>(b,o)
theorem bR {fp:List Addr} {h:Heap} {b:Addr} {o:Obj} (hb:b∈fp) (e:h.get? b=some o):(b,o)∈cf fp h:=Mq.mpr ⟨b,hb,by rw [e]; rfl⟩
theorem iC {fp:List Addr} {h:Heap} {p:Addr×Obj} (hp:p∈cf fp h):p.1∈fp∧h.get? p.1=some p.2:=by
 obtain ⟨b,hb,e⟩:=Mq.mp hp
 cases q:h.get? b with
 | none=>rw [q] at e; cases e
 | some o =>
  rw [q] at e
  have e':(b,o)=p:=FU e
  subst e'
  exact ⟨hb,q⟩
theorem Inv.pinned {pins:List (Addr×Obj)} {σ:St} {H:Hp} {s:Shared} {fp:List Addr} (I:Inv X pins σ H s) (hf:∀ b∈fp,nV X pins H b) (ho:∀ b∈fp,∃ o,s.heap.get? b=some o∧∀ v,o.data≠.cell v):Inv X (pins ++ cf fp s.heap) σ H s :=
 I.pins_of fun p hp=>(Gj.mp hp).elim (fun z=>I.pin p (pi _ z)) fun z=>by
  obtain ⟨hb,e⟩:=iC z
  obtain ⟨f0,f1,f2,_⟩:=hf p.1 hb
  obtain ⟨o,e',d⟩:=ho p.1 hb
  rw [e] at e'; cases e'
  exact ⟨e,f0,f1,f2,d⟩
theorem Inv.unpinned {pins pl:List (Addr×Obj)} {σ:St} {H:Hp} {s:Shared} (I:Inv X (pins ++ pl) σ H s):Inv X pins σ H s:=I.pins_of fun p hp=>I.pin p (pi _ (F_ _ hp))
theorem qo {iter:Expr} {body:List Stmt} {wi:TI} {g:TG} {tb:TS} {pos:Pos} (hp:Kh (o_ X.prog X.w) X.A X.env X.xe) (hc:X.calm=true) (hi:PI X tg iter wi) (hg:PG X tg g) (hb:PSs X body tb)
 (hs:∀ x,FL iter X.env x=pure x:=by intro _; rfl):PS X (.For tg iter body [] pos) (EK wi g tb):=by
 intro pins s σ H D I h
 refine wpAny_For (thn (hi pins s σ H _ I h) fun v s1 h1=>thn h1 fun itv s2 h2=>?_) hs
 obtain ⟨it,fp,tn,J,H2,e,I2,T,st2,f2,W,⟨m0,w0⟩,turn⟩:=h2
 subst e
 have stat:∀ {H':Hp},(∀ b∈fp,H' b=none)→∀ b∈fp,nV X pins H' b:=fun hn b hb=>⟨hn b hb,(f2 b hb).2⟩
 refine codeAny_forLoop_any (fun n s'=>∃ i σ' H',Inv X pins σ' H' s'∧tn i s'.heap∧(∀ b∈fp,H' b=none)∧W i n σ' H') ?_ m0 ⟨0,σ,H2,I2,st2,fun b hb=>(f2 b hb).1,w0⟩
 rintro n s3 ⟨i,σ3,H3,I3,st3,fr3,w3⟩
 rcases turn i n σ3 H3 w3 with ⟨stop,qn⟩ | ⟨go,N,hN,step⟩
 · refine IQ hp (thn (T.done X rfl rfl rfl hc i pins s3 σ3 H3 X.xe I3 (stat fr3) st3 stop) fun r s4 ⟨hr,I4⟩=>?_)
   subst hr
   exact Lo ⟨σ3,H3,I4,qn⟩
 · refine IQ hp (thn (T.item X rfl rfl rfl hc i pins s3 σ3 H3 X.xe I3 (stat fr3) st3 go) fun r s4 ⟨u,hr,h4⟩=>?_)
   subst hr
   refine IQ hp (thn h4 fun _ s5 ⟨x,H5,I5,r5,y5,st5,fr5⟩=>?_)
   have I5':=I5.pinned (stat fr5) (T.obj _ _ st5)
   refine IQ hp (thn (hg _ s5 σ3 H5 x u _ I5' r5 (step x H5 y5)) fun _ s6 ⟨σ6,H6,I6,q6⟩=>?_)
   refine IQ hp (thn (hb _ s6 σ6 H6 _ I6 q6) fun f s7 q7=>?_)
   have Np:∀ {σ7:St} {H7:Hp},Inv X (pins ++ cf fp s5.heap) σ7 H7 s7→N σ7 H7→∃ m,m < n∧∃ i σ' H',Inv X pins σ' H' s7∧tn i s7.heap∧(∀ b∈fp,H' b=none)∧W i m σ' H':=fun {σ7 H7} I7 n7=>by
    obtain ⟨m',hm,w7⟩:=hN σ7 H7 n7
    refine ⟨m',hm,i + 1,σ7,H7,I7.unpinned,T.keep _ _ _ st5 fun b hb o e=>(I7.pin (b,o) (pi _ (pi _ (bR hb e)))).1,fun b hb=>?_,w7⟩
    obtain ⟨o,e,d⟩:=T.obj _ _ st5 b hb
    exact (I7.pin (b,o) (pi _ (pi _ (bR hb e)))).2.1
   cases f with
   | next=>obtain ⟨σ7,H7,I7,n7⟩:=q7; exact Np I7 n7
   | cont=>obtain ⟨σ7,H7,I7,n7⟩:=q7; exact Np I7 n7
   | brk=>obtain ⟨σ7,H7,I7,q7⟩:=q7; exact ⟨σ7,H7,I7.unpinned,q7⟩
   | ret v=>obtain ⟨x7,σ7,H7,I7,r7,q7⟩:=q7; exact ⟨x7,σ7,H7,I7.unpinned,r7,q7⟩
end
abbrev R2:=V→V→Hp→VK→Prop
def OpR (X:Cx) (f:Value→Value→Sem Value) (r:R2):Prop :=
 ∀ (pins:List (Addr×Obj)) (s:Shared) (σ:St) (H:Hp) (x y:V) (v u:Value) (Q:VK),Inv X pins σ H s→RelV x v→RelV y u→r x y H Q →
  l_ (o_ X.prog X.w) X.A (f v u) (EP X pins σ Q) X.xe s
def UnR (X:Cx) (f:Value→Sem Value) (r:V→Hp→VK→Prop):Prop :=
 ∀ (pins:List (Addr×Obj)) (s:Shared) (σ:St) (H:Hp) (x:V) (v:Value) (Q:VK),Inv X pins σ H s→RelV x v→r x H Q →
  l_ (o_ X.prog X.w) X.A (f v) (EP X pins σ Q) X.xe s
def CallR (X:Cx) (f:Value) (r:List V→Hp→VK→Prop):Prop :=
 ∀ (pins:List (Addr×Obj)) (s:Shared) (σ:St) (H:Hp) (xs:List V) (us:List Value) (Q:VK),Inv X pins σ H s→Vals xs us→r xs H Q →
  l_ (o_ X.prog X.w) X.A (call f us) (EP X pins σ Q) X.xe s
def tOp (r:R2) (ta tb:TE):TE:=fun σ H Q=>ta σ H fun x H1=>tb σ H1 fun y H2=>r x y H2 Q
def tUn (r:V→Hp→VK→Prop) (ta:TE):TE:=fun σ H Q=>ta σ H fun x H1=>r x H1 Q
def rI (C:Int→Int→Prop) (g:Int→Int→V):R2:=fun x y H Q=>∃ i j,x=.int i∧y=.int j∧C i j∧Q (g i j) H
def rI0 (g:Int→Int→V):R2:=fun x y H Q=>∃ i j,x=.int i∧y=.int j∧Q (g i j) H
def rU (g:Int→V):V→Hp→VK→Prop:=fun x H Q=>∃ i,x=.int i∧Q (g i) H
section
variable {X:Cx} {a b c:Expr} {ta tb tc:TE} {pos:Pos}
theorem Ch (ha:PE X a ta) (hb:PE X b tb) {pins:List (Addr×Obj)} {s:Shared} {σ:St} {H:Hp} {R:V→V→Hp→Prop} (I:Inv X pins σ H s)
 (h:ta σ H fun x H1=>tb σ H1 fun y H2=>R x y H2) {Q:Value→Shared→Prop} {f:Value→Value→Sem Value}
 (hf:∀ v u s2 x y H2,Inv X pins σ H2 s2→RelV x v→RelV y u→R x y H2→l_ (o_ X.prog X.w) X.A (f v u) Q X.xe s2) :
 l_ (o_ X.prog X.w) X.A (eval a X.env) (fun v s₁=>l_ (o_ X.prog X.w) X.A (eval b X.env) (fun u s₂=>l_ (o_ X.prog X.w) X.A (f v u) Q X.xe s₂) X.xe s₁) X.xe s:=by
 refine thn (ha pins s σ H _ I h) fun v s1 ⟨x,H1,I1,r1,q1⟩=>?_
 refine thn (hb pins s1 σ H1 _ I1 q1) fun u s2 ⟨y,H2,I2,r2,q2⟩=>?_
 exact hf v u s2 x y H2 I2 r1 r2 q2
theorem Ci {op:Operator} {r:R2} (ho:OpR X (Hz op) r) (ha:PE X a ta) (hb:PE X b tb):PE X (.BinOp a op b pos) (tOp r ta tb):=by
 intro pins s σ H Q I h
 exact wpAny_BinOp (Ch ha hb I h fun v u s2 x y H2 I2 rx ry q=>ho pins s2 σ H2 x y v u Q I2 rx ry q)
theorem Cj {op:UnaryOp} {r:V→Hp→VK→Prop} (ho:UnR X (unaryOp op) r) (ha:PE X a ta):PE X (.UnaryOp op a pos) (tUn r ta):=by
 intro pins s σ H Q I h
 exact UnaryOp_ (thn (ha pins s σ H _ I h) fun v s1 ⟨x,H1,I1,r1,q1⟩=>ho pins s1 σ H1 x v Q I1 r1 q1)
theorem opI {f:Value→Value→Sem Value} {C:Int→Int→Prop} {g:Int→Int→Int}
 (rule:∀ (i j:Int) (t u:Tok) (s:Shared) (Q:Value→Shared→Prop) (E:Value→Shared→Prop),C i j→Q (.int (g i j) s.toks) { s with toks:=s.toks + 1 }→l_ (o_ X.prog X.w) X.A (f (.int i t) (.int j u)) Q E s) :
 OpR X f (rI C fun i j=>.int (g i j)):=by
 intro pins s σ H x y v u Q I rx ry h
 obtain ⟨i,j,rfl,rfl,hc,q⟩:=h
 obtain ⟨t,rfl⟩:=rx
 obtain ⟨t',rfl⟩:=ry
 exact rule i j t t' s _ _ hc ⟨.int (g i j),H,I.tok _,⟨_,rfl⟩,q⟩
theorem D6 {f:Value→Value→Sem Value} {g:Int→Int→Int}
 (rule:∀ (i j:Int) (t u:Tok) (s:Shared) (Q:Value→Shared→Prop) (E:Value→Shared→Prop),Q (.int (g i j) s.toks) { s with toks:=s.toks + 1 }→l_ (o_ X.prog X.w) X.A (f (.int i t) (.int j u)) Q E s) :
 OpR X f (rI0 fun i j=>.int (g i j)):=by
 intro pins s σ H x y v u Q I rx ry h
 obtain ⟨i,j,rfl,rfl,q⟩:=h
 obtain ⟨t,rfl⟩:=rx
 obtain ⟨t',rfl⟩:=ry
 exact rule i j t t' s _ _ ⟨.int (g i j),H,I.tok _,⟨_,rfl⟩,q⟩
theorem Ck {f:Value→Value→Sem Value} {g:Int→Int→Bool}
 (rule:∀ (i j:Int) (t u:Tok) (s:Shared) (Q:Value→Shared→Prop) (E:Value→Shared→Prop),Q (.bool (g i j)) s→l_ (o_ X.prog X.w) X.A (f (.int i t) (.int j u)) Q E s) :
 OpR X f (rI0 fun i j=>.bl (g i j)):=by
 intro pins s σ H x y v u Q I rx ry h
 obtain ⟨i,j,rfl,rfl,q⟩:=h
 obtain ⟨t,rfl⟩:=rx
 obtain ⟨t',rfl⟩:=ry
 exact rule i j t t' s _ _ ⟨.bl (g i j),H,I,rfl,q⟩
def D7 (i j:Int):Prop:=0 < j∧j < 1073741824
def CMul (i j:Int):Prop:=(-(2 ^ 64) < i∧i < 2 ^ 64)∨(-(2 ^ 64) < j∧j < 2 ^ 64)
theorem CMul.ok {i j:Int} (h:CMul i j):IntMulOk i j:=by
 rcases h with ⟨h1,h2⟩ | ⟨h1,h2⟩
 · exact .of_left (intBits_le_64 h1 h2)
 · exact .of_right (intBits_le_64 h1 h2)
theorem op_add:OpR X (Hz .Add) (rI0 fun i j=>.int (i + j)):=D6 fun _ _ _ _ _ _ _ q=>add_int q
theorem yZ:OpR X (Hz .Sub) (rI0 fun i j=>.int (i - j)):=D6 fun _ _ _ _ _ _ _ q=>sub_int q
theorem y0:OpR X (Hz .Mult) (rI CMul fun i j=>.int (i * j)):=opI fun _ _ _ _ _ _ _ hc q=>mul_int q hc.ok
theorem wc:OpR X (Hz .FloorDiv) (rI D7 fun i j=>.int (i / j)):=opI fun i j _ _ _ _ _ hc q=>by
 have h1:(0:Int) < j:=hc.1
 have h2:j < 1073741824:=hc.2
 exact floordiv_int (by omega) (by rw [Int.fdiv_eq_ediv_of_nonneg i (by omega)]; exact q) (.inl (PyProof.noPylong_small (by omega)))
theorem y3:OpR X (Hz .Mod) (rI (fun _ j=>0 < j) fun i j=>.int (i % j)):=opI fun i j _ _ _ _ _ hc q=>by
 have h1:(0:Int) < j:=hc
 exact mod_int' (by omega) (by rw [Int.fmod_eq_emod_of_nonneg i (by omega)]; exact q)
theorem unI {f:Value→Sem Value} {g:Int→Int}
 (rule:∀ (i:Int) (t:Tok) (s:Shared) (Q:Value→Shared→Prop) (E:Value→Shared→Prop),Q (.int (g i) s.toks) { s with toks:=s.toks + 1 }→l_ (o_ X.prog X.w) X.A (f (.int i t)) Q E s) :
 UnR X f (rU fun i=>.int (g i)):=by
 intro pins s σ H x v Q I rx h
 obtain ⟨i,rfl,q⟩:=h
 obtain ⟨t,rfl⟩:=rx
 exact rule i t s _ _ ⟨.int (g i),H,I.tok _,⟨_,rfl⟩,q⟩
theorem y4:UnR X (unaryOp .USub) (rU fun i=>.int (-i)):=unI fun _ _ _ _ _ q=>neg_int q
end
def Co:V→V→Bool
 | .non,.non=>true | .non,.int _=>true | .int _,.non=>true | .non,.bl _=>true | .bl _,.non=>true | .non,.str _=>true | .str _,.non=>true
 | .int _,.int _=>true | .bl _,.bl _=>true | .str _,.str _=>true | .byt _,.byt _=>true
 | .int _,.str _=>true | .str _,.int _=>true | .bl _,.str _=>true | .str _,.bl _=>true
 | _,_=>false
def rEq:R2:=fun x y H Q=>Co x y=true∧Q (.bl (decide (x=y))) H
def rNe:R2:=fun x y H Q=>Co x y=true∧Q (.bl (!decide (x=y))) H
theorem mE {i j:Int}:decide (V.int i=V.int j)=(i == j):=by
 rw [FY]
 simp
theorem qp {i j:Bool}:decide (V.bl i=V.bl j)=(i == j):=by
 rw [FY]
 simp
theorem mF {i j:Str}:decide (V.str i=V.str j)=(i == j):=by
 rw [FY]
 simp
theorem qr {i j:Array UInt8}:decide (V.byt i=V.byt j)=(i.toList == j.toList):=by
 rw [FY]
 cases i
 cases j
 simp
section
variable {X:Cx} {a b c:Expr} {ta tb tc:TE} {pos:Pos}
theorem aJ {pins:List (Addr×Obj)} {σ:St} {H:Hp} {s:Shared} {Q:VK} {k k':Bool} (I:Inv X pins σ H s) (q:Q (.bl k) H) (e:k=k'):EP X pins σ Q (.bool k') s:=by
 subst e
 exact ⟨.bl k,H,I,rfl,q⟩
theorem op_eq:OpR X (FJ .Eq) rEq:=by
 intro pins s σ H x y v u Q I rx ry h
 obtain ⟨hs,q⟩:=h
 cases x with
 | non =>
  cases rx
  cases y with
  | non=>cases ry; exact PySem.EqNone.eq_none_none (aJ I q (by simp))
  | bl j=>cases ry; exact PySem.EqNone.eq_none_bool (aJ I q (by simp))
  | int j=>obtain ⟨t',rfl⟩:=ry; exact PySem.EqNone.eq_none_int (aJ I q (by simp))
  | str j=>obtain ⟨t',rfl⟩:=ry; exact PySem.EqNone.eq_none_str (aJ I q (by simp))
  | _=>exact absurd (show false=true from hs) rl
 | bl i =>
  cases rx
  cases y with
  | non=>cases ry; exact PySem.EqNone.eq_bool_none (aJ I q (by simp))
  | bl j=>cases ry; exact eq_bool (aJ I q qp)
  | str j=>obtain ⟨t',rfl⟩:=ry; exact PySem.EqMixed.eq_bool_str (aJ I q (by simp))
  | _=>exact absurd (show false=true from hs) rl
 | int i =>
  obtain ⟨t,rfl⟩:=rx
  cases y with
  | non=>cases ry; exact PySem.EqNone.eq_int_none (aJ I q (by simp))
  | int j=>obtain ⟨t',rfl⟩:=ry; exact eq_int (aJ I q mE)
  | str j=>obtain ⟨t',rfl⟩:=ry; exact PySem.EqMixed.eq_int_str (aJ I q (by simp))
  | _=>exact absurd (show false=true from hs) rl
 | str i =>
  obtain ⟨t,rfl⟩:=rx
  cases y with
  | non=>cases ry; exact PySem.EqNone.eq_str_none (aJ I q (by simp))
  | bl j=>cases ry; exact PySem.EqMixed.eq_str_bool (aJ I q (by simp))
  | int j=>obtain ⟨t',rfl⟩:=ry; exact PySem.EqMixed.eq_str_int (aJ I q (by simp))
  | str j=>obtain ⟨t',rfl⟩:=ry; exact eq_str (aJ I q mF)
  | _=>exact absurd (show false=true from hs) rl
 | byt i =>
  obtain ⟨t,rfl⟩:=rx
  cases y with
  | byt j=>obtain ⟨t',rfl⟩:=ry; exact PySem.W.eq_bytes (aJ I q qr)
  | _=>exact absurd (show false=true from hs) rl
 | _=>cases y <;> exact absurd (show false=true from hs) rl
theorem op_ne:OpR X (FJ .NotEq) rNe:=by
 intro pins s σ H x y v u Q I rx ry h
 obtain ⟨hs,q⟩:=h
 cases x with
 | non =>
  cases rx
  cases y with
  | non=>cases ry; exact PySem.EqNone.ne_none_none (aJ I q (by simp))
  | bl j=>cases ry; exact PySem.EqNone.ne_none_bool (aJ I q (by simp))
  | int j=>obtain ⟨t',rfl⟩:=ry; exact PySem.EqNone.ne_none_int (aJ I q (by simp))
  | str j=>obtain ⟨t',rfl⟩:=ry; exact PySem.EqNone.ne_none_str (aJ I q (by simp))
  | _=>exact absurd (show false=true from hs) rl
 | bl i =>
  cases rx
  cases y with
  | non=>cases ry; exact PySem.EqNone.ne_bool_none (aJ I q (by simp))
  | bl j=>cases ry; exact ne_bool (aJ I q (congrArg not qp))
  | str j=>obtain ⟨t',rfl⟩:=ry; exact PySem.EqMixed.ne_bool_str (aJ I q (by simp))
  | _=>exact absurd (show false=true from hs) rl
 | int i =>
  obtain ⟨t,rfl⟩:=rx
  cases y with
  | non=>cases ry; exact PySem.EqNone.ne_int_none (aJ I q (by simp))
  | int j=>obtain ⟨t',rfl⟩:=ry; exact ne_int (aJ I q (congrArg not mE))
  | str j=>obtain ⟨t',rfl⟩:=ry; exact PySem.EqMixed.ne_int_str (aJ I q (by simp))
  | _=>exact absurd (show false=true from hs) rl
 | str i =>
  obtain ⟨t,rfl⟩:=rx
  cases y with
  | non=>cases ry; exact PySem.EqNone.ne_str_none (aJ I q (by simp))
  | bl j=>cases ry; exact PySem.EqMixed.ne_str_bool (aJ I q (by simp))
  | int j=>obtain ⟨t',rfl⟩:=ry; exact PySem.EqMixed.ne_str_int (aJ I q (by simp))
  | str j=>obtain ⟨t',rfl⟩:=ry; exact ne_str (aJ I q (congrArg not mF))
  | _=>exact absurd (show false=true from hs) rl
 | byt i =>
  obtain ⟨t,rfl⟩:=rx
  cases y with
  | byt j=>obtain ⟨t',rfl⟩:=ry; exact PySem.W.ne_bytes (aJ I q (congrArg not qr))
  | _=>exact absurd (show false=true from hs) rl
 | _=>cases y <;> exact absurd (show false=true from hs) rl
theorem op_lt:OpR X (FJ .Lt) (rI0 fun i j=>.bl (decide (i < j))):=Ck fun _ _ _ _ _ _ _ q=>lt_int q
theorem op_le:OpR X (FJ .LtE) (rI0 fun i j=>.bl (decide (i≤j))):=Ck fun _ _ _ _ _ _ _ q=>le_int q
theorem Cp:OpR X (FJ .Gt) (rI0 fun i j=>.bl (decide (j < i))):=Ck fun _ _ _ _ _ _ _ q=>gt_int q
theorem qt:OpR X (FJ .Lt) (fun x y H Q=>∃ i j,x=.str i∧y=.str j∧Q (.bl (decide (i.cps.toList < j.cps.toList))) H):=by
 intro pins s σ H x y v u Q I rx ry h
 obtain ⟨i,j,rfl,rfl,q⟩:=h
 obtain ⟨t,rfl⟩:=rx
 obtain ⟨t',rfl⟩:=ry
 exact lt_str (aJ I q rfl)
theorem op_in_str:OpR X (FJ .In) (fun x y H Q=>∃ i j,x=.str i∧y=.str j∧Q (.bl (!(Gk j i 0 j.length 1).isEmpty)) H):=by
 intro pins s σ H x y v u Q I rx ry h
 obtain ⟨i,j,rfl,rfl,q⟩:=h
 obtain ⟨t,rfl⟩:=rx
 obtain ⟨t',rfl⟩:=ry
 exact in_str (aJ I q rfl)
theorem vq:OpR X (FJ .Is) (fun x y H Q=>y=.non∧Q (.bl (decide (x=.non))) H):=by
 intro pins s σ H x y v u Q I rx ry h
 obtain ⟨rfl,q⟩:=h
 cases ry
 refine is_none_gen (aJ I q ?_)
 cases x <;> first
  | (cases rx; rfl)
  | (obtain ⟨t,rfl⟩:=rx; rfl)
theorem we:OpR X (FJ .IsNot) (fun x y H Q=>y=.non∧Q (.bl (!decide (x=.non))) H):=by
 intro pins s σ H x y v u Q I rx ry h
 obtain ⟨rfl,q⟩:=h
 cases ry
 refine isnot_none_gen (aJ I q ?_)
 cases x <;> first
  | (cases rx; rfl)
  | (obtain ⟨t,rfl⟩:=rx; rfl)
theorem OpR.or {f:Value→Value→Sem Value} {r r':R2} (h:OpR X f r) (h':OpR X f r'):OpR X f (fun x y H Q=>r x y H Q∨r' x y H Q):=by
 intro pins s σ H x y v u Q I rx ry q
 rcases q with q | q
 · exact h pins s σ H x y v u Q I rx ry q
 · exact h' pins s σ H x y v u Q I rx ry q
theorem D8 (b:Expr) {op:CmpOp} (h:op≠.In:=by decide) (h2:op≠.NotIn:=by decide):Fz op b=false:=by
 have e1:(op == CmpOp.In)=false:=by cases op <;> first | rfl | exact absurd rfl h
 have e2:(op == CmpOp.NotIn)=false:=by cases op <;> first | rfl | exact absurd rfl h2
 cases b <;> simp [Fz,e1,e2]
theorem wf {op:CmpOp} {r:R2} (ho:OpR X (FJ op) r) (ha:PE X a ta) (hb:PE X b tb) (hm:Fz op b=false):PE X (.Compare a [op] [b] pos) (tOp r ta tb):=by
 intro pins s σ H Q I h
 exact wpAny_Compare1 (Ch ha hb I h fun v u s2 x y H2 I2 rx ry q=>ho pins s2 σ H2 x y v u Q I2 rx ry q) hm
def Cq (t:TE):TT:=fun σ H Q=>t σ H fun x H'=>∃ k,x=.bl k∧Q k H'
theorem wg {op:CmpOp} {r:R2} (ho:OpR X (FJ op) r) (ha:PE X a ta) (hb:PE X b tb) (hm:Fz op b=false):PT X (.Compare a [op] [b] pos) (Cq (tOp r ta tb)):=by
 intro pins s σ H Q I h
 refine wpAny_isTrue_Compare1 (thn (ha pins s σ H _ I h) fun v s1 ⟨x,H1,I1,r1,q1⟩=>thn (hb pins s1 σ H1 _ I1 q1) fun u s2 ⟨y,H2,I2,r2,q2⟩ =>
  thn (ho pins s2 σ H2 x y v u _ I2 r1 r2 q2) fun c s3 ⟨z,H3,I3,r3,k,e,q3⟩=>?_) hm
 subst e
 cases r3
 exact G7 ⟨H3,I3,q3⟩
theorem nX:(sizeLine:Nat) < 2 ^ 63:=by rw [Jc]; decide
theorem op_add_str:OpR X (Hz .Add) (fun x y H Q=>∃ i j,x=.str i∧y=.str j∧i.length + j.length≤sizeLine∧Q (.str (i ++ j)) H):=by
 intro pins s σ H x y v u Q I rx ry h
 obtain ⟨i,j,rfl,rfl,hz,q⟩:=h
 obtain ⟨t,rfl⟩:=rx
 obtain ⟨t',rfl⟩:=ry
 exact add_str (fun t' tk=>⟨.str (i ++ j),H,I.tok _,⟨_,rfl⟩,q⟩) hz
theorem dJ {x:V} {us:List Value} (r:Vals [x] us):∃ u,us=[u]∧RelV x u:=by
 cases r with
 | cons r1 r2=>cases r2; exact ⟨_,rfl,r1⟩
theorem Cr {x y:V} {us:List Value} (r:Vals [x,y] us):∃ u w',us=[u,w']∧RelV x u∧RelV y w':=by
 cases r with
 | cons r1 r2 =>
  cases r2 with
  | cons r3 r4=>cases r4; exact ⟨_,_,rfl,r1,r3⟩
def EL (K:ck) (x:V) (H:Hp) (n:Nat):Prop :=
 match x with
 | .str y=>y.length≤sizeLine∧n=y.length
 | .byt y=>y.size≤sizeLine∧n=y.size
 | .ref p=>(∃ xs,SqL K H p xs∧n=xs.length)∨∃ xs,SqT K H p xs∧n=xs.length
 | _=>False
theorem tV:CallR X (.builtin "len") (fun xs H Q=>∃ x n,xs=[x]∧EL X.K x H n∧Q (.int n) H):=by
 intro pins s σ H xs us Q I r h
 obtain ⟨x,n,rfl,e,q⟩:=h
 obtain ⟨u,rfl,rx⟩:=dJ r
 have hl:=nX
 have hs:sizeLine=16777216:=Jc
 cases x with
 | str y =>
  obtain ⟨t,rfl⟩:=rx
  obtain ⟨hy,e'⟩:y.length≤sizeLine∧n=y.length:=e
  subst e'
  exact len_str (by omega) ⟨.int _,H,I.tok _,⟨_,rfl⟩,q⟩
 | byt y =>
  obtain ⟨t,rfl⟩:=rx
  obtain ⟨hy,e'⟩:y.size≤sizeLine∧n=y.size:=e
  subst e'
  exact PySem.W.len_bytes (by omega) ⟨.int _,H,I.tok _,⟨_,rfl⟩,q⟩
 | ref p =>
  cases rx
  have e':(∃ xs,SqL X.K H p xs∧n=xs.length)∨∃ xs,SqT X.K H p xs∧n=xs.length:=e
  rcases e' with ⟨xs,hx,e'⟩ | ⟨xs,hx,e'⟩
  · subst e'
    obtain ⟨its,r',pl,hz⟩:=I.list hx
    have hlen:=r'.length
    exact Calls.call_len_list pl.isList (by simp only [v_]; omega) ⟨.int xs.length,H,I.tok _,⟨_,by simp only [v_]; rw [hlen]⟩,q⟩
  · subst e'
    obtain ⟨its,r',pl,hz⟩:=I.tuple hx
    have hlen:=r'.length
    exact len_tuple pl (by simp only [v_]; omega) ⟨.int xs.length,H,I.tok _,⟨_,by simp only [v_]; rw [hlen]⟩,q⟩
 | _=>exact (show False from e).elim
end
structure ObjM (h:Heap) (x dx C:Addr) (mA:Str→Option Value):Prop where
 obj:h.get? x=some (Hv C dx)
 ns:h.Ns1 dx mA
 ne:dx≠x
theorem qu {h:Heap} {dx:Addr} {mA:Str→Option Value} (n:h.Ns1 dx mA):∃ od,h.get? dx=some od∧∀ name,LG name od=some (mA name):=by
 obtain ⟨o,es,ep,ho,hd,hk,_,hm⟩:=n
 refine ⟨o,ho,fun name=>?_⟩
 have e:=hm name
 unfold nsFind findBy at e
 rw [← Array.find?_toList] at e
 unfold LG
 rw [hd]
 dsimp only
 split
 · rename_i y q
   rw [q] at e
   exact congrArg some e
 · rename_i q
   rw [q] at e
   have a:es.toList.any (·.refKey)=false:=by
    rw [List.any_eq_false]
    intro y hy
    obtain ⟨z,t,hkey⟩:=hk y (HG.mp hy)
    simp [DictEntry.refKey,hkey]
   have a':¬ es.toList.any (·.refKey)=true:=by rw [a]; exact rl
   rw [if_neg a']
   exact congrArg some e
theorem ObjM.look {h:Heap} {x dx C:Addr} {mA:Str→Option Value} (I:ObjM h x dx C mA):∃ od,PySem.W.InstAt h x (Hv C dx) C (some od)∧∀ name,LG name od=some (mA name) :=
 let ⟨od,ho,hl⟩:=qu I.ns
 ⟨od,⟨I.obj,rfl,rfl,ho⟩,hl⟩
section
variable {prog:Program} {w:uk} {A:q_} {E:Value→Shared→Prop} {s:Shared} {K:ck} {x dx C f:Addr} {mA:Str→Option Value} {name:Str} {v:Value}
end
theorem RelO.none_of {o:Option Value} (r:RelO none o):o=none:=by
 cases o with
 | none=>rfl
 | some u=>exact (show False from r).elim
section
variable {P:Program} {w:uk} {H H':Hp} {h h':Heap} {a C dx:Addr} {fs fs':List (Str×V)}
theorem wj (hok:HOk P w H h) (e:H a=some (.ins C dx fs)):∃ mA,ObjM h a dx C mA∧(∀ f,RelO (fs.lookup f) (mA f))∧PySem.Within mA (fs.map (·.1))∧fs.length≤1000∧H dx=some (.own a):=by
 obtain ⟨d,z,ne,ob,mA,n,r,q⟩:=(show ObjOk P w H h a (.ins C dx fs) from hok a _ e)
 exact ⟨mA,⟨ob,n,ne⟩,r,q,z,d⟩
end
structure Cls (K:ck) (C:Addr):Prop where
 pg:MN K C Str.empty=true
 hd:PySem.W.hasDictIn K C=true
 po:PySem.W.plainOver K C=true
 sa:Jo K (.ref C) "__setattr__"=some (some (.builtin "object.__setattr__"))
theorem Cls.get {K:ck} {C:Addr} (c:Cls K C) (f:Str):MN K C f=true:=c.pg
structure Con (K:ck) (C:Addr) (f:Str) (v:V) (u:Value):Prop where
 at_:Jo K (.ref C) f=some (some u)
 rel:RelV v u
 get:My K u "__get__"=some none
 cp:PySem.W.copiedNames.contains f=false
structure Fv (K:ck) (C:Addr) (m:Str) (f:Addr):Prop where
 at_:Jo K (.ref C) m=some (some (.ref f))
 fn:NI K (.ref f)=true
 kp:GD K (.ref f)=true
section
variable {X:Cx} {pins:List (Addr×Obj)} {σ:St} {H:Hp} {s:Shared} {a C dx:Addr} {fs:List (Str×V)} {f:Str} {v:V} {A:q_} {E:Value→Shared→Prop}
theorem Inv.made (I:Inv X pins σ H s):Inv X pins σ (upd (upd H s.heap.objs.size (.own (s.heap.objs.size + 1))) (s.heap.objs.size + 1) (.ins C s.heap.objs.size []))
 { s with heap:=(s.heap.push GU).push (Hv C s.heap.objs.size) }:=by
 have e1:(s.heap.push GU).get? s.heap.objs.size=some GU:=h_ s.heap rfl
 have e2:((s.heap.push GU).push (Hv C s.heap.objs.size)).get? (s.heap.objs.size + 1)=some (Hv C s.heap.objs.size):=by
  have:=h_ (s.heap.push GU) (o:=Hv C s.heap.objs.size) rfl
  rwa [z_] at this
 have e3:(s.heap.push GU).Ns s.heap.objs.size (fun _=>none):=⟨GU,#[],_,e1,rfl,(fun e he=>absurd he (by simp)),fun _=>rfl⟩
 have I1:=I.laid (a:=s.heap.objs.size) (o:=.own (s.heap.objs.size + 1)) (h':=s.heap.push GU) (t':=s.toks) (fun b u q=>d_ _ q) (j_ _) ⟨_,e1⟩
 refine I1.laid (a:=s.heap.objs.size + 1) (o:=.ins C s.heap.objs.size []) (t':=s.toks) (fun b u q=>d_ _ q) (Ig (z_ _ _)) ?_
 have ne:s.heap.objs.size≠s.heap.objs.size + 1:=n_ (GI _)
 refine ⟨by rw [au ne,am],FN _,ne,e2,fun _=>none,(Heap.Ns1.of_empty e3).at fun o q=>d_ _ q,fun _=>Ki,fun y hy=>absurd rfl hy⟩
end
section
variable {X:Cx} {o e value:Expr} {f:Str} {pos pos' tpos:Pos} {ta tv:TE}
end
section
variable {X:Cx} {pins:List (Addr×Obj)} {σ:St} {H:Hp} {s:Shared} {A:q_} {E:Value→Shared→Prop} {Q:Value→Shared→Prop} {c:Value} {b:Bool}
inductive nY (K:ck) (H:Hp):V→Value→Prop where
 | non:nY K H .non (.type "NoneType")
 | bl (x:Bool):nY K H (.bl x) (.type "bool")
 | int (i:Int):nY K H (.int i) (.type "int")
 | str (x:Str):nY K H (.str x) (.type "str")
 | flt (x:UInt64):nY K H (.flt x) (.type "float")
 | lst {a:Addr} {xs:List V} (e:H a=some (.lst xs)):nY K H (.ref a) (.type "list")
 | frz {a:Addr} {o:Obj} {xs:List V} (e:H a=some (.frz o (.lst xs))):nY K H (.ref a) (.type "list")
 | tup {a:Addr} {xs:List V} (e:H a=some (.tup xs)):nY K H (.ref a) (.type "tuple")
 | dK {a:Addr} {kvs:List (Key×V)} (e:H a=some (.dK kvs)):nY K H (.ref a) (.type "dict")
 | dT {a:Addr} {kvs:List (List Key×V)} (e:H a=some (.dT kvs)):nY K H (.ref a) (.type "dict")
 | ins {a C dx:Addr} {fs:List (Str×V)} (e:H a=some (.ins C dx fs)) (cl:Cls K C) (ha:Jo K (.ref C) "__class__"=some (some (.builtin "object.__class__")))
  (hn:My K (.builtin "object.__class__") "__get__"=some (some (.builtin "getset_descriptor.__get__"))) (htk:PySem.W.takesIn K (.builtin "object.__class__")=some true)
  (hm:PySem.W.mroIn K C (.type "object")=some true):nY K H (.ref a) (.ref C)
theorem qv {x:V} {u t:Value} (I:Inv X pins σ H s) (rx:RelV x u) (ty:nY X.K H x t) (e:Hk X.K t c=some b) (h:∀ tk,Q (.bool b) { s with toks:=tk }) :
 l_ (o_ X.prog X.w) A (call (.builtin "isinstance") [u,c]) Q E s:=by
 cases ty with
 | non=>cases (show u=FB from rx); exact GE PySem.W.kitx_none I.kIn Ki e (fun z=>nomatch z) h
 | bl y=>cases (show u=GA y from rx); exact GE PySem.W.kitx_bool I.kIn Ki e (fun z=>nomatch z) h
 | int i=>obtain ⟨t,q⟩:=(show ∃ t,u=MO i t from rx); cases q; exact GE PySem.W.kitx_int I.kIn Ki e (fun z=>nomatch z) h
 | str y=>obtain ⟨t,q⟩:=(show ∃ t,u=GG y t from rx); cases q; exact GE PySem.W.kitx_str I.kIn Ki e (fun z=>nomatch z) h
 | flt y=>obtain ⟨t,q⟩:=(show ∃ t,u=Value.float y t from rx); cases q; exact GE PySem.W.kitx_float I.kIn Ki e (fun z=>nomatch z) h
 | @lst a xs ea =>
  cases (show u=s_ a from rx)
  obtain ⟨_,_,n,_,h1⟩:=(show ObjOk X.prog X.w H s.heap a (.lst xs) from I.hok a _ ea)
  exact GE Mz I.kIn ⟨_,h1,rfl⟩ e (fun z=>nomatch z) h
 | @frz a ob xs ea =>
  cases (show u=s_ a from rx)
  obtain ⟨_,_,_,n,_,h1⟩:=(show ObjOk X.prog X.w H s.heap a (.frz ob (.lst xs)) from I.hok a _ ea)
  exact GE Mz I.kIn ⟨_,h1,rfl⟩ e (fun z=>nomatch z) h
 | @tup a xs ea =>
  cases (show u=s_ a from rx)
  obtain ⟨_,_,_,p⟩:=(show ObjOk X.prog X.w H s.heap a (.tup xs) from I.hok a _ ea)
  obtain ⟨o,h1,h2,_⟩:=p
  exact GE PySem.W.kitx_tuple I.kIn ⟨o,h1,h2⟩ e (fun z=>nomatch z) h
 | @dK a kvs ea =>
  cases (show u=s_ a from rx)
  obtain ⟨_,_,vs,_,p⟩:=(show ObjOk X.prog X.w H s.heap a (.dK kvs) from I.hok a _ ea)
  obtain ⟨o,es,ep,h1,h2,_⟩:=p
  exact GE MB I.kIn ⟨o,h1,h2.1⟩ e (fun z=>nomatch z) h
 | @dT a kvs ea =>
  cases (show u=s_ a from rx)
  obtain ⟨_,_,xs,_,o,es,ep,h1,h2,_⟩:=(show ObjOk X.prog X.w H s.heap a (.dT kvs) from I.hok a _ ea)
  exact GE MB I.kIn ⟨o,h1,h2.1⟩ e (fun z=>nomatch z) h
 | @ins a C dx fs ea cl ha hn htk hm =>
  cases (show u=s_ a from rx)
  obtain ⟨mA,O,_⟩:=wj I.hok ea
  obtain ⟨od,J,_⟩:=O.look
  exact GE (PySem.W.kitx_own (cl.get _) cl.hd ha hn htk hm) I.kIn J e (fun z=>nomatch z) h
end
structure Room (k:Nat) (A:q_):Prop where
 hd:A.handled=none
 dp:A.depth + 3 * k + 5 < recursionLimit
 un:A.units + 16 * k + 200 < cLine
theorem Room.mono {j k:Nat} {A:q_} (r:Room k A) (h:j≤k):Room j A:=⟨r.hd,by have:=r.dp; omega,by have:=r.un; omega⟩
theorem Room.deeper {k:Nat} {A:q_} (r:Room (k + 1) A) (env:Env):Room k (A.deeper env) :=
 ⟨r.hd,by have:=r.dp; show A.depth + 1 + 3 * k + 5 < _; omega,by have:=r.un; show A.units + 3 + 16 * k + 200 < _; omega⟩
theorem Room.in1 {k:Nat} {A:q_} (r:Room (k + 1) A):Room k A.in1 :=
 ⟨r.hd,by have:=r.dp; show A.depth + 3 * k + 5 < _; omega,by have:=r.un; show A.units + 1 + 16 * k + 200 < _; omega⟩
theorem pv {A:q_} {C:Addr} {us:List Value} {kw:List (Str×Value)}:(A.under (.builtin "type.__call__" ⟨.ref C :: us,kw⟩)).depth=A.depth + 1:=by
 first | rfl | simp [MF,Code.weight,Code.isCreation,Code.isGuard,Code.isCaller,Code.frames,ME,guardIds]
theorem pw {A:q_} {C:Addr} {us:List Value} {kw:List (Str×Value)}:(A.under (.builtin "type.__call__" ⟨.ref C :: us,kw⟩)).units=A.units + 1:=by
 first | rfl | simp [MF,Code.cUnits,Code.frames,ME]
theorem Room.make {k:Nat} {A:q_} (r:Room (k + 1) A) (C:Addr) (us:List Value) (kw:List (Str×Value)):Room k (A.under (.builtin "type.__call__" ⟨.ref C :: us,kw⟩)) :=
 ⟨r.hd,by have:=r.dp; rw [pv]; omega,by have:=r.un; rw [pw]; omega⟩
theorem Room.depth {k:Nat} {A:q_} (r:Room k A):A.depth < recursionLimit:=by have:=r.dp; omega
theorem Room.units {k:Nat} {A:q_} (r:Room k A):A.units + 64 < cLine:=by have:=r.un; omega
theorem Room.units0 {k:Nat} {A:q_} (r:Room k A):A.units < cLine:=by have:=r.un; omega
def EM:TA:=fun _ H Q=>Q [] H
def Cs (ta:TE) (tr:TA):TA:=fun σ H Q=>ta σ H fun x H1=>tr σ H1 fun xs H2=>Q (x :: xs) H2
section
variable {X:Cx} {e:Expr} {es:List Expr} {te:TE} {t:TA} {pos:Pos}
theorem vt:PA X [] EM:=fun _ _ _ _ H Q I h=>Iw ⟨[],H,I,.nil,h⟩
theorem mG (ha:PE X e te) (hr:PA X es t) (hs:e_ (e :: es) X.env=(false,eval e X.env) :: e_ es X.env:=by rfl):PA X (e :: es) (Cs te t):=by
 intro pos pins s σ H Q I h
 rw [hs]
 show l_ _ _ (Nd ((false,eval e X.env) :: F0 pos (e_ es X.env))) _ _ s
 refine IZ (thn (ha pins s σ H _ I h) fun u s1 ⟨x,H1,I1,r1,q1⟩=>?_)
 exact thn (hr pos pins s1 σ H1 _ I1 q1) fun us s2 ⟨xs,H2,I2,r2,q2⟩=>⟨x :: xs,H2,I2,.cons r1 r2,q2⟩
def EN (t:TA):TE:=fun σ H Q=>t σ H fun xs H1=>xs.length≤sizeLine∧∀ p,H1 p=none→Q (.ref p) (upd H1 p (.tup xs))
def EO (t:TA):TE:=fun σ H Q=>t σ H fun xs H1=>xs.length≤sizeLine∧∀ p,H1 p=none→Q (.ref p) (upd H1 p (.lst xs))
theorem y9 {x1} (h:PA X es t):PE X (.Tuple es x1 pos) (EN t):=by
 intro pins s σ H Q I hq
 refine wpAny_Tuple_spliced (thn (h pos pins s σ H _ I hq) fun us s1 ⟨xs,H1,I1,r,z,q⟩=>⟨by rw [← r.length]; exact z,?_⟩)
 have hf:H1 s1.heap.objs.size=none:=I1.hok.fresh (j_ _)
 refine ⟨.ref s1.heap.objs.size,upd H1 s1.heap.objs.size (.tup xs),I1.laid (t':=s1.toks) (fun b u e=>d_ _ e) (j_ _) ?_,rfl,q _ hf⟩
 exact ⟨z,us,r,⟨_,h_ _ rfl,rfl,_,rfl⟩⟩
theorem vv (h:PA X es t):PE X (.List es pos) (EO t):=by
 intro pins s σ H Q I hq
 refine wpAny_List_spliced (thn (h pos pins s σ H _ I hq) fun us s1 ⟨xs,H1,I1,r,z,q⟩=>⟨by rw [← r.length]; exact z,?_⟩)
 have hf:H1 s1.heap.objs.size=none:=I1.hok.fresh (j_ _)
 refine ⟨.ref s1.heap.objs.size,upd H1 s1.heap.objs.size (.lst xs),I1.laid (t':=s1.toks) (fun b u e=>d_ _ e) (j_ _) ?_,rfl,q _ hf⟩
 exact ⟨z,us,0,r,h_ _ rfl⟩
end
abbrev Sp:=List V→Hp→VK→XK→Prop
abbrev CXT:=List Env→Hp→Shared→XK→Value→Shared→Prop
structure Env0 (P:Program) (w:uk) (K:ck) (mg:Str→Option Value) (base:Heap) (A:q_) (outer:List Env) (s:Shared) (H:Hp):Prop where
 frames:A.frames=some outer
 mod:Mod K mg base
 bs:∀ b o,base.get? b=some o→s.heap.get? b=some o∧H b=none
 bsz:base.objs.size≤s.heap.objs.size
 funs:s.heap.FunFrames base outer
 frf:∀ b∈frs outer,H b=none
 hok:HOk P w H s.heap
 bare:Ju s.gens
def CE (outer:List Env) (P:Program) (w:uk) (H:Hp) (s:Shared) (Q:VK) (u:Value) (s':Shared):Prop :=
 ∃ v H',s'.os=s.os∧Ju s'.gens∧Un (frs outer) [] H H' s.heap s'.heap∧HOk P w H' s'.heap∧RelV v u∧Q v H'
def CR (CX:CXT) (outer:List Env) (P:Program) (w:uk) (H:Hp) (s:Shared) (Q:VK) (E:XK) (r:LK) (s':Shared):Prop :=
 match r with
 | .ok (.ret u)=>CE outer P w H s Q u s'
 | .ok _=>False
 | .error e=>CX outer H s E e s'
structure FnOk (P:Program) (w:uk) (K:ck) (mg:Str→Option Value) (base:Heap) (CX:CXT) (k:Nat) (f:Addr) (fd:Gp) (ps:List Str) (sp:Sp):Prop where
 len:∀ vs H Q E,sp vs H Q E→vs.length=ps.length
 run:∀ (A:q_) (outer:List Env) (s:Shared) (H:Hp) (args:Args) (us:List Value) (vs:List V) (Q:VK) (E:XK),Room k A→Env0 P w K mg base A outer s H→Ke s fd args (ps.zip us)→Vals vs us→sp vs H Q E →
  HZ (o_ P w) A (.call (.ref f) args) (CR CX outer P w H s Q E) s
theorem FnOk.mono {P:Program} {w:uk} {K:ck} {mg:Str→Option Value} {base:Heap} {CX:CXT} {j k:Nat} {f:Addr} {fd:Gp} {ps:List Str} {sp:Sp} (F:FnOk P w K mg base CX j f fd ps sp) (h:j≤k) :
 FnOk P w K mg base CX k f fd ps sp:=⟨F.len,fun A outer s H args us vs Q E hr=>F.run A outer s H args us vs Q E (hr.mono h)⟩
theorem FnOk.imp {P:Program} {w:uk} {K:ck} {mg:Str→Option Value} {base:Heap} {CX:CXT} {k:Nat} {f:Addr} {fd:Gp} {ps:List Str} {sp sp':Sp} (F:FnOk P w K mg base CX k f fd ps sp)
 (h:∀ vs H Q E,sp' vs H Q E→sp vs H Q E):FnOk P w K mg base CX k f fd ps sp' :=
 ⟨fun vs H Q E q=>F.len vs H Q E (h _ _ _ _ q),fun A outer s H args us vs Q E hr he hb hv hs=>F.run A outer s H args us vs Q E hr he hb hv (h _ _ _ _ hs)⟩
theorem Env0.make {P:Program} {w:uk} {K:ck} {mg:Str→Option Value} {base:Heap} {A:q_} {outer:List Env} {s:Shared} {H:Hp} (e:Env0 P w K mg base A outer s H) (C:Addr) (us:List Value) (kw:List (Str×Value)) :
 Env0 P w K mg base (A.under (.builtin "type.__call__" ⟨.ref C :: us,kw⟩)) outer s H:=⟨by first | exact e.frames | (simpa [MF,Code.envs,ME,pushEnvs] using e.frames),e.mod,e.bs,e.bsz,e.funs,e.frf,e.hok,e.bare⟩
theorem Env0.in1 {P:Program} {w:uk} {K:ck} {mg:Str→Option Value} {base:Heap} {A:q_} {outer:List Env} {s:Shared} {H:Hp} (e:Env0 P w K mg base A outer s H) :
 Env0 P w K mg base A.in1 outer s H:=⟨e.frames,e.mod,e.bs,e.bsz,e.funs,e.frf,e.hok,e.bare⟩
section
variable {X:Cx} {pins:List (Addr×Obj)} {σ:St} {H:Hp} {s s':Shared}
theorem Inv.env0 (I:Inv X pins σ H s):Env0 X.prog X.w X.K X.mg X.base X.A X.stack s H :=
 ⟨I.ok.frames,I.ok.mod,I.bs,FH I.ok.bsz I.sz,I.stack,I.stkFree,I.hok,I.bare⟩
theorem Inv.after {Q:VK} {u:Value} (I:Inv X pins σ H s) (h:CE X.stack X.prog X.w H s Q u s'):EP X pins σ Q u s':=by
 obtain ⟨v,H',os,bare,un,hok,r,q⟩:=h
 obtain ⟨hh,g,d,t,os'⟩:=s'
 obtain rfl:os'=s.os:=os
 exact ⟨v,H',I.call (h':=hh) (g':=g) (d':=d) (t':=t) (ch:=[]) un hok bare (fun b z=>absurd z (by simp)),r,q⟩
end
def Ct (sp:Sp) (dvs:List V) (E:XK) (t:TA):TE:=fun σ H Q=>t σ H fun vs H1=>sp (vs ++ dvs) H1 Q E
def Binds (K:ck) (fd:Gp) (ps:List Str) (ds:List Value):Prop :=
 ∀ (s:Shared) (us:List Value),K.In s.heap→(us ++ ds).length=ps.length→Ke s fd ⟨us,[]⟩ (ps.zip (us ++ ds))
theorem Binds.all {K:ck} {fd:Gp} {ps:List Str} (h:∀ us:List Value,us.length=ps.length→LF fd ⟨us,[]⟩=pure (ps.zip us)):Binds K fd ps []:=fun s us _ hl=>by
 rw [IT] at hl ⊢
 exact .of_eq (h us hl)
def qw (CX:CXT) (X:Cx) (E:XK):Prop:=∀ (pins:List (Addr×Obj)) (σ:St) (H:Hp) (s:Shared) (e:Value) (s':Shared),Inv X pins σ H s→CX X.stack H s E e s'→X.xe e s'
section
variable {X:Cx} {CX:CXT} {k:Nat} {f C:Addr} {fd:Gp} {ps:List Str} {sp:Sp} {dvs:List V} {ds:List Value} {E:XK} {x m:Str} {p pos apos:Pos} {e o:Expr} {es:List Expr} {ta:TE} {t:TA}
theorem za {pins:List (Addr×Obj)} {σ:St} {H:Hp} {s:Shared} {Q:VK} {us:List Value} {vs:List V} (F:FnOk X.prog X.w X.K X.mg X.base CX k f fd ps sp) (hr:Room k X.A) (hb:Binds X.K fd ps ds) (hd:Vals dvs ds) (hx:qw CX X E)
 (I:Inv X pins σ H s) (r:Vals vs us) (h:sp (vs ++ dvs) H Q E):l_ (o_ X.prog X.w) X.A (call (.ref f) us) (EP X pins σ Q) X.xe s:=by
 have r2:Vals (vs ++ dvs) (us ++ ds):=r.append hd
 have hl:(us ++ ds).length=ps.length:=by rw [← r2.length]; exact F.len _ _ _ _ h
 refine K7 (G5 (F.run X.A X.stack s H ⟨us,[]⟩ (us ++ ds) (vs ++ dvs) Q E hr I.env0 (hb s us I.kIn hl) r2 h) fun r s' hq=>?_)
 cases r with
 | error e=>exact hx pins σ H s e s' I hq
 | ok fl =>
  cases fl with
  | ret u=>exact I.after hq
  | next=>exact Gd hq
  | brk=>exact Gd hq
  | cont=>exact Gd hq
theorem qz (F:FnOk X.prog X.w X.K X.mg X.base CX k f fd ps sp) (hr:Room k X.A) (hg:Gl X x) (hm:X.mg x=some (.ref f)) (hk:GD X.K (.ref f)=true) (hb:Binds X.K fd ps ds) (hd:Vals dvs ds) (hx:qw CX X E)
 (ha:PA X (e :: es) t) (hdb:(x == ("__debug__":Str))=false:=by decide) (he:e_ (e :: es) X.env=(false,eval e X.env) :: e_ es X.env:=by rfl) (hpl:(F0 pos (e_ es X.env)).any (·.1)=false:=by rfl) :
 PE X (.Call (.Name x p) (e :: es) [] pos) (Ct sp dvs E t):=by
 intro pins s σ H Q I h
 refine Gr (qe I hg hm ?_ hdb)
 refine PySem.W.callWith_K (h₀:=X.base) I.ok.mod.kin hk (thn (ha pos pins s σ H _ I h) fun us s1 ⟨vs,H1,I1,r,q⟩=>⟨I1.kIn,?_⟩) he hpl
 exact za F hr hb hd hx I1 r q
structure Mk (K:ck) (C f:Addr):Prop where
 makes:PySem.W.makesIn K C=true
 init:Jo K (.ref C) "__init__"=some (some (.ref f))
 fn:NI K (.ref f)=true
 kp:GD K (.ref C)=true
end
section
variable {X:Cx} {CX:CXT} {k:Nat} {f C:Addr} {fd:Gp} {ps ks:List Str} {sp:Sp} {E:XK} {x m:Str} {p pos apos kpos:Pos} {e o:Expr} {es:List Expr} {kws:List Iv} {te ta:TE} {t tk:TA} {nm:Option Str}
structure Ea (K:ck) (fd:Gp) (ps ks:List Str) (g:List Value→List Value→List Value) (gV:List V→List V→List V):Prop where
 to:∀ (s:Shared) (us ws:List Value),K.In s.heap→(g us ws).length=ps.length→Ke s fd ⟨us,ks.zip ws⟩ (ps.zip (g us ws))
 rel:∀ {vs:List V} {us:List Value} {zs:List V} {ws:List Value},Vals vs us→Vals zs ws→Vals (gV vs zs) (g us ws)
variable {g:List Value→List Value→List Value} {gV:List V→List V→List V}
end
structure dr (N P:List Str) (sc:Scope):Prop where
 kind:sc.kind=.function
 co:sc.isCoroutine=false
 gen:sc.isGenerator=false
 nd:N.Nodup
 pre:N.take P.length=P
 par:∀ x∈P,sc.names.lookup x=some .local∨sc.names.lookup x=some .cell
 nofree:∀ y∈sc.names,y.2≠.free
theorem kO {kindOf:Str→Option HV} {x:Str}:∀ {binds:List (Str×Value)} {m:Str→Option Value},(∀ v,(x,v) ∉ binds)→Nn kindOf binds m x=m x
 | [],_,_=>rfl
 | (n,v) :: r,m,h=>by
  unfold Nn
  rw [kO fun w hw=>h w (ge _ hw)]
  split
  · have:x≠n:=by rintro rfl; exact h v g_
    simp [this]
  · rfl
theorem kP {kindOf:Str→Option HV} {x:Str}:∀ {binds:List (Str×Value)} {m:Str→Option Value},(∀ v,(x,v) ∉ binds)→No kindOf binds m x=m x
 | [],_,_=>rfl
 | (n,v) :: r,m,h=>by
  unfold No
  rw [kP fun w hw=>h w (ge _ hw)]
  split
  · rfl
  · have:x≠n:=by rintro rfl; exact h v g_
    simp [this]
theorem kQ {kindOf:Str→Option HV} {x:Str} {v:Value}:∀ {P:List Str} {vs:List Value} {i:Nat} {m:Str→Option Value},P.Nodup→P[i]?=some x→vs[i]?=some v→kindOf x=some .local →
 Nn kindOf (P.zip vs) m x=some v
 | [],_,_,_,_,h,_,_=>by simp at h
 | _ :: _,[],_,_,_,_,h,_=>by simp at h
 | p :: P,w :: vs,0,m,nd,h1,h2,hk=>by
  simp at h1 h2; subst h1; subst h2
  show Nn kindOf ((p,w) :: P.zip vs) m p=_
  unfold Nn
  rw [kO fun v hv=>(Ha.mp nd).1 (J7 hv).1,if_pos hk]
  simp
 | p :: P,w :: vs,i + 1,m,nd,h1,h2,hk=>by
  show Nn kindOf ((p,w) :: P.zip vs) m x=_
  unfold Nn
  exact kQ (i:=i) (Ha.mp nd).2 (by simpa using h1) (by simpa using h2) hk
theorem kT {kindOf:Str→Option HV} {x:Str} {v:Value}:∀ {P:List Str} {vs:List Value} {i:Nat} {m:Str→Option Value},P.Nodup→P[i]?=some x→vs[i]?=some v→kindOf x≠some .local →
 No kindOf (P.zip vs) m x=some v
 | [],_,_,_,_,h,_,_=>by simp at h
 | _ :: _,[],_,_,_,_,h,_=>by simp at h
 | p :: P,w :: vs,0,m,nd,h1,h2,hk=>by
  simp at h1 h2; subst h1; subst h2
  show No kindOf ((p,w) :: P.zip vs) m p=_
  unfold No
  rw [kP fun v hv=>(Ha.mp nd).1 (J7 hv).1,if_neg hk]
  simp
 | p :: P,w :: vs,i + 1,m,nd,h1,h2,hk=>by
  show No kindOf ((p,w) :: P.zip vs) m x=_
  unfold No
  exact kT (i:=i) (Ha.mp nd).2 (by simpa using h1) (by simpa using h2) hk
def start (N:List Str) (vs:List V):St:=vs.map some ++ F9 (N.length - vs.length) none
def mH (CX:CXT) (P:Program) (w:uk) (K:ck) (mg:Str→Option Value) (base:Heap) (N:List Str) (qual:Str) (scope:Scope) (f:Addr) (cd:Value) (A:q_) (outer:List Env) (s:Shared) (H:Hp) (E:XK):Cx where
 prog:=P
 w:=w
 K:=K
 mg:=mg
 base:=base
 A:=A.deeper (II qual scope s.heap.objs.size f cd)
 N:=N
 s₀:=s
 H₀:=H
 env:=II qual scope s.heap.objs.size f cd
 outer:=outer
 stack:=II qual scope s.heap.objs.size f cd :: outer
 ex:=[]
 calm:=true
 fn:=fun _=>true
 pn:=[]
 xe:=fun e s'=>l_ (o_ P w) (A.deeper (II qual scope s.heap.objs.size f cd)) (leaving (II qual scope s.heap.objs.size f cd) e) (fun _ s''=>CX outer H s E e s'') (fun e' s''=>CX outer H s E e' s'') s'
theorem nZ {sc:Scope} {n:Nat} {x:Str} (h:sc.names.lookup x=some .cell):∃ c,(F3 n sc.names []).lookup x=some c:=by
 have q:=Jp sc.names n [] (.inl h)
 exact HN.mp q
theorem kU {CX:CXT} {P:Program} {w:uk} {K:ck} {mg:Str→Option Value} {base:Heap} {N ps:List Str} {qual:Str} {scope:Scope} {f:Addr} {cd:Value} {A:q_} {outer:List Env} {s s1:Shared} {H:Hp} {E:XK} {us:List Value} {vs:List V}
 (S:dr N ps scope) (hd:A.handled=none) (e0:Env0 P w K mg base A outer s H) (hl:vs.length=ps.length) (r:Vals vs us)
 (x:InCallC s s.heap.objs.size (Nn (II qual scope s.heap.objs.size f cd).kindOf (ps.zip us) fun _=>none) (F3 (s.heap.objs.size + 1) scope.names []) (No (II qual scope s.heap.objs.size f cd).kindOf (ps.zip us) fun _=>none) s1) :
 Inv (mH CX P w K mg base N qual scope f cd A outer s H E) [] (start N vs) H s1:=by
 have hpl:ps.length≤N.length:=by have:=congrArg List.length S.pre; rw [JK] at this; omega
 obtain ⟨h1,tk,rfl,hk⟩:=x.done
 have noA:∀ b:Addr,b ∉ (mH CX P w K mg base N qual scope f cd A outer s H E).ex:=fun b z=>absurd (show b∈([]:List Addr) from z) (by simp)
 refine ⟨⟨e0.mod,S.kind,rfl,rfl,j_ _,fun y z c h1 h2=>?_,fun y hy=>?_,fun y c _ h=>?_,fun _=>hd,Around.frames_deeper e0.frames,.inr ⟨rfl,rfl⟩,fun b z=>absurd z (noA b),e0.bs,e0.bsz,fun b _ _=>noA b,fun b z=>absurd z (noA b),e0.funs,e0.frf⟩,
  rfl,e0.bare,Un.kept hk,⟨_,x.toInCall.ns,fun i y v h1 h2 h3=>?_⟩,fun y c h=>⟨_,x.cell y c h⟩,e0.hok.fresh (j_ _),fun y c h=>?_,fun p hp=>absurd (show p∈([]:List (Addr×Obj)) from hp) (by simp),e0.hok.kept hk,?_⟩
 · exact name_of_addr x.apart (HQ h1) (HQ h2)
 · have hy:scope.names.lookup y=some .cell∨scope.names.lookup y=some .free:=hy
   rcases hy with hy | hy
   · exact nZ hy
   · exact absurd rfl (S.nofree _ (HQ hy))
 · exact Hd (x.above y c (HQ h))
 · have hi:i < vs.length:=by
    unfold start at h2
    by_cases hi:i < vs.length
    · exact hi
    · rw [GW (by simpa using hi)] at h2
      rw [Jh] at h2
      split at h2 <;> cases h2
   have ha:vs[i]?=some v:=by
    unfold start at h2
    rw [Hu (by simpa using hi),D_] at h2
    cases e:vs[i]? with
    | none=>rw [e] at h2; cases h2
    | some a=>rw [e] at h2; cases h2; rfl
   obtain ⟨u,hu,rv⟩:=r.get ha
   have hp:ps[i]?=some y:=by
    rw [← S.pre,List.getElem?_take_of_lt (by omega)]; exact h1
   have ndP:ps.Nodup:=by rw [← S.pre]; exact S.nd.sublist (List.take_sublist _ _)
   refine ⟨u,rv,?_⟩
   rcases S.par y (GR hp) with k | k
   · exact .inl ⟨k,kQ ndP hp hu k⟩
   · obtain ⟨c,e⟩:=nZ (n:=s.heap.objs.size + 1) k
     refine .inr ⟨.inl k,c,e,?_⟩
     have q:=x.cell y c e
     rw [kT ndP hp hu (by show scope.names.lookup y≠_; rw [k]; decide)] at q
     exact q
 · exact e0.hok.fresh (Hd (x.above y c (HQ h)))
 · unfold start
   show _=N.length
   rw [GM,y_,Iu]
   omega
theorem zb {CX:CXT} {P:Program} {w:uk} {K:ck} {mg:Str→Option Value} {base:Heap} {k:Nat} {f:Addr} {name qual:Str} {params:Arguments} {body:List Stmt} {scope:Scope} {dV kV doc pm cdv ct oc:Value} {an od:Option Addr}
 {osl:Array (Option Value)} {N ps:List Str} {sp:Sp} (lk:K.lookup f=some ⟨oc,od,.func (H_ name qual params body scope dV kV doc pm an cdv ct),osl⟩) (hcd:Kn K cdv qual=true) (S:dr N ps scope)
 (len:∀ vs H Q E,sp vs H Q E→vs.length=ps.length)
 (hbody:∀ (A:q_) (outer:List Env) (s:Shared) (H:Hp) (vs:List V) (Q:VK) (E:XK),Room k (A.deeper (II qual scope s.heap.objs.size f cdv))→sp vs H Q E →
   ∃ t,PSs (mH CX P w K mg base N qual scope f cdv A outer s H E) body t∧t { nx:=fun _ H'=>Q .non H',rt:=Q } (start N vs) H) :
 FnOk P w K mg base CX (k + 1) f (H_ name qual params body scope dV kV doc pm an cdv ct) ps sp:=by
 refine ⟨len,fun A outer s H args us vs Q E hr e0 hb r hsp=>?_⟩
 have hl:=len _ _ _ _ hsp
 have KX:K.In s.heap:=e0.mod.kin.keeps fun b o e=>(e0.bs b o e).1
 have lim:s.heap.NoLimit:=e0.mod.nolimit.keeps fun b o e=>(e0.bs b o e).1
 have hkind:∀ y∈ps.zip us,scope.names.lookup y.1=some .local∨(scope.names.lookup y.1=some .cell∧((F3 (s.heap.objs.size + 1) scope.names []).lookup y.1).isSome=true):=fun ⟨n,v⟩ hy=>by
  rcases S.par n (J7 hy).1 with q | q
  · exact .inl q
  · exact .inr ⟨q,Jp _ _ _ (.inl q)⟩
 refine codeAny_call_function hr.depth (KX _ _ lk) rfl S.co S.gen rfl (PySem.W.codeRec_of KX hcd) (hb _ _ _ _ ?_)
 refine Kk S.kind hkind fun env he s1 x=>?_
 subst he
 refine ⟨lim.keeps x.toInCall.keep,codeAny_func ?_⟩
 obtain ⟨t,ht,hq⟩:=hbody A outer s H vs Q E (hr.deeper _) hsp
 have I:Inv (mH CX P w K mg base N qual scope f cdv A outer s H E) [] (start N vs) H s1:=kU S hr.hd e0 hl r x
 refine FQ (ht [] s1 (start N vs) H _ I hq) (fun fl s' hs=>?_) fun e s' hs=>hs
 have fin:∀ {σ':St} {H':Hp} {v:V} {u:Value},Inv (mH CX P w K mg base N qual scope f cdv A outer s H E) [] σ' H' s'→RelV v u→Q v H'→CE outer P w H s Q u s' :=
  fun {σ' H' v u} J rv q=>⟨v,H',J.os,J.bare,J.base,J.hok,rv,q⟩
 cases fl with
 | ret u =>
  obtain ⟨v,σ',H',J,rv,q⟩:=hs
  exact fin J rv q
 | next =>
  obtain ⟨σ',H',J,q⟩:=hs
  exact fin (v:=V.non) (u:=FB) J rfl q
 | brk =>
  obtain ⟨_,_,_,q⟩:=hs
  exact Gd q
 | cont =>
  obtain ⟨_,_,_,q⟩:=hs
  exact Gd q
section
variable {X:Cx} {x:Str} {p pos:Pos} {e:Expr} {es:List Expr} {t:TA} {id T:String} {r:List V→Hp→VK→Prop}
def tCB (r:List V→Hp→VK→Prop) (t:TA):TE:=fun σ H Q=>t σ H fun vs H1=>r vs H1 Q
theorem ip (hc:CallR X (.builtin id) r) (hg:Gl X x) (hm:X.mg x=none) (hv:GF x=some (.builtin id)) (ha:PA X (e :: es) t) (hn:x≠"__name__":=by decide) (hdb:(x == ("__debug__":Str))=false:=by decide)
 (he:e_ (e :: es) X.env=(false,eval e X.env) :: e_ es X.env:=by rfl) (hpl:(F0 pos (e_ es X.env)).any (·.1)=false:=by rfl):PE X (.Call (.Name x p) (e :: es) [] pos) (tCB r t):=by
 intro pins s σ H Q I h
 refine Gr (cZ I hg hm hv ?_ hn hdb)
 exact G3 (thn (ha pos pins s σ H _ I h) fun us s1 ⟨vs,H1,I1,r1,q1⟩=>hc pins s1 σ H1 vs us Q I1 r1 q1) he hpl
theorem qA (hc:CallR X (.type T) r) (hg:Gl X x) (hm:X.mg x=none) (hv:GF x=some (.type T)) (ha:PA X (e :: es) t) (hn:x≠"__name__":=by decide) (hdb:(x == ("__debug__":Str))=false:=by decide)
 (he:e_ (e :: es) X.env=(false,eval e X.env) :: e_ es X.env:=by rfl) (hpl:(F0 pos (e_ es X.env)).any (·.1)=false:=by rfl):PE X (.Call (.Name x p) (e :: es) [] pos) (tCB r t):=by
 intro pins s σ H Q I h
 refine Gr (cZ I hg hm hv ?_ hn hdb)
 exact Ge (thn (ha pos pins s σ H _ I h) fun us s1 ⟨vs,H1,I1,r1,q1⟩=>hc pins s1 σ H1 vs us Q I1 r1 q1) he hpl
end
end L2
namespace HT
open PySem PyProof.Rows
section
open PySem.SeqAt
open PySem.AutoSeq1 (wpAny_loadPart')
open PySem.MeetsSeq PySem.MeetsSeq2 PySem.MeetsSeq3
end
section
variable {prog:Program} {w:uk} {A:q_} {E:Value→Shared→Prop} {s:Shared}
theorem cat_tup {t b:Addr} {vs ws:List Value} {Q:Value→Shared→Prop} (ht:Ny s.heap t vs.toArray) (hb:Ny s.heap b ws.toArray) (hv:vs≠[])
 (h1:ws=[]→Q (.ref t) s) (h2:ws≠[]→Q (.ref s.heap.objs.size) { s with heap:=s.heap.push { cls:=.type "tuple",data:=.seq (vs ++ ws).toArray } })
 (hsz:vs.length + ws.length≤sizeLine):l_ (o_ prog w) A (Hz .Add (.ref t) (.ref b)) Q E s:=by
 obtain ⟨⟨cls,dd,data,sl⟩,ho,hc,n,hd⟩:=id ht
 obtain ⟨⟨cls2,dd2,data2,sl2⟩,ho2,hc2,n2,hd2⟩:=id hb
 simp only at hc hd hc2 hd2
 subst hc hd hc2 hd2
 have e:vs.toArray ++ ws.toArray=(vs ++ ws).toArray:=by simp
 by_cases hw:ws=[]
 · exact Mw ⟨_,ho,rfl⟩ ⟨_,ho2,rfl⟩ KR Mb Jr Jf (IN _ _)
    (tuple_addW1 t b vs.toArray ws.toArray n n2 dd dd2 sl sl2 (by simpa using hv) (by simp [hw])) ⟨ho,ho2,h1 hw⟩
 · refine Mw ⟨_,ho,rfl⟩ ⟨_,ho2,rfl⟩ KR Mb Jr Jf (IN _ _)
    (tuple_addW2 t b vs.toArray ws.toArray n n2 dd dd2 sl sl2 (by simpa using hv) (by simpa using hw) (by rw [v_,v_]; exact hsz)) ⟨ho,ho2,?_⟩
   rw [e]
   exact h2 hw
def sIx (n d:Nat):Option Int→Nat
 | none=>d
 | some v=>if v < 0 then (v + (n:Int)).toNat else min v.toNat n
theorem zc (n d:Nat) (hd:d≤n) (o:Option Int):sIx n d o≤n:=by
 cases o with
 | none=>exact hd
 | some v =>
  show (if v < 0 then (v + (n:Int)).toNat else min v.toNat n)≤n
  by_cases hv:v < 0
  · rw [if_pos hv]; omega
  · rw [if_neg hv]; exact K4 _ _
theorem qB (v:Int) (n d:Nat):(if v < 0 then max (v + (n:Int)) 0 else min v (n:Int))=((sIx n d (some v):Nat):Int):=by
 show (if v < 0 then max (v + (n:Int)) 0 else min v (n:Int))=(((if v < 0 then (v + (n:Int)).toNat else min v.toNat n):Nat):Int)
 by_cases hv:v < 0
 · simp only [if_pos hv]; omega
 · simp only [if_neg hv]; omega
theorem pA (lo hi:Option Int) (n:Nat):IG lo hi 1 (n:Int)=(((sIx n 0 lo:Nat):Int),((sIx n n hi:Nat):Int)):=by
 have h1:¬ ((1:Int) < 0):=by omega
 unfold IG
 simp only [h1,if_false]
 refine Prod.ext ?_ ?_
 · cases lo with
   | none=>rfl
   | some v=>exact qB v n 0
 · cases hi with
   | none=>rfl
   | some v=>exact qB v n n
theorem pB (i j:Nat):Ht (i:Int) (j:Int) 1=j - i:=by
 unfold Ht
 have h1:(1:Int) > 0:=by omega
 simp only [h1,if_true,Int.ediv_one]
 split <;> omega
theorem jx {v:Value} {o:Option Int} {Q:Option Int→Shared→Prop} (p:Le v o) (h:Q o s):l_ (o_ prog w) A (Builtin.Slice.slicePartIndex v) Q E s:=by
 cases p with
 | none=>exact slicePart_none h
 | int i t=>exact slicePart_int h
theorem sliceApplied_gen {sl:Addr} {vl vu:Value} {lo hi:Option Int} {n:Nat} {Q:Int×Int×Nat→Shared→Prop} (hs:s.heap.IsSliceOf sl vl vu .none) (pl:Le vl lo) (pu:Le vu hi)
 (h:Q (((sIx n 0 lo:Nat):Int),1,sIx n n hi - sIx n 0 lo) s):l_ (o_ prog w) A (Kt (.ref sl) (pure (n:Int))) Q E s:=by
 obtain ⟨os,hos,hcs,hds⟩:=id hs
 unfold Kt Builtin.Slice.sliceFields
 refine b_ (b_ (M5 hos hds (x:=vl) rfl (b_ (M5 hos hds (x:=vu) rfl (b_ (M5 hos hds (x:=.none) rfl (c_ ?_)))))))
 refine b_ (slicePart_none ?_)
 show l_ _ _ (if ((1:Int) == 0)=true then _ else _) _ _ s
 rw [if_neg (by decide)]
 refine b_ (jx pl (b_ (jx pu (b_ (c_ ?_)))))
 show l_ _ _ (match IG lo hi 1 (n:Int) with | (lo,hi)=>pure (lo,(1:Int),Ht lo hi 1)) _ _ s
 rw [pA lo hi n]
 show l_ _ _ (pure (((sIx n 0 lo:Nat):Int),(1:Int),Ht ((sIx n 0 lo:Nat):Int) ((sIx n n hi:Nat):Int) 1)) _ _ s
 rw [pB]
 exact c_ h
theorem tW (xs:Array Value) (i k:Nat):((f_ k).filterMap fun (m:Nat)=>xs[((i:Int) + (m:Int) * 1).toNat]?).toArray=((xs.toList.drop i).take k).toArray:=by
 have e:(fun (m:Nat)=>xs[((i:Int) + (m:Int) * 1).toNat]?)=fun m=>xs[i + m]?:=by
  funext m
  have:((i:Int) + (m:Int) * 1).toNat=i + m:=by omega
  rw [this]
 rw [e]
 have:=pick_run xs i k
 rw [Kx] at this
 have e2:((fun x=>xs[x]?) ∘ fun x=>i + x)=fun m=>xs[i + m]?:=rfl
 rw [e2] at this
 rw [this]
theorem getItem_tuple_cut {t sl:Addr} {items:Array Value} {vl vu:Value} {lo hi:Option Int} {Q:Value→Shared→Prop} (ht:Ny s.heap t items) (hs:s.heap.IsSliceOf sl vl vu .none) (pl:Le vl lo) (pu:Le vu hi)
 (hw:¬ (sIx items.size 0 lo=0∧sIx items.size items.size hi=items.size))
 (h:Q (.ref s.heap.objs.size) { s with heap:=s.heap.push { cls:=.type "tuple",data:=.seq ((items.toList.drop (sIx items.size 0 lo)).take (sIx items.size items.size hi - sIx items.size 0 lo)).toArray } })
 (hsz:items.size≤sizeLine):l_ (o_ prog w) A (La (.ref t) (.ref sl)) Q E s:=by
 have htake:sizeOk (.seq ((items.toList.drop (sIx items.size 0 lo)).take (sIx items.size items.size hi - sIx items.size 0 lo)).toArray):=by
  show ((items.toList.drop (sIx items.size 0 lo)).take (sIx items.size items.size hi - sIx items.size 0 lo)).toArray.size≤sizeLine
  rw [v_,JK,MZ,Gi]
  omega
 have hj:sIx items.size items.size hi≤items.size:=zc _ _ (j_ _) hi
 obtain ⟨os,hos,hcs,hds⟩:=id hs
 have hTs:s.TypeIs (.ref sl) "slice":=⟨os,hos,hcs⟩
 unfold La
 try with_reducible refine Gb ?_
 first | refine b_ (c_ ?_) | skip
 refine b_ (wpAny_sequenceKey ht.typeIs (by decide) ?_)
 refine b_ (GN (name:=a_ "__getitem__") ht.typeIs Gf
  (Gx Gf ht.typeIs entry_tuple_getitem ?_ (args_tuple_getitem _ _)))
 show l_ _ _ (Ks (.ref t) >>= _) _ _ s
 refine b_ (tupleItemsOf_ ht ?_)
 refine b_ (Hy hTs ?_)
 rw [if_pos (by decide)]
 refine b_ (sliceApplied_gen hs pl pu ?_)
 have hno:¬ ((((sIx items.size 0 lo:Nat):Int) == 0 && (1:Int) == 1 && (sIx items.size items.size hi - sIx items.size 0 lo) == items.size)=true):=by
  intro q
  rw [k_,k_] at q
  have q1:((sIx items.size 0 lo:Nat):Int)=0:=L5 q.1.1
  have q2:sIx items.size items.size hi - sIx items.size 0 lo=items.size:=L5 q.2
  exact hw ⟨by omega,by omega⟩
 show l_ _ _ (if (((sIx items.size 0 lo:Nat):Int) == 0 && (1:Int) == 1 && (sIx items.size items.size hi - sIx items.size 0 lo) == items.size)=true then _ else _) _ _ s
 rw [if_neg hno,tW]
 first
  | exact b_ (m:=HL _) (F6 (c_ ⟨_,rfl,c_ h⟩) htake)
  | exact b_ (m:=HL _) (F6 (b_ (c_ (c_ ⟨_,rfl,c_ h⟩))) htake)
  | exact b_ (b_ (m:=HL _) (F6 (c_ (c_ ⟨_,rfl,c_ h⟩)) htake))
  | exact b_ (b_ (m:=HL _) (F6 (c_ ⟨_,rfl,c_ h⟩) htake))
end
end HT
namespace L2
open PySem PySem.Spec PyProof.Rows
abbrev TO:=St→Hp→(Option Int→Hp→Prop)→Prop
def PO (X:Cx) (e:Option Expr) (t:TO):Prop :=
 ∀ (pins:List (Addr×Obj)) (s:Shared) (σ:St) (H:Hp) (Q:Option Int→Hp→Prop),Inv X pins σ H s→t σ H Q →
  l_ (o_ X.prog X.w) X.A (evalPart e X.env) (fun u s'=>∃ o H',Inv X pins σ H' s'∧Le u o∧Q o H') X.xe s
def wm:TO:=fun _ H Q=>Q none H
def Cu (t:TE):TO:=fun σ H Q=>t σ H fun x H1=>∃ i,x=.int i∧Q (some i) H1
section
variable {X:Cx} {e:Expr} {te:TE} {lo hi:Option Expr} {tl th:TO} {pos p2:Pos}
theorem wn:PO X none wm:=by
 intro pins s σ H Q I h
 rw [evalPart_none]
 exact c_ ⟨none,H,I,.none,h⟩
theorem wo (h:PE X e te):PO X (some e) (Cu te):=by
 intro pins s σ H Q I hw
 rw [evalPart_some]
 refine thn (h pins s σ H _ I hw) fun u s1 ⟨x,H1,I1,r1,q1⟩=>?_
 obtain ⟨i,rfl,q⟩:=q1
 obtain ⟨t,rfl⟩:=r1
 exact ⟨some i,H1,I1,.int i t,q⟩
def SlR (X:Cx) (r:V→Option Int→Option Int→Hp→VK→Prop):Prop :=
 ∀ (pins:List (Addr×Obj)) (s:Shared) (σ:St) (H:Hp) (x:V) (v vl vu:Value) (lo hi:Option Int) (sl:Addr) (Q:VK),Inv X pins σ H s→RelV x v→s.heap.IsSliceOf sl vl vu .none→Le vl lo→Le vu hi→r x lo hi H Q →
  ∃ T id,typeLookup (.type T) "__getitem__"=pure (some (.builtin id))∧s.TypeIs v T∧l_ (o_ X.prog X.w) X.A (La v (.ref sl)) (EP X pins σ Q) X.xe s
theorem SlR.or {r r':V→Option Int→Option Int→Hp→VK→Prop} (h:SlR X r) (h':SlR X r'):SlR X (fun x lo hi H Q=>r x lo hi H Q∨r' x lo hi H Q):=by
 intro pins s σ H x v vl vu lo hi sl Q I rx hs pl pu q
 rcases q with q | q
 · exact h pins s σ H x v vl vu lo hi sl Q I rx hs pl pu q
 · exact h' pins s σ H x v vl vu lo hi sl Q I rx hs pl pu q
def tSl (r:V→Option Int→Option Int→Hp→VK→Prop) (te:TE) (tl th:TO):TE:=fun σ H Q=>te σ H fun x H1=>tl σ H1 fun l H2=>th σ H2 fun u H3=>r x l u H3 Q
theorem oa {r:V→Option Int→Option Int→Hp→VK→Prop} (hr:SlR X r) (he:PE X e te) (hl:PO X lo tl) (hu:PO X hi th):PE X (.Subscript e (.Slice lo hi none p2) pos) (tSl r te tl th):=by
 intro pins s σ H Q I h
 refine Subscript_ (thn (he pins s σ H _ I h) fun v s1 ⟨x,H1,I1,r1,q1⟩=>?_)
 refine wpAny_Slice (thn (hl pins s1 σ H1 _ I1 q1) fun vl s2 ⟨l,H2,I2,pl,q2⟩=>thn (hu pins s2 σ H2 _ I2 q2) fun vu s3 ⟨u,H3,I3,pu,q3⟩=>?_)
 rw [evalPart_none]
 refine c_ ?_
 have I4:Inv X pins σ H3 { s3 with heap:=s3.heap.push { cls:=.type "slice",data:=.fields #[vl,vu,.none] } }:=I3.kept (t':=s3.toks) fun b ob q=>d_ _ q
 obtain ⟨T,id,hT,ht,hg⟩:=hr pins { s3 with heap:=s3.heap.push { cls:=.type "slice",data:=.fields #[vl,vu,.none] } } σ H3 x v vl vu l u s3.heap.objs.size Q I4 r1 (Heap.IsSliceOf.new ..) pl pu q3
 show l_ (o_ X.prog X.w) X.A (subscriptTail e (.Slice lo hi none p2) v (.ref s3.heap.objs.size)) (EP X pins σ Q) X.xe { s3 with heap:=s3.heap.push { cls:=.type "slice",data:=.fields #[vl,vu,.none] } }
 exact tail_any (ops:=[.ref s3.heap.objs.size,v]) ht hT hg (by with_unfolding_all rfl)
def tX (xs:List V) (lo hi:Option Int):List V:=(xs.drop (HT.sIx xs.length 0 lo)).take (HT.sIx xs.length xs.length hi - HT.sIx xs.length 0 lo)
theorem iD (xs:List V) (lo hi:Option Int):(tX xs lo hi).length≤xs.length:=by
 unfold tX
 rw [JK,MZ]
 omega
def EQ (K:ck):V→Option Int→Option Int→Hp→VK→Prop:=fun x lo hi H Q=>∃ a xs,x=.ref a∧SqT K H a xs ∧
 ¬ (HT.sIx xs.length 0 lo=0∧HT.sIx xs.length xs.length hi=xs.length)∧∀ p,H p=none→Q (.ref p) (upd H p (.tup (tX xs lo hi)))
theorem sl_tup:SlR X (EQ X.K):=by
 intro pins s σ H x v vl vu lo hi sl Q I rx hs pl pu h
 obtain ⟨a,xs,rfl,hx,hw,q⟩:=h
 cases rx
 obtain ⟨its,r,ht,hz⟩:=I.tuple hx
 have hlen:its.toArray.size=xs.length:=by rw [v_]; exact r.length.symm
 refine ⟨"tuple",_,Gf.lookup,ht.typeIs,?_⟩
 refine HT.getItem_tuple_cut ht hs pl pu (by rw [hlen]; exact hw) ?_ (by rw [hlen]; exact hz)
 rw [hlen]
 refine ⟨.ref s.heap.objs.size,_,I.laid (t':=s.toks) (o:=.tup (tX xs lo hi)) (fun b ob q=>d_ _ q) (j_ _) ?_,rfl,q _ (I.hok.fresh (j_ _))⟩
 exact ⟨FH (iD xs lo hi) hz,_,(r.drop (HT.sIx xs.length 0 lo)).take (HT.sIx xs.length xs.length hi - HT.sIx xs.length 0 lo),NG _ _⟩
def zd (K:ck):R2:=fun x y H Q=>∃ a b xs ys,x=.ref a∧y=.ref b∧SqT K H a xs∧SqT K H b ys∧xs≠[]∧xs.length + ys.length≤sizeLine ∧
 (ys=[]→Q (.ref a) H)∧(ys≠[]→∀ p,H p=none→Q (.ref p) (upd H p (.tup (xs ++ ys))))
theorem Vals.nil_iff {xs:List V} {us:List Value} (r:Vals xs us):us=[]↔xs=[]:=by
 cases r with
 | nil=>simp
 | cons _ _=>simp
theorem op_catT:OpR X (Hz .Add) (zd X.K):=by
 intro pins s σ H x y v u Q I rx ry h
 obtain ⟨a,b,xs,ys,rfl,rfl,ha,hb,hx,hz,q1,q2⟩:=h
 cases rx
 cases ry
 obtain ⟨its,r1,p1,_⟩:=I.tuple ha
 obtain ⟨its2,r2,p2,_⟩:=I.tuple hb
 refine HT.cat_tup p1 p2 (fun z=>hx (r1.nil_iff.mp z)) (fun z=>⟨.ref a,H,I,rfl,q1 (r2.nil_iff.mp z)⟩) (fun z=>?_) (by rw [← r1.length,← r2.length]; exact hz)
 refine ⟨.ref s.heap.objs.size,_,I.laid (t':=s.toks) (o:=.tup (xs ++ ys)) (fun b ob q=>d_ _ q) (j_ _) ?_,rfl,q2 (fun w=>z (r2.nil_iff.mpr w)) _ (I.hok.fresh (j_ _))⟩
 exact ⟨by rw [GM]; exact hz,_,r1.append r2,NG _ _⟩
end
def ixN (n:Nat) (i:Int):Option Nat:=if 0≤i then (if i < n then some i.toNat else none) else if -(n:Int)≤i then some (i + n).toNat else none
def atI {α:Type} (xs:List α) (i:Int):Option α:=(ixN xs.length i).bind fun j=>xs[j]?
theorem wp {n:Nat} {i:Int} {j:Nat} (h:ixN n i=some j):seqIndex? i n=some j∧j < n∧-(n:Int)≤i∧i < n:=by
 unfold ixN at h
 by_cases h0:0≤i
 · rw [if_pos h0] at h
   by_cases h1:i < n
   · rw [if_pos h1] at h
     have e:i.toNat=j:=FU h
     exact ⟨by rw [seqIndex_of h0 h1,e],by omega,by omega,h1⟩
   · rw [if_neg h1] at h; cases h
 · rw [if_neg h0] at h
   by_cases h1:-(n:Int)≤i
   · rw [if_pos h1] at h
     have e:(i + n).toNat=j:=FU h
     exact ⟨by rw [seqIndex_neg (by omega) h1,e],by omega,h1,by omega⟩
   · rw [if_neg h1] at h; cases h
theorem mI {α:Type} {xs:List α} {i:Int} {v:α} (h:atI xs i=some v):∃ j,seqIndex? i xs.length=some j∧xs[j]?=some v∧j < xs.length∧-(xs.length:Int)≤i∧i < xs.length:=by
 unfold atI at h
 cases e:ixN xs.length i with
 | none=>rw [e] at h; cases h
 | some j =>
  rw [e] at h
  obtain ⟨h1,h2,h3,h4⟩:=wp e
  exact ⟨j,h1,h,h2,h3,h4⟩
def qC (b:Expr):Prop:=∀ o i,M6 b false o i=operate [o,i] (La o i)
def IxR (X:Cx) (r:R2):Prop :=
 ∀ (value slice:Expr) (pins:List (Addr×Obj)) (s:Shared) (σ:St) (H:Hp) (x y:V) (v u:Value) (Q:VK),Inv X pins σ H s→RelV x v→RelV y u→r x y H Q →
  M6 slice false v u=operate [v,u] (La v u)→l_ (o_ X.prog X.w) X.A (subscriptTail value slice v u) (EP X pins σ Q) X.xe s
def MtR (X:Cx) (id:String) (r:V→List V→Hp→VK→Prop):Prop :=
 ∀ (pins:List (Addr×Obj)) (s:Shared) (σ:St) (H:Hp) (x:V) (xs:List V) (v:Value) (us:List Value) (Q:VK),Inv X pins σ H s→RelV x v→Vals xs us→r x xs H Q →
  l_ (o_ X.prog X.w) X.A (call (.builtin id) (v :: us)) (EP X pins σ Q) X.xe s
section
variable {X:Cx} {a b:Expr} {ta tb:TE} {pos:Pos}
theorem IxR.or {r r':R2} (h:IxR X r) (h':IxR X r'):IxR X (fun x y H Q=>r x y H Q∨r' x y H Q):=by
 intro value slice pins s σ H x y v u Q I rx ry q hs
 rcases q with q | q
 · exact h value slice pins s σ H x y v u Q I rx ry q hs
 · exact h' value slice pins s σ H x y v u Q I rx ry q hs
theorem MtR.or {id:String} {r r':V→List V→Hp→VK→Prop} (h:MtR X id r) (h':MtR X id r'):MtR X id (fun x xs H Q=>r x xs H Q∨r' x xs H Q):=by
 intro pins s σ H x xs v us Q I rx rs q
 rcases q with q | q
 · exact h pins s σ H x xs v us Q I rx rs q
 · exact h' pins s σ H x xs v us Q I rx rs q
theorem Cv {r:R2} (hr:IxR X r) (ha:PE X a ta) (hb:PE X b tb) (hs:qC b):PE X (.Subscript a b pos) (tOp r ta tb):=by
 intro pins s σ H Q I h
 exact Subscript_ (Ch ha hb I h fun v u s2 x y H2 I2 rx ry q=>hr a b pins s2 σ H2 x y v u Q I2 rx ry q (hs _ _))
def Eb (K:ck):R2:=fun x y H Q=>∃ p xs i v,x=.ref p∧y=.int i∧SqL K H p xs∧atI xs i=some v∧Q v H
def Ec (K:ck):R2:=fun x y H Q=>∃ p xs i v,x=.ref p∧y=.int i∧SqT K H p xs∧atI xs i=some v∧Q v H
def Ed:R2:=fun x y H Q=>∃ z i c,x=.str z∧y=.int i∧z.length≤sizeLine∧atI z.cps.toList i=some c∧Q (.str ⟨#[c]⟩) H
theorem ix_list:IxR X (Eb X.K):=by
 intro value slice pins s σ H x y v u Q I rx ry h hs
 obtain ⟨p,xs,i,z,rfl,rfl,hq,he,q⟩:=h
 cases rx
 obtain ⟨t,rfl⟩:=ry
 obtain ⟨its,r,pl,hz⟩:=I.list hq
 obtain ⟨j,h1,h2,h3,h4,h5⟩:=mI he
 obtain ⟨w,ew,rw'⟩:=r.get h2
 have hl:=r.length
 have hn:=nX
 have fin:EP X pins σ Q w s:=⟨z,H,I,rw',q⟩
 by_cases h0:0≤i
 · have hj:i.toNat=j:=by
    rw [seqIndex_of h0 h5] at h1
    exact FU h1
   exact item_listR pl.isList h0 (by omega) (by rw [hj]; simpa using ew) fin hs
 · have hj:(i + (its.toArray.size:Int)).toNat=j:=by
    rw [seqIndex_neg (by omega) h4] at h1
    rw [v_,← hl]
    exact FU h1
   exact Lf (x:=w) pl.isList.typeIs slot_list_getitem.lookup
    (wpAny_getItem_list_neg (Q:=fun r s'=>r=w∧EP X pins σ Q r s') pl.isList (by omega) (by rw [v_] <;> omega) (by omega) (by rw [hj]; simpa using ew) ⟨rfl,fin⟩) hs
theorem ix_tup:IxR X (Ec X.K):=by
 intro value slice pins s σ H x y v u Q I rx ry h hs
 obtain ⟨p,xs,i,z,rfl,rfl,hq,he,q⟩:=h
 cases rx
 obtain ⟨t,rfl⟩:=ry
 obtain ⟨its,r,pl,hz⟩:=I.tuple hq
 obtain ⟨j,h1,h2,h3,h4,h5⟩:=mI he
 obtain ⟨w,ew,rw'⟩:=r.get h2
 have hl:=r.length
 have hn:=nX
 have fin:EP X pins σ Q w s:=⟨z,H,I,rw',q⟩
 exact Lf (x:=w) pl.typeIs slot_tuple_getitem.lookup
  (getItem_tuple (j:=j) (Q:=fun r s'=>r=w∧EP X pins σ Q r s') pl (by omega) (by omega) (by rw [v_,← hl]; exact h1) (by simpa using ew) ⟨rfl,fin⟩) hs
theorem ze:IxR X Ed:=by
 intro value slice pins s σ H x y v u Q I rx ry h hs
 obtain ⟨z,i,c,rfl,rfl,hz,he,q⟩:=h
 obtain ⟨t,rfl⟩:=rx
 obtain ⟨t',rfl⟩:=ry
 obtain ⟨j,h1,h2,h3,h4,h5⟩:=mI he
 have hl:z.cps.toList.length=z.length:=by simp [Str.length]
 rw [hl] at h1 h4 h5
 have hn:=nX
 exact tail_any (IV s z t) slot_str_getitem.lookup (getItem_str (c:=c) (by
  have e1:decide (i < -(2 ^ 63:Int))=false:=decide_eq_false (by omega)
  have e2:decide (i ≥ 2 ^ 63)=false:=decide_eq_false (by omega)
  rw [e1,e2,Bool.or_false]) (by rw [h1]; simpa using h2) ⟨.str ⟨#[c]⟩,H,I.tok _,⟨_,rfl⟩,q⟩) hs
def rIx (K:ck):R2:=fun x y H Q=>Eb K x y H Q∨Ec K x y H Q∨Ed x y H Q
theorem zg:IxR X (rIx X.K):=ix_list.or (ix_tup.or ze)
theorem Inv.lst {pins:List (Addr×Obj)} {σ:St} {H:Hp} {s:Shared} {p:Addr} {xs:List V} (I:Inv X pins σ H s) (h:H p=some (.lst xs)) :
 ∃ (its:List Value) (n:Nat),Vals xs its∧s.heap.get? p=some { cls:=.type "list",data:=.seq its.toArray n }∧xs.length≤sizeLine:=by
 obtain ⟨z,its,n,r,e⟩:=I.hok p _ h
 exact ⟨its,n,r,e,z⟩
theorem kW (lo hi:Option Int) (n:Nat):(Jb lo hi none n).1=((HT.sIx n 0 lo:Nat):Int)∧(Jb lo hi none n).2.1=((HT.sIx n n hi:Nat):Int)∧(Jb lo hi none n).2.2=1:=by
 refine ⟨?_,?_,rfl⟩
 · cases lo with
   | none=>simp [Jb,HT.sIx]
   | some i =>
    simp only [Jb,HT.sIx,MV,show (1:Int) > 0 by decide,if_true]
    by_cases h:i < 0
    · simp only [h,if_true] <;> omega
    · simp only [h,if_false] <;> omega
 · cases hi with
   | none=>simp [Jb,HT.sIx]
   | some i =>
    simp only [Jb,HT.sIx,MV,show (1:Int) > 0 by decide,if_true]
    by_cases h:i < 0
    · simp only [h,if_true] <;> omega
    · simp only [h,if_false] <;> omega
theorem jZ (its:List Value) (lo hi:Option Int):slicePick its.toArray lo hi none=((its.drop (HT.sIx its.length 0 lo)).take (HT.sIx its.length its.length hi - HT.sIx its.length 0 lo)).toArray:=by
 obtain ⟨h1,h2,h3⟩:=kW lo hi its.toArray.size
 unfold slicePick
 rw [h1,h2,h3]
 simp only [sliceRange_one,pick_run,v_] <;> rfl
def ER (K:ck):V→Option Int→Option Int→Hp→VK→Prop:=fun x lo hi H Q=>∃ a xs,x=.ref a∧SqL K H a xs∧∀ p,H p=none→Q (.ref p) (upd H p (.lst (tX xs lo hi)))
theorem qD:SlR X (ER X.K):=by
 intro pins s σ H x v vl vu lo hi sl Q I rx hs pl pu h
 obtain ⟨a,xs,rfl,hx,q⟩:=h
 cases rx
 obtain ⟨its,r,ht,hz⟩:=I.list hx
 have hlen:=r.length
 refine ⟨"list",_,slot_list_getitem.lookup,ht.isList.typeIs,?_⟩
 refine wpAny_getItem_list_slice ht.isList hs pl pu .none (by simp) ?_ (by rw [v_] <;> omega)
 rw [jZ,← hlen]
 refine ⟨.ref s.heap.objs.size,_,I.laid (t':=s.toks) (o:=.lst (tX xs lo hi)) (fun b ob q=>d_ _ q) (j_ _) ?_,rfl,q _ (I.hok.fresh (j_ _))⟩
 exact ⟨FH (iD xs lo hi) hz,_,0,(r.drop (HT.sIx xs.length 0 lo)).take (HT.sIx xs.length xs.length hi - HT.sIx xs.length 0 lo),h_ _ rfl⟩
def dL:V→Bool
 | .non=>true
 | .bl _=>true
 | .int _=>true
 | .str _=>true
 | _=>false
def eqV:V→V→Bool
 | .non,.non=>true
 | .bl a,.bl b=>a == b
 | .bl a,.int b=>(if a then 1 else 0) == b
 | .int a,.bl b=>a == (if b then 1 else 0)
 | .int a,.int b=>a == b
 | .str a,.str b=>a == b
 | _,_=>false
theorem zh {A:q_} {s:Shared} {y x:V} {u v:Value} (ry:RelV y u) (rx:RelV x v) (fy:dL y=true) (fx:dL x=true):SeqAt.EqAt A s u v (eqV y x):=by
 cases y with
 | non =>
  cases ry
  cases x with
  | non=>cases rx; exact SeqAt.EqAt.same _
  | bl b=>cases rx; exact SeqAt.EqAt.none_bool b
  | int b=>obtain ⟨t,rfl⟩:=rx; exact SeqAt.EqAt.none_int b t
  | str b=>obtain ⟨t,rfl⟩:=rx; exact SeqAt.EqAt.none_str b t
  | _=>exact absurd (show false=true from fx) rl
 | bl a =>
  cases ry
  cases x with
  | non=>cases rx; exact SeqAt.EqAt.bool_none a
  | bl b=>cases rx; exact LJ a b
  | int b=>obtain ⟨t,rfl⟩:=rx; exact SeqAt.EqAt.bool_int a b t
  | str b=>obtain ⟨t,rfl⟩:=rx; exact SeqAt.EqAt.bool_str a b t
  | _=>exact absurd (show false=true from fx) rl
 | int a =>
  obtain ⟨t',rfl⟩:=ry
  cases x with
  | non=>cases rx; exact SeqAt.EqAt.int_none a t'
  | bl b=>cases rx; exact SeqAt.EqAt.int_bool a t' b
  | int b=>obtain ⟨t,rfl⟩:=rx; exact SeqAt.EqAt.int_int a t' b t
  | str b=>obtain ⟨t,rfl⟩:=rx; exact Mp a t' b t
  | _=>exact absurd (show false=true from fx) rl
 | str a =>
  obtain ⟨t',rfl⟩:=ry
  cases x with
  | non=>cases rx; exact SeqAt.EqAt.str_none a t'
  | bl b=>cases rx; exact SeqAt.EqAt.str_bool a t' b
  | int b=>obtain ⟨t,rfl⟩:=rx; exact Mn a t' b t
  | str b=>obtain ⟨t,rfl⟩:=rx; exact SeqAt.EqAt.str_str a t' b t
  | _=>exact absurd (show false=true from fx) rl
 | _=>exact absurd (show false=true from fy) rl
def eqU (x:V) (u:Value):Bool:=match u with
 | .none=>eqV .non x
 | .bool b=>eqV (.bl b) x
 | .int i _=>eqV (.int i) x
 | .str z _=>eqV (.str z) x
 | _=>false
theorem og {x y:V} {u:Value} (r:RelV y u) (f:dL y=true):eqU x u=eqV y x:=by
 cases y with
 | non=>cases r; rfl
 | bl b=>cases r; rfl
 | int i=>obtain ⟨t,rfl⟩:=r; rfl
 | str z=>obtain ⟨t,rfl⟩:=r; rfl
 | _=>exact absurd (show false=true from f) rl
theorem iE {x:V}:∀ {xs:List V} {us:List Value},Vals xs us→xs.all dL=true→us.any (eqU x)=xs.any fun y=>eqV y x
 | _,_,.nil,_=>rfl
 | y :: xs,u :: us,.cons r t,f=>by
  rw [GK,k_] at f
  rw [JR,JR,og r f.1,iE t f.2]
theorem dt {A:q_} {s:Shared} {x:V} {v:Value} (rx:RelV x v) (fx:dL x=true):∀ {xs:List V} {us:List Value},Vals xs us→xs.all dL=true→∀ u∈us,SeqAt.EqAt A s u v (eqU x u)
 | _,_,.nil,_=>fun u hu=>by cases hu
 | y :: xs,u :: us,.cons r t,f=>fun u' hu=>by
  rw [GK,k_] at f
  rcases p_.mp hu with rfl | hu
  · rw [og r f.1]; exact zh r rx f.1 fx
  · exact dt rx fx t f.2 u' hu
def inV (x:V) (xs:List V):Bool:=xs.any fun y=>eqV y x
def rIn (K:ck) (neg:Bool):R2:=fun x y H Q=>∃ p xs,y=.ref p∧(SqL K H p xs∨SqT K H p xs)∧dL x=true∧xs.all dL=true∧Q (.bl (if neg then !inV x xs else inV x xs)) H
theorem qE:OpR X (FJ .In) (rIn X.K false):=by
 intro pins s σ H x y v u Q I rx ry h
 obtain ⟨p,xs,rfl,hq,fx,fs,q⟩:=h
 cases ry
 rcases hq with hq | hq
 · obtain ⟨its,r,pl,hz⟩:=I.list hq
   refine SeqAt.in_listAt (eqU x) pl.isList (fun w hw=>dt rx fx r fs w (by simpa using hw)) ⟨.bl _,H,I,rfl,?_⟩
   rw [show its.toArray.any (eqU x)=its.any (eqU x) by simp,iE r fs]
   exact q
 · obtain ⟨its,r,pl,hz⟩:=I.tuple hq
   refine SeqAt.in_tupleAt (eqU x) pl (fun w hw=>dt rx fx r fs w (by simpa using hw)) ⟨.bl _,H,I,rfl,?_⟩
   rw [show its.toArray.any (eqU x)=its.any (eqU x) by simp,iE r fs]
   exact q
theorem kX:OpR X (FJ .NotIn) (rIn X.K true):=by
 intro pins s σ H x y v u Q I rx ry h
 obtain ⟨p,xs,rfl,hq,fx,fs,q⟩:=h
 cases ry
 rcases hq with hq | hq
 · obtain ⟨its,r,pl,hz⟩:=I.list hq
   refine SeqAt.notIn_listAt (eqU x) pl.isList (fun w hw=>dt rx fx r fs w (by simpa using hw)) ⟨.bl _,H,I,rfl,?_⟩
   rw [show its.toArray.any (eqU x)=its.any (eqU x) by simp,iE r fs]
   exact q
 · obtain ⟨its,r,pl,hz⟩:=I.tuple hq
   refine SeqAt.notIn_tupleAt (eqU x) pl (fun w hw=>dt rx fx r fs w (by simpa using hw)) ⟨.bl _,H,I,rfl,?_⟩
   rw [show its.toArray.any (eqU x)=its.any (eqU x) by simp,iE r fs]
   exact q
theorem op_notIn_str:OpR X (FJ .NotIn) (fun x y H Q=>∃ i j,x=.str i∧y=.str j∧Q (.bl (!(!(Gk j i 0 j.length 1).isEmpty))) H):=by
 intro pins s σ H x y v u Q I rx ry h
 obtain ⟨i,j,rfl,rfl,q⟩:=h
 obtain ⟨t,rfl⟩:=rx
 obtain ⟨t',rfl⟩:=ry
 exact notIn_str ⟨.bl _,H,I,rfl,q⟩
theorem CallR.or {f:Value} {r r':List V→Hp→VK→Prop} (h:CallR X f r) (h':CallR X f r'):CallR X f (fun xs H Q=>r xs H Q∨r' xs H Q):=by
 intro pins s σ H xs us Q I rs q
 rcases q with q | q
 · exact h pins s σ H xs us Q I rs q
 · exact h' pins s σ H xs us Q I rs q
theorem j3:CallR X (.type "tuple") (fun xs H Q=>∃ p ys,xs=[.ref p]∧((SqL X.K H p ys∧∀ l,H l=none→Q (.ref l) (upd H l (.tup ys)))∨(SqT X.K H p ys∧Q (.ref p) H))):=by
 intro pins s σ H xs us Q I r h
 obtain ⟨p,ys,rfl,h⟩:=h
 obtain ⟨u,rfl,rx⟩:=dJ r
 cases rx
 rcases h with ⟨hq,q⟩ | ⟨hq,q⟩
 · obtain ⟨its,r',pl,hz⟩:=I.list hq
   have hlen:=r'.length
   refine call_tuple_list pl.isList (fun h' kp=>?_) (by simp only [v_] <;> omega)
   have I1:Inv X pins σ H { s with heap:=h' }:=I.kept (t':=s.toks) kp
   have I2:Inv X pins σ (upd H h'.objs.size (.tup ys)) { s with heap:=h'.push { cls:=.type "tuple",data:=.seq its.toArray } } :=
    I1.laid (t':=s.toks) (fun b o e=>d_ _ e) (j_ _) (show ObjOk X.prog X.w _ _ _ (.tup ys) from ⟨hz,its,r',NG _ _⟩)
   exact ⟨.ref h'.objs.size,_,I2,rfl,q _ (I1.hok.fresh (j_ _))⟩
 · obtain ⟨its,r',pl,hz⟩:=I.tuple hq
   exact call_tuple_same pl ⟨.ref p,H,I,rfl,q⟩
def tyV (K:ck) (T:String) (x:V) (H:Hp):Prop:=match x with
 | .str _=>T="str"
 | .int _=>T="int"
 | .ref p=>(T="list"∧∃ xs,SqL K H p xs)∨(T="tuple"∧∃ o,K.lookup p=some o∧o.cls=.type "tuple"∧o.dict=none) ∨
  (T="dict"∧((∃ kvs,H p=some (.dK kvs))∨∃ kvs,H p=some (.dT kvs)))∨(T="set"∧∃ S n,H p=some (.set S n))
 | _=>False
theorem zi {pins:List (Addr×Obj)} {σ:St} {H:Hp} {s:Shared} {T:String} {x:V} {v:Value} (I:Inv X pins σ H s) (r:RelV x v) (ty:tyV X.K T x H) :
 s.TypeIs v T∧∀ a,v=.ref a→∃ ob,s.heap.get? a=some ob∧ob.dict=none:=by
 cases x with
 | str z =>
  obtain ⟨t,rfl⟩:=r
  cases (show T="str" from ty)
  exact ⟨IV s z t,fun _ e=>nomatch e⟩
 | int i =>
  obtain ⟨t,rfl⟩:=r
  cases (show T="int" from ty)
  exact ⟨typeIs_int s i t,fun _ e=>nomatch e⟩
 | ref p =>
  cases r
  rcases ty with ⟨rfl,xs,hq⟩ | ⟨rfl,o,hk,hc,hd⟩ | ⟨rfl,hk⟩ | ⟨rfl,S,n,hk⟩
  · obtain ⟨its,_,pl,_⟩:=I.list hq
    refine ⟨pl.isList.typeIs,fun a e=>?_⟩
    cases e
    obtain ⟨o,n,e,c,hd,_⟩:=pl
    exact ⟨o,e,hd⟩
  · refine ⟨⟨o,I.kIn p o hk,hc⟩,fun a e=>?_⟩
    cases e
    exact ⟨o,I.kIn _ o hk,hd⟩
  · have z:∃ o,s.heap.get? p=some o∧o.ExactDict:=by
     rcases hk with ⟨kvs,hk⟩ | ⟨kvs,hk⟩
     · obtain ⟨_,_,_,_,o,_,_,e,ex,_⟩:=I.hok p _ hk
       exact ⟨o,e,ex⟩
     · obtain ⟨_,_,_,_,o,_,_,e,ex,_⟩:=I.hok p _ hk
       exact ⟨o,e,ex⟩
    obtain ⟨o,e,ex⟩:=z
    refine ⟨⟨o,e,ex.1⟩,fun a e2=>?_⟩
    cases e2
    exact ⟨o,e,ex.2.1⟩
  · obtain ⟨o,_,_,_,e,ex,_⟩:=I.hok p _ hk
    refine ⟨⟨o,e,ex.1⟩,fun a e2=>?_⟩
    cases e2
    exact ⟨o,e,ex.2.1⟩
 | _=>exact Gd ty
def tBM (K:ck) (T:String) (r:V→List V→Hp→VK→Prop) (to:TE) (t:TA):TE:=fun σ H Q=>to σ H fun x H1=>tyV K T x H1∧t σ H1 fun xs H2=>r x xs H2 Q
variable {o e:Expr} {es:List Expr} {to:TE} {t:TA} {name:Str} {apos cpos:Pos} {T id:String} {r:V→List V→Hp→VK→Prop}
theorem tY (pa:PlainAttrs T) (slot:Slot T name id) (hty:Nj (.builtin id)=pure (.type "method_descriptor")) (hm:MtR X id r) (ho:PE X o to) (ha:PA X (e :: es) t)
 (hbase:Iq o name X.env (eval o X.env)=eval o X.env:=by rfl)
 (hfew:((F0 cpos (e_ (e :: es) X.env)).all (fun x=>!x.1) && (Ii cpos (GY [] X.env)).all (fun x=>x.1.isSome)
   && decide ((e :: es).length + ([]:List Iv).length + (if ([]:List Iv).isEmpty then 0 else 1) < 30))=true:=by rfl)
 (hline:(apos.endLine == cpos.line)=true:=by rfl) (hs:e_ (e :: es) X.env=(false,eval e X.env) :: e_ es X.env:=by rfl) (hplain:(F0 cpos (e_ es X.env)).any (·.1)=false:=by rfl) :
 PE X (.Call (.Attribute o name apos) (e :: es) [] cpos) (tBM X.K T r to t):=by
 intro pins s σ H Q I h
 refine wpAny_Call_method_late hbase hfew hline rfl (thn (ho pins s σ H _ I h) fun v s1 ⟨x,H1,I1,r1,ty,q1⟩=>?_)
 obtain ⟨h1,h2⟩:=zi I1 r1 ty
 refine ⟨T,id,pa,slot,hty,h1,h2,?_⟩
 have hA:=ha cpos pins s1 σ H1 _ I1 q1
 rw [hs] at hA ⊢
 refine Calls.callWith_builtin (by show (false || (F0 cpos (e_ es X.env)).any (·.1))=false; rw [hplain] <;> rfl) (Calls.evalArgs_plain ?_)
 exact thn hA fun us s2 ⟨vs,H2,I2,r2,q2⟩=>hm pins s2 σ H2 x vs v us Q I2 r1 r2 q2
end
def MtM (X:Cx) (id:String) (r:V→List V→Hp→VK→Prop):Prop :=
 ∀ (pins:List (Addr×Obj)) (s:Shared) (σ:St) (H:Hp) (x:V) (xs:List V) (v:Value) (us:List Value) (Q:VK),Inv X pins σ H s→RelV x v→Vals xs us→r x xs H Q →
  l_ (o_ X.prog X.w) X.A (call (.builtin id) (v :: us)) (EP X pins σ Q) X.xe s
theorem Vals.one:∀ {x:V} {us:List Value},Vals [x] us→∃ u,us=[u]∧RelV x u
 | _,_,.cons r .nil=>⟨_,rfl,r⟩
theorem Vals.two:∀ {x y:V} {us:List Value},Vals [x,y] us→∃ u v,us=[u,v]∧RelV x u∧RelV y v
 | _,_,_,.cons r (.cons q .nil)=>⟨_,_,rfl,r,q⟩
theorem Vals.zero:∀ {us:List Value},Vals [] us→us=[]
 | _,.nil=>rfl
theorem Vals.eraseIdx:∀ {xs:List V} {us:List Value} (i:Nat),Vals xs us→Vals (xs.eraseIdx i) (us.eraseIdx i)
 | _,_,_,.nil=>.nil
 | _,_,0,.cons _ t=>t
 | _,_,i + 1,.cons r t=>.cons r (Vals.eraseIdx i t)
theorem Vals.reverse {xs:List V} {us:List Value} (h:Vals xs us):Vals xs.reverse us.reverse:=by
 induction h with
 | nil=>exact .nil
 | cons r t ih=>rw [HF,HF]; exact Vals.append ih (.cons r .nil)
section
variable {X:Cx} {pins:List (Addr×Obj)} {σ:St} {H:Hp} {s:Shared} {l b:Addr} {xs ys zs:List V}
theorem Inv.lset {its its':List Value} {n:Nat} {f:Array Value→Array Value} {t':Nat} (I:Inv X pins σ H s) (hH:H l=some (.lst xs))
 (e:s.heap.get? l=some { cls:=.type "list",data:=.seq its.toArray n }) (hf:f its.toArray=its'.toArray) (hv:Vals ys its') (hz:ys.length≤sizeLine) :
 Inv X pins σ (upd H l (.lst ys)) { s with heap:=s.heap.update l (Fy f),toks:=t' }:=by
 have q:=MU e f
 rw [hf] at q
 refine I.write (x:=l) (e:=l) (by rw [hH]; exact trivial) (.inl rfl) (fun b' u hb hu=>(Ia s.heap (Fy f) (IC hb)).trans hu) ⟨_,q⟩ ?_
 exact ⟨hz,its',_,hv,q⟩
theorem Inv.lnew {its:List Value} {t':Nat} (I:Inv X pins σ H s) (hv:Vals ys its) (hz:ys.length≤sizeLine) :
 Inv X pins σ (upd H s.heap.objs.size (.lst ys)) { s with heap:=s.heap.push { cls:=.type "list",data:=.seq its.toArray },toks:=t' } :=
 I.laid (fun _ _ q=>d_ _ q) (j_ _) ⟨hz,its,0,hv,h_ _ rfl⟩
theorem Inv.fresh (I:Inv X pins σ H s):H s.heap.objs.size=none:=I.hok.fresh (j_ _)
theorem Inv.lstM (I:Inv X pins σ H s) (hH:H l=some (.lst xs)):xs.length≤sizeLine∧∃ (its:List Value) (n:Nat),Vals xs its∧xs.length=its.length∧s.heap.get? l=some { cls:=.type "list",data:=.seq its.toArray n }:=by
 obtain ⟨z,its,n,r,e⟩:=I.hok l _ hH
 exact ⟨z,its,n,r,r.length,e⟩
end
section
variable {X:Cx}
def wq:V→List V→Hp→VK→Prop:=fun x vs H Q=>∃ l xs y,x=.ref l∧vs=[y]∧H l=some (.lst xs)∧xs.length < sizeLine∧Q .non (upd H l (.lst (xs ++ [y])))
theorem qF:MtM X "list.append" wq:=by
 intro pins s σ H x vs v us Q I rx rv h
 obtain ⟨l,xs,y,rfl,rfl,hH,hz,q⟩:=h
 cases rx
 obtain ⟨u,rfl,ru⟩:=rv.one
 obtain ⟨z,its,n,r,hl,e⟩:=I.lstM hH
 refine IW JV ⟨_,e,rfl⟩ L7 (LN _ _) (Mv l its.toArray n u (by rw [v_]; omega)) ⟨e,?_⟩
 refine ⟨.non,_,I.lset (its':=its ++ [u]) hH e (by simp) (r.append (.cons ru .nil)) ?_,rfl,q⟩
 rw [GM,Lw]
 omega
def Ee:R2:=fun x y H Q=>∃ l b xs zs,x=.ref l∧y=.ref b∧H l=some (.lst xs)∧H b=some (.lst zs)∧xs.length + zs.length≤sizeLine∧∀ p,H p=none→Q (.ref p) (upd H p (.lst (xs ++ zs)))
theorem zj:OpR X (Hz .Add) Ee:=by
 intro pins s σ H x y v u Q I rx ry h
 obtain ⟨l,b,xs,zs,rfl,rfl,hH,hB,hz,q⟩:=h
 cases rx
 cases ry
 obtain ⟨z,its,n,r,hl,e⟩:=I.lstM hH
 obtain ⟨z2,its2,n2,r2,hl2,e2⟩:=I.lstM hB
 refine PySem.P.add_list e e2 ?_ (by rw [v_,v_]; omega)
 have ea:its.toArray ++ its2.toArray=(its ++ its2).toArray:=by simp
 rw [ea]
 exact ⟨.ref _,_,I.lnew (t':=s.toks) (r.append r2) (by rw [GM]; omega),rfl,q _ I.fresh⟩
end
section
variable {prog:Program} {w:uk} {A:q_} {E:Value→Shared→Prop} {s:Shared}
end
section
variable {X:Cx}
end
end L2
namespace Att
open PySem PySem.W PySem.Calls PyProof.Rows
theorem iF {P:JJ} {h:Heap}:∀ (ns:List Int) (vs:List Value),WellAll P h vs (ns.map WData.int)→KG vs ns:=by
 intro ns
 induction ns with
 | nil =>
  intro vs w
  rw [List.map_nil] at w
  cases w
  exact .nil
 | cons n ns ih =>
  intro vs w
  rw [xy] at w
  cases w with
  | cons a b =>
   cases a
   exact .cons _ _ (ih _ b)
theorem qG {l:OpenLaw} {n:Nat} (hn:l.most=some n) {P:JJ} {h:Heap} {args:List WData} {vals:List Value}
 (hpre:l.row.toRowW.claim.pre args=true) (hwl:WellAll P h vals args) :
 ∃ a vs ns,vals=[s_ a]∧args=[WData.list (ns.map WData.int)]∧h.get? a=some { cls:=.type "list",data:=.seq vs.toArray }∧KG vs ns∧ns.length≤n:=by
 have hsh:WShape.hasAll [] args [.list .int]=true:=(pre_splitW hpre).1
 have hc:l.pre.holds [] { args:=args }=true:=(pre_splitW hpre).2
 obtain ⟨d,r,rfl,h1,h2⟩:=hasAllW_cons hsh
 obtain rfl:=hasAllW_nil h2
 obtain ⟨xs,rfl,h3⟩:=hasW_list h1
 obtain ⟨ns,rfl⟩:=items_int h3
 have hlen:ns.length≤n:=by
  unfold OpenLaw.pre at hc
  have h4:(WTm.not (.lt (.lit (.int (n:Int))) (.len (.arg 0)))).holds [] { args:=[.list (ns.map .int)] }=true:=by
   have h4:=(holds_andW hc).1
   rw [hn] at h4
   exact h4
  have h5:=condW_of h4 (w_not (w_lt w_lit (w_len_list (w_arg rfl))))
  rw [y_] at h5
  refine Nat.le_of_not_lt fun q=>?_
  have q':(n:Int) < ((ns.length:Nat):Int):=by omega
  first
   | (rw [decide_eq_true q'] at h5; exact absurd h5 (by decide))
   | (simp at h5; omega)
 cases hwl with
 | cons w1 w2 =>
  cases w2
  cases w1 with
  | list ho hall=>exact ⟨_,_,ns,rfl,rfl,ho,iF ns _ hall,hlen⟩
theorem qH (l:OpenLaw) (args:List WData):l.row.toRowW.claim.post args (.bool true) args=true :=
 postW_of (r:=l.row.toRowW) (X:=(true == true))
  (show WShape.has [] (.bool true) .bool=true by first | rfl | decide | simp [WShape.has,WShape.arms,WShape.armsAll])
  (show (WTm.eq .res (.lit (.bool true))).value [] { args:=args,res:=some (.bool true),after:=args }=some (.bool (true == true)) from w_eq_bool (w_res rfl) w_lit) rfl
theorem attach_call {l:OpenLaw} {n:Nat} {q:Program} {loose:List Str} {XP:(Str→Option Value)→Heap→Prop} {YP:uk→Heap→Prop} {d:DefRec}
 (hn:l.most=some n) (hdf:d.params.defaults=[])
 (call:∀ (w:uk) (s₀ s₁:Shared) (mg mb:Str→Option Value) (fa:Addr) (o:Obj) (pm cd doc:Value) (a:Addr) (vs:List Value) (ns:List Int),
   Ground q loose [] XP w s₀ mg mb s₁.heap→YP w s₁.heap →
   s₁.heap.get? fa=some o→o.data=.func (docDef d.name d.params d.body d.scope pm cd doc)→s₁.heap.CodeRec cd d.name→mg d.name=some (.ref fa) →
   s₁.heap.get? a=some { cls:=.type "list",data:=.seq vs.toArray }→KG vs ns→ns.length≤n→s₁.gens=#[] →
   HZ (o_ l.prog w) IR (.call (.ref fa) ⟨[.ref a],[]⟩) (fun r s'=>r=.ok (.ret (.bool true))∧OldK s₁.heap s'.heap∧s'.os=s₁.os∧Ju s'.gens) s₁) :
 WalkO q loose XP YP l.row.toRowW d [] (fun f vs=>Mm f vs):=by
 intro w s₀ s₁ mg mb G Y fa o pm cd doc dV kV ho hd hcd hD hmg hg args vals as hpre hlay hrd hwl hlo
 obtain rfl:dV=.none:=Dflts.none hD hdf
 obtain rfl:kV=.none:=Dflts.noKw hD
 obtain ⟨a,vs,ns,rfl,rfl,hobj,hints,hlen⟩:=qG hn hpre hwl
 refine enter_call (G5 (call w s₀ s₁ mg mb fa o pm cd doc a vs ns G Y ho (fd_plain hd) hcd hmg hobj hints hlen hg) fun r s' hq=>?_)
 obtain ⟨rfl,h2,h3,h4⟩:=hq
 exact ⟨.inl ⟨.bool true,.bool true,[],rfl,fun _=>rfl,.bool true,qH l _,fun _=>⟨Jz,fun _ hm=>(nomatch hm)⟩⟩,h2,h3,h4⟩
section
variable {prog:Program} {w:uk} {A:q_} {E:Value→Shared→Prop} {s:Shared} {K:Frag}
def Ef (h:Heap) (L d:Addr):List (Addr×Obj):=(f_ h.objs.size).filterMap fun a=>if a=L∨a=d then none else (h.get? a).map fun o=>(a,o)
end
end Att
namespace L2
open PySem PySem.Spec PyProof.Rows
theorem c0:∀ {vs:List Value} {ns:List Int},KG vs ns→Vals (ns.map V.int) vs
 | _,_,.nil=>.nil
 | _,_,.cons n t h=>.cons ⟨t,rfl⟩ (c0 h)
def Cw (H:Hp):Prop:=∀ b,H b=none∨∃ o xs,H b=some (.frz o (.lst xs))
theorem tZ {P:Program} {w:uk} {K:ck} {mg mb:Str→Option Value} {CX:CXT} {k:Nat} {fa a:Addr} {fd:Gp} {x:Str} {sp:Sp} {s₁:Shared} {vs:List Value} {ns:List Int}
 (KX:K.In s₁.heap) (hns:s₁.heap.Ns t_ mg) (hb:s₁.heap.Ns builtinsNs mb) (hbb:∀ x:Str,x≠"__name__"→mb x=GF x) (hlim:s₁.heap.NoLimit) (hg:s₁.gens=#[])
 (ha:s₁.heap.get? a=some { cls:=.type "list",data:=.seq vs.toArray }) (hi:KG vs ns) (hl:ns.length≤sizeLine) (hr:Room k IR)
 (F:∀ base:Heap,K.In base→base.Ns t_ mg→FnOk P w K mg base CX k fa fd [x] sp) (hbind:∀ (s:Shared) (u:Value),Ke s fd ⟨[u],[]⟩ [(x,u)])
 (hsp:∀ H:Hp,Cw H→SqL K H a (ns.map V.int)→sp [.ref a] H (fun v _=>v=.bl true) fun _ _ _=>False)
 (hCX:∀ H e s',CX [] H s₁ (fun _ _ _=>False) e s'→False) :
 HZ (o_ P w) IR (.call (.ref fa) ⟨[.ref a],[]⟩) (fun r s'=>r=.ok (.ret (.bool true))∧OldK s₁.heap s'.heap∧s'.os=s₁.os∧Ju s'.gens) s₁:=by
 have rv:=c0 hi
 have lenV:=hi.length
 have core:∀ H:Hp,Cw H→SqL K H a (ns.map V.int)→HOk P w H s₁.heap→(∀ b,H b≠none→b=a)→(H a≠none→K.lookup a=none) →
  HZ (o_ P w) IR (.call (.ref fa) ⟨[.ref a],[]⟩) (fun r s'=>r=.ok (.ret (.bool true))∧OldK s₁.heap s'.heap∧s'.os=s₁.os∧Ju s'.gens) s₁:=by
  intro H hO hS hok hA hK
  have base_of:∀ {b:Addr} {o:Obj},s₁.heap.get? b=some o→H b=none→(nO s₁.heap H).get? b=some o:=fun e n=>nQ e n
  have noA:∀ {b:Addr} {o:Obj} {es:Array DictEntry} {ep:Nat},s₁.heap.get? b=some o→o.data=.dict es ep→H b=none:=fun {b o es ep} e d=>by
   cases q:H b with
   | none=>rfl
   | some u =>
    have e':b=a:=hA b (by rw [q]; simp)
    subst e'
    rw [ha] at e; cases e
    have d':Data.seq vs.toArray _=IB es ep:=d
    cases d'
  have nsK:∀ {b:Addr} {m:Str→Option Value},s₁.heap.Ns b m→(nO s₁.heap H).Ns b m:=fun {b m} ⟨o,es,ep,e,d,r⟩=>⟨o,es,ep,base_of e (noA e d),d,r⟩
  have hKb:K.In (nO s₁.heap H):=fun b o e=>base_of (KX b o e) (by
   cases q:H b with
   | none=>rfl
   | some u =>
    have e':b=a:=hA b (by rw [q]; simp)
    subst e'
    rw [hK (by rw [q]; simp)] at e; cases e)
  have hM:Mod K mg (nO s₁.heap H):=⟨hKb,nsK hns,⟨mb,nsK hb,hbb⟩,let ⟨mc,h1,h2⟩:=hlim; ⟨mc,nsK h1,h2⟩⟩
  have e0:Env0 P w K mg (nO s₁.heap H) IR [] s₁ H:=⟨rfl,hM,fun b o e=>qb e,Ig (kN _ _),trivial,fun b hb=>absurd (show b∈([]:List Addr) from hb) (by simp),hok,.of_eq hg⟩
  refine G5 ((F _ hKb (nsK hns)).run IR [] s₁ H ⟨[.ref a],[]⟩ [.ref a] [.ref a] _ _ hr e0 (hbind s₁ (.ref a)) (.cons rfl .nil) (hsp H hO hS)) fun r s' h=>?_
  cases r with
  | error e=>exact (hCX H e s' h).elim
  | ok fl =>
   cases fl with
   | next=>exact Gd h
   | brk=>exact Gd h
   | cont=>exact Gd h
   | ret u =>
    obtain ⟨v,H',os,bare,un,hok',r',q⟩:=h
    have q':v=.bl true:=q
    subst q'
    obtain rfl:u=GA true:=r'
    refine ⟨rfl,OldK.of_keep fun b o e=>?_,os,bare⟩
    cases q:H b with
    | none=>exact un.keep b o e q (by intro z; exact absurd (show b∈([]:List Addr) from z) (by simp)) (by simp)
    | some u =>
     rcases hO b with z | ⟨ob,xs,z⟩
     · rw [q] at z; cases z
     · have z2:=un.frzs b ob _ z
       obtain ⟨e1,_⟩:=hok b _ z
       obtain ⟨e2,_⟩:=hok' b _ z2
       rw [e] at e1; cases e1
       exact e2
 cases hk:K.lookup a with
 | some o =>
  have e:=KX a o hk
  rw [ha] at e
  cases e
  refine core (fun _=>none) (fun _=>.inl rfl) (.inr ⟨_,vs.toArray,_,hk,rfl,rfl,rfl,by rw [v_,lenV]; exact hl,by simpa using rv⟩) (fun b u z=>by have z':(none:Option HO)=some u:=z; cases z') (fun b z=>absurd rfl z) fun z=>absurd rfl z
 | none =>
  refine core (fun b=>if b=a then some (.frz { cls:=.type "list",data:=.seq vs.toArray } (.lst (ns.map V.int))) else none) (fun b=>?_) (.inl (.inr ⟨{ cls:=.type "list",data:=.seq vs.toArray },if_pos rfl⟩)) (fun b u z=>?_) (fun b z=>?_) fun _=>hk
  · by_cases hb:b=a
    · exact .inr ⟨_,_,if_pos hb⟩
    · exact .inl (if_neg hb)
  · by_cases hb:b=a
    · have z':=(if_pos hb).symm.trans z
      cases z'
      subst hb
      exact ⟨ha,by rw [y_]; exact hl,vs,_,rv,ha⟩
    · have z':=(if_neg hb).symm.trans z
      cases z'
  · by_cases hb:b=a
    · exact hb
    · exact absurd (if_neg hb) z
abbrev KOf {K:ck} {h:Heap} (_:K.In h):ck:=K
theorem Cy {l:J4} {n k:Nat} {q:Program} {loose:List Str} {XP:(Str→Option Value)→Heap→Prop} {YP:uk→Heap→Prop} {d:DefRec} {K:JJ→ck} {CX:uk→CXT} {sp:uk→Sp} {x:Str}
 (hn:l.most=some n) (hn2:n≤sizeLine) (hdf:d.params.defaults=[]) (hr:Room k IR)
 (hY:∀ (w:uk) (h:Heap),YP w h→(K w.params).In h)
 (F:∀ (w:uk) (mg:Str→Option Value) (fa:Addr) (h:Heap),(K w.params).In h→h.Ns t_ mg→mg d.name=some (.ref fa) →
   ∃ fd:Gp,(∀ (s:Shared) (u:Value),Ke s fd ⟨[u],[]⟩ [(x,u)]) ∧
    ∀ base:Heap,(K w.params).In base→base.Ns t_ mg→FnOk l.prog w (K w.params) mg base (CX w) k fa fd [x] (sp w))
 (hsp:∀ (w:uk) (H:Hp) (a:Addr) (ns:List Int),ns.length≤n→Cw H→SqL (K w.params) H a (ns.map V.int)→sp w [.ref a] H (fun v _=>v=.bl true) fun _ _ _=>False)
 (hCX:∀ (w:uk) (H:Hp) (s:Shared) (e:Value) (s':Shared),CX w [] H s (fun _ _ _=>False) e s'→False) :
 Mc q loose XP YP l.row.toRowW d [] (fun f vs=>Mm f vs):=by
 refine Att.attach_call hn hdf fun w s₀ s₁ mg mb fa o pm cd doc a vs ns G Y ho hd hcd hmg hobj hints hlen hg=>?_
 have KX:=hY w _ Y
 obtain ⟨fd,hb,hF⟩:=F w mg fa _ KX G.T.g hmg
 exact tZ KX G.T.g G.T.b G.T.builtins G.T.nolimit hg hobj hints (FH hlen hn2) hr hF hb (fun H hO hS=>hsp w H a ns hlen hO hS) fun H e s'=>hCX w H s₁ e s'
def gF (s:Stmt):Arguments:=match s with
 | .FunctionDef _ a _ _ _ _ _ _ _ _=>a
 | _=>{ posonlyargs:=[],args:=[],vararg:=none,kwonlyargs:=[],kw_defaults:=[],kwarg:=none,defaults:=[] }
def cw (s:Stmt):List Stmt:=match s with
 | .FunctionDef _ _ b _ _ _ _ _ _ _=>b
 | _=>[]
def aD (s:Stmt):Scope:=match s with
 | .FunctionDef _ _ _ _ _ _ sc _ _ _=>sc
 | _=>{ kind:=.function,names:=[],isGenerator:=false,isCoroutine:=false }
abbrev CX0:CXT:=fun _ _ _ _ _ _=>False
abbrev E0:XK:=fun _ _ _=>False
theorem zk {X:Cx}:qw CX0 X E0:=fun _ _ _ _ _ _ _ h=>h.elim
structure Fun (K:ck) (x qual:Str) (st:Stmt) (f:Addr) (fd:Gp):Prop where
 ex:∃ (oc:Value) (od:Option Addr) (kV doc pm:Value) (an:Option Addr) (cdv ct:Value) (osl:Array (Option Value)),
  fd=H_ x qual (gF st) (cw st) (aD st) .none kV doc pm an cdv ct∧K.lookup f=some ⟨oc,od,.func fd,osl⟩∧Kn K cdv qual=true
 kp:GD K (.ref f)=true
section
variable {P:Program} {w:uk} {K:ck} {mg:Str→Option Value} {base:Heap}
theorem Fun.ok {x qual:Str} {st:Stmt} {f:Addr} {fd:Gp} {N ps:List Str} {k:Nat} {sp:Sp} (F:Fun K x qual st f fd) (S:dr N ps (aD st)) (len:∀ vs H Q E,sp vs H Q E→vs.length=ps.length)
 (hbody:∀ (cdv:Value) (A:q_) (outer:List Env) (s:Shared) (H:Hp) (vs:List V) (Q:VK) (E:XK),Room k (A.deeper (II qual (aD st) s.heap.objs.size f cdv))→sp vs H Q E →
   ∃ t,PSs (mH CX0 P w K mg base N qual (aD st) f cdv A outer s H E).nox (cw st) t∧t { nx:=fun _ H'=>Q .non H',rt:=Q } (start N vs) H):FnOk P w K mg base CX0 (k + 1) f fd ps sp:=by
 obtain ⟨oc,od,kV,doc,pm,an,cdv,ct,osl,rfl,lk,hcd⟩:=F.ex
 refine zb lk hcd S len fun A outer s H vs Q E hr hsp=>?_
 obtain ⟨t,h,q⟩:=hbody cdv A outer s H vs Q E hr hsp
 exact ⟨t,h.nox,q⟩
theorem Fun.binds {x qual:Str} {st:Stmt} {f:Addr} {fd:Gp} {ps:List Str} (F:Fun K x qual st f fd)
 (h:∀ (kV doc pm:Value) (an:Option Addr) (cdv ct:Value) (us:List Value),us.length=ps.length→LF (H_ x qual (gF st) (cw st) (aD st) .none kV doc pm an cdv ct) ⟨us,[]⟩=pure (ps.zip us)):Binds K fd ps []:=by
 obtain ⟨oc,od,kV,doc,pm,an,cdv,ct,osl,rfl,lk,hcd⟩:=F.ex
 exact .all (h kV doc pm an cdv ct)
theorem zl {x qual:Str} {st:Stmt} {f:Addr} {oc:Value} {od an:Option Addr} {osl:Array (Option Value)} {kV doc pm cdv ct:Value} (l:K.lookup f=some ⟨oc,od,.func (H_ x qual (gF st) (cw st) (aD st) .none kV doc pm an cdv ct),osl⟩)
 (c:Kn K cdv qual=true) (k:GD K (.ref f)=true):Fun K x qual st f (H_ x qual (gF st) (cw st) (aD st) .none kV doc pm an cdv ct):=⟨⟨oc,od,kV,doc,pm,an,cdv,ct,osl,rfl,l,c⟩,k⟩
end
section
variable {X:Cx}
end
theorem yt {A B:Prop} (h:B):if false=true then A else B:=by
 rw [if_neg rl]
 exact h
theorem yu {A B:Prop} (h:A):if true=true then A else B:=by
 rw [if_pos rfl]
 exact h
def Same (H H':Hp):Prop:=∀ b o,H b=some o→H' b=some o
theorem Same.refl (H:Hp):Same H H:=fun _ _ h=>h
theorem Same.trans {H H1 H2:Hp} (a:Same H H1) (b:Same H1 H2):Same H H2:=fun c o h=>b c o (a c o h)
theorem Same.free {H H':Hp} (e:Same H H') {l:Addr} (h:H' l=E_):H l=E_:=by
 cases q:H l with
 | none=>rfl
 | some o =>
  rw [e l o q] at h
  cases h
theorem Same.seq {K:ck} {H H':Hp} {a:Addr} {xs:List V} (e:Same H H') (h:SqL K H a xs):SqL K H' a xs:=by
 rcases h with (h | ⟨o,h⟩) | h
 · exact .inl (.inl (e _ _ h))
 · exact .inl (.inr ⟨o,e _ _ h⟩)
 · exact .inr h
end L2
namespace FD
open PySem PySem.Spec PyProof.Rows L2
inductive Dv where
 | non | bl (b:Bool) | int (i:Int) | str (x:Str) | tup (xs:List Dv) | lst (xs:List Dv) | scr (ns:List Int) | exn (c:Nat)
def xnm:Nat→Str
 | 0=>"NoName" | 1=>"NoTable" | 2=>"NoPath" | 3=>"NoAsk" | 4=>"NoNote" | 5=>"NoJar" | 6=>"NoNumber" | 7=>"NoText" | 8=>"NoStep" | _=>"JarError"
mutual
def Rep (K:ck) (H:Hp):Dv→V→Prop
 | .non,v=>v=.non
 | .bl b,v=>v=.bl b
 | .int i,v=>v=.int i
 | .str x,v=>v=.str x
 | .tup ds,v=>∃ a xs,v=.ref a∧H a=some (.tup xs)∧Reps K H ds xs
 | .lst ds,v=>∃ a xs,v=.ref a∧H a=some (.lst xs)∧Reps K H ds xs
 | .scr ns,v=>∃ a,v=.ref a∧SqL K H a (ns.map V.int)
 | .exn c,v=>∃ a o u C,v=.ref a∧H a=some (.frz o u)∧o.cls=.ref C∧HB K t_ (xnm c)=some (some (.ref C))
def Reps (K:ck) (H:Hp):List Dv→List V→Prop
 | [],vs=>vs=[]
 | d :: ds,vs=>∃ v us,vs=v :: us∧Rep K H d v∧Reps K H ds us
end
section
variable {K:ck} {H H':Hp}
mutual
theorem Rep.mono (e:Same H H'):∀ (d:Dv) (v:V),Rep K H d v→Rep K H' d v
 | .non,_,h=>h
 | .bl _,_,h=>h
 | .int _,_,h=>h
 | .str _,_,h=>h
 | .tup ds,v,h=>by
  obtain ⟨a,xs,r,h,q⟩:∃ a xs,v=.ref a∧H a=some (.tup xs)∧Reps K H ds xs:=h
  exact ⟨a,xs,r,e _ _ h,Reps.mono e ds xs q⟩
 | .lst ds,v,h=>by
  obtain ⟨a,xs,r,h,q⟩:∃ a xs,v=.ref a∧H a=some (.lst xs)∧Reps K H ds xs:=h
  exact ⟨a,xs,r,e _ _ h,Reps.mono e ds xs q⟩
 | .scr ns,v,h=>by
  obtain ⟨a,r,h⟩:∃ a,v=.ref a∧SqL K H a (ns.map V.int):=h
  exact ⟨a,r,e.seq h⟩
 | .exn c,v,h=>by
  obtain ⟨a,o,u,C,r,h,q⟩:∃ a o u C,v=.ref a∧H a=some (.frz o u)∧o.cls=.ref C∧HB K t_ (xnm c)=some (some (.ref C)):=h
  exact ⟨a,o,u,C,r,e _ _ h,q⟩
theorem Reps.mono (e:Same H H'):∀ (ds:List Dv) (vs:List V),Reps K H ds vs→Reps K H' ds vs
 | [],_,h=>h
 | d :: ds,vs,h=>by
  obtain ⟨v,us,r,h,q⟩:∃ v us,vs=v :: us∧Rep K H d v∧Reps K H ds us:=h
  exact ⟨v,us,r,Rep.mono e d v h,Reps.mono e ds us q⟩
end
theorem Reps.nil:Reps K H [] []:=rfl
theorem Reps.cons {d ds v vs} (h:Rep K H d v) (t:Reps K H ds vs):Reps K H (d :: ds) (v :: vs):=⟨v,vs,rfl,h,t⟩
theorem Reps.length:∀ {ds:List Dv} {vs:List V},Reps K H ds vs→vs.length=ds.length
 | [],vs,h=>by cases (show vs=[] from h); rfl
 | d :: ds,vs,h=>by
  obtain ⟨v,us,r,_,q⟩:∃ v us,vs=v :: us∧Rep K H d v∧Reps K H ds us:=h
  subst r
  show us.length + 1=ds.length + 1
  rw [Reps.length q]
theorem Reps.get:∀ {ds:List Dv} {vs:List V} {i:Nat} {v:V},Reps K H ds vs→vs[i]?=some v→∃ d,ds[i]?=some d∧Rep K H d v
 | [],vs,i,v,h,e=>by cases (show vs=[] from h); simp at e
 | d :: ds,vs,i,v,h,e=>by
  obtain ⟨v',us,r,h',q⟩:∃ v us,vs=v :: us∧Rep K H d v∧Reps K H ds us:=h
  subst r
  cases i with
  | zero=>simp at e; subst e; exact ⟨d,rfl,h'⟩
  | succ i =>
   obtain ⟨d',e',r'⟩:=Reps.get (i:=i) q (by simpa using e)
   exact ⟨d',by simpa using e',r'⟩
theorem Reps.get':∀ {ds:List Dv} {vs:List V} {i:Nat} {d:Dv},Reps K H ds vs→ds[i]?=some d→∃ v,vs[i]?=some v∧Rep K H d v
 | [],vs,i,v,h,e=>by simp at e
 | d :: ds,vs,i,d0,h,e=>by
  obtain ⟨v',us,r,h',q⟩:∃ v us,vs=v :: us∧Rep K H d v∧Reps K H ds us:=h
  subst r
  cases i with
  | zero=>simp at e; subst e; exact ⟨v',rfl,h'⟩
  | succ i =>
   obtain ⟨d',e',r'⟩:=Reps.get' (i:=i) q (by simpa using e)
   exact ⟨d',by simpa using e',r'⟩
theorem Reps.append:∀ {ds es:List Dv} {vs us:List V},Reps K H ds vs→Reps K H es us→Reps K H (ds ++ es) (vs ++ us)
 | [],es,vs,us,h,q=>by cases (show vs=[] from h); exact q
 | d :: ds,es,vs,us,h,q=>by
  obtain ⟨v',vs',r,h',t⟩:∃ v us,vs=v :: us∧Rep K H d v∧Reps K H ds us:=h
  subst r
  exact ⟨v',vs' ++ us,rfl,h',Reps.append t q⟩
theorem Reps.take:∀ {ds:List Dv} {vs:List V} (n:Nat),Reps K H ds vs→Reps K H (ds.take n) (vs.take n)
 | ds,vs,0,_=>by simp [Reps]
 | [],vs,n + 1,h=>by cases (show vs=[] from h); exact rfl
 | d :: ds,vs,n + 1,h=>by
  obtain ⟨v',vs',r,h',t⟩:∃ v us,vs=v :: us∧Rep K H d v∧Reps K H ds us:=h
  subst r
  exact ⟨v',vs'.take n,rfl,h',Reps.take n t⟩
theorem Reps.drop:∀ {ds:List Dv} {vs:List V} (n:Nat),Reps K H ds vs→Reps K H (ds.drop n) (vs.drop n)
 | ds,vs,0,h=>h
 | [],vs,n + 1,h=>by cases (show vs=[] from h); exact rfl
 | d :: ds,vs,n + 1,h=>by
  obtain ⟨v',vs',r,h',t⟩:∃ v us,vs=v :: us∧Rep K H d v∧Reps K H ds us:=h
  subst r
  exact Reps.drop n t
theorem Rep.lstE {ds:List Dv} {v:V} (h:Rep K H (.lst ds) v):∃ a xs,v=.ref a∧H a=some (.lst xs)∧Reps K H ds xs:=h
theorem Rep.tupE {ds:List Dv} {v:V} (h:Rep K H (.tup ds) v):∃ a xs,v=.ref a∧H a=some (.tup xs)∧Reps K H ds xs:=h
theorem Rep.exnE {c:Nat} {v:V} (h:Rep K H (.exn c) v):∃ a o u C,v=.ref a∧H a=some (.frz o u)∧o.cls=.ref C∧HB K t_ (xnm c)=some (some (.ref C)):=h
theorem Rep.scrE {ns:List Int} {v:V} (h:Rep K H (.scr ns) v):∃ a,v=.ref a∧SqL K H a (ns.map V.int):=h
end
theorem ar {H:Hp} {p:Addr} (h:H p=none) (o:HO):Same H (upd H p o):=fun b u q=>by rw [au (ao q h)]; exact q
abbrev Ev:=List (Option Dv)
structure Envs (K:ck) (H:Hp) (σ:L2.St) (ρ:Ev):Prop where
 len:σ.length=ρ.length
 at':∀ (i:Nat) (d:Dv),ρ[i]?=some (some d)→∃ v,σ[i]?=some (some v)∧Rep K H d v
theorem Envs.mono {K:ck} {H H':Hp} {σ:L2.St} {ρ:Ev} (E:Envs K H σ ρ) (e:Same H H'):Envs K H' σ ρ :=
 ⟨E.len,fun i d h=>let ⟨v,h1,h2⟩:=E.at' i d h; ⟨v,h1,Rep.mono e d v h2⟩⟩
theorem Envs.set {K:ck} {H:Hp} {σ:L2.St} {ρ:Ev} {i:Nat} {d:Dv} {v:V} (E:Envs K H σ ρ) (r:Rep K H d v):Envs K H (σ.set i (some v)) (ρ.set i (some d)):=by
 refine ⟨by rw [G1,G1]; exact E.len,fun j d' h=>?_⟩
 by_cases hj:i=j
 · subst hj
   by_cases hl:i < ρ.length
   · rw [Gu hl] at h
     cases h
     exact ⟨v,by rw [Gu (by rw [E.len]; exact hl)],r⟩
   · rw [Gg (by rw [G1]; omega)] at h
     cases h
 · rw [Gq hj] at h
   rw [Gq hj]
   exact E.at' j d' h
def fgt (js:List Nat) (ρ:Ev):Ev:=js.foldl (fun r j=>r.set j none) ρ
theorem Envs.fgt1 {K:ck} {H:Hp} {σ:L2.St} {ρ:Ev} (j:Nat) (E:Envs K H σ ρ):Envs K H σ (ρ.set j none):=by
 refine ⟨by rw [G1]; exact E.len,fun i d h=>?_⟩
 by_cases hj:j=i
 · subst hj
   by_cases hl:j < ρ.length
   · rw [Gu hl] at h
     cases h
   · rw [Gg (by rw [G1]; omega)] at h
     cases h
 · rw [Gq hj] at h
   exact E.at' i d h
theorem Envs.fgt {K:ck} {H:Hp} {σ:L2.St}:∀ (js:List Nat) {ρ:Ev},Envs K H σ ρ→Envs K H σ (fgt js ρ)
 | [],_,E=>E
 | j :: js,_,E=>Envs.fgt js (E.fgt1 j)
inductive Rs (α:Type) where
 | ok (a:α)
 | exc (c:Nat)
inductive Fl where
 | nx (ρ:Ev)
 | rt (d:Dv)
 | exc (c:Nat)
def Fly (N:Addr→Prop) (H:Hp) (e:Addr) (cls:Value) (h:Heap):Prop:=H e=none∧N e∧∃ oe vs a0,h.get? e=some oe∧oe.cls=cls∧oe.data=.fields vs∧vs[0]?=some a0 ∧
 (vs[1]?=some .none∨∃ T oT ts,vs[1]?=some (.ref T)∧T≠e∧H T=none∧N T∧h.get? T=some oT∧oT.data=.fields ts∧ts[3]?=some .none)
def ES (X:Cx) (a:Addr):Prop:=X.s₀.heap.get? a=none∧∀ p∈X.pn,p.1≠a
def Cz (X:Cx) (H:Hp) (c:Nat) (e:Value) (s:Shared):Prop:=∃ a C,e=.ref a∧HB X.K t_ (xnm c)=some (some (.ref C))∧Fly (ES X) H a (.ref C) s.heap
def XW (X:Cx) (c:Nat) (H:Hp):Prop:=∀ pins σ H' s e,Same H H'→Inv X pins σ H' s→Cz X H' c e s→X.xe e s
theorem XW.mono {X:Cx} {c:Nat} {H H':Hp} (h:XW X c H) (e:Same H H'):XW X c H':=fun pins σ H1 s x e1 I q=>h pins σ H1 s x (e.trans e1) I q
def Out (X:Cx) (H:Hp) (o:Option (Rs Dv)) (Q:VK):Prop:=match o with
 | none=>False
 | some (.exc c)=>XW X c H
 | some (.ok d)=>∀ v H',Same H H'→Rep X.K H' d v→Q v H'
def OutB (X:Cx) (H:Hp) (o:Option (Rs Bool)) (Q:Bool→Hp→Prop):Prop:=match o with
 | none=>False
 | some (.exc c)=>XW X c H
 | some (.ok d)=>∀ H',Same H H'→Q d H'
def OutA (X:Cx) (H:Hp) (o:Option (Rs (List Dv))) (Q:List V→Hp→Prop):Prop:=match o with
 | none=>False
 | some (.exc c)=>XW X c H
 | some (.ok ds)=>∀ vs H',Same H H'→Reps X.K H' ds vs→Q vs H'
def OutS (X:Cx) (H:Hp) (o:Option Fl) (D:pZ):Prop:=match o with
 | none=>False
 | some (.exc c)=>XW X c H
 | some (.rt d)=>∀ v H',Same H H'→Rep X.K H' d v→D.rt v H'
 | some (.nx ρ)=>∀ σ H',Same H H'→Envs X.K H' σ ρ→D.nx σ H'
def bnd {α β:Type} (o:Option (Rs α)) (k:α→Option (Rs β)):Option (Rs β):=match o with
 | none=>none
 | some (.exc c)=>some (.exc c)
 | some (.ok a)=>k a
def cx {α:Type} (o:Option (Rs α)) (k:α→Option Fl):Option Fl:=match o with
 | none=>none
 | some (.exc c)=>some (.exc c)
 | some (.ok a)=>k a
def sq (o:Option Fl) (k:Ev→Option Fl):Option Fl:=match o with
 | some (.nx ρ)=>k ρ
 | o=>o
section
variable {X:Cx} {H H':Hp} {Q:VK} {QB:Bool→Hp→Prop} {QA:List V→Hp→Prop} {D:pZ}
theorem Out.mono (e:Same H H'):∀ {o:Option (Rs Dv)},Out X H o Q→Out X H' o Q
 | none,h=>h
 | some (.exc _),h=>XW.mono h e
 | some (.ok _),h=>fun v H1 e1 r=>h v H1 (e.trans e1) r
theorem OutB.mono (e:Same H H'):∀ {o:Option (Rs Bool)},OutB X H o QB→OutB X H' o QB
 | none,h=>h
 | some (.exc _),h=>XW.mono h e
 | some (.ok _),h=>fun H1 e1=>h H1 (e.trans e1)
theorem OutA.mono (e:Same H H'):∀ {o:Option (Rs (List Dv))},OutA X H o QA→OutA X H' o QA
 | none,h=>h
 | some (.exc _),h=>XW.mono h e
 | some (.ok _),h=>fun v H1 e1 r=>h v H1 (e.trans e1) r
theorem OutS.mono (e:Same H H'):∀ {o:Option Fl},OutS X H o D→OutS X H' o D
 | none,h=>h
 | some (.exc _),h=>XW.mono h e
 | some (.rt _),h=>fun v H1 e1 r=>h v H1 (e.trans e1) r
 | some (.nx _),h=>fun v H1 e1 r=>h v H1 (e.trans e1) r
theorem Out.bind {o:Option (Rs Dv)} {k:Dv→Option (Rs Dv)} {P:VK} (h:Out X H (bnd o k) Q) (hp:∀ d v H',Same H H'→Rep X.K H' d v→Out X H' (k d) Q→P v H'):Out X H o P:=by
 match o,h with
 | some (.exc _),h=>exact h
 | some (.ok d),h=>exact fun v H1 e r=>hp d v H1 e r (Out.mono e h)
theorem Out.bindB {o:Option (Rs Dv)} {k:Dv→Option (Rs Bool)} {P:VK} (h:OutB X H (bnd o k) QB) (hp:∀ d v H',Same H H'→Rep X.K H' d v→OutB X H' (k d) QB→P v H'):Out X H o P:=by
 match o,h with
 | some (.exc _),h=>exact h
 | some (.ok d),h=>exact fun v H1 e r=>hp d v H1 e r (OutB.mono e h)
theorem Out.bindA {o:Option (Rs Dv)} {k:Dv→Option (Rs (List Dv))} {P:VK} (h:OutA X H (bnd o k) QA) (hp:∀ d v H',Same H H'→Rep X.K H' d v→OutA X H' (k d) QA→P v H'):Out X H o P:=by
 match o,h with
 | some (.exc _),h=>exact h
 | some (.ok d),h=>exact fun v H1 e r=>hp d v H1 e r (OutA.mono e h)
theorem Out.bindS {o:Option (Rs Dv)} {k:Dv→Option Fl} {P:VK} (h:OutS X H (cx o k) D) (hp:∀ d v H',Same H H'→Rep X.K H' d v→OutS X H' (k d) D→P v H'):Out X H o P:=by
 match o,h with
 | some (.exc _),h=>exact h
 | some (.ok d),h=>exact fun v H1 e r=>hp d v H1 e r (OutS.mono e h)
theorem OutB.bind {o:Option (Rs Bool)} {k:Bool→Option (Rs Dv)} {P:Bool→Hp→Prop} (h:Out X H (bnd o k) Q) (hp:∀ b H',Same H H'→Out X H' (k b) Q→P b H'):OutB X H o P:=by
 match o,h with
 | some (.exc _),h=>exact h
 | some (.ok d),h=>exact fun H1 e=>hp d H1 e (Out.mono e h)
theorem OutB.bindB {o:Option (Rs Bool)} {k:Bool→Option (Rs Bool)} {P:Bool→Hp→Prop} (h:OutB X H (bnd o k) QB) (hp:∀ b H',Same H H'→OutB X H' (k b) QB→P b H'):OutB X H o P:=by
 match o,h with
 | some (.exc _),h=>exact h
 | some (.ok d),h=>exact fun H1 e=>hp d H1 e (OutB.mono e h)
theorem OutB.bindS {o:Option (Rs Bool)} {k:Bool→Option Fl} {P:Bool→Hp→Prop} (h:OutS X H (cx o k) D) (hp:∀ b H',Same H H'→OutS X H' (k b) D→P b H'):OutB X H o P:=by
 match o,h with
 | some (.exc _),h=>exact h
 | some (.ok d),h=>exact fun H1 e=>hp d H1 e (OutS.mono e h)
theorem OutA.bind {o:Option (Rs (List Dv))} {k:List Dv→Option (Rs Dv)} {P:List V→Hp→Prop} (h:Out X H (bnd o k) Q) (hp:∀ ds vs H',Same H H'→Reps X.K H' ds vs→Out X H' (k ds) Q→P vs H'):OutA X H o P:=by
 match o,h with
 | some (.exc _),h=>exact h
 | some (.ok d),h=>exact fun v H1 e r=>hp d v H1 e r (Out.mono e h)
theorem OutA.bindA {o:Option (Rs (List Dv))} {k:List Dv→Option (Rs (List Dv))} {P:List V→Hp→Prop} (h:OutA X H (bnd o k) QA) (hp:∀ ds vs H',Same H H'→Reps X.K H' ds vs→OutA X H' (k ds) QA→P vs H'):OutA X H o P:=by
 match o,h with
 | some (.exc _),h=>exact h
 | some (.ok d),h=>exact fun v H1 e r=>hp d v H1 e r (OutA.mono e h)
end
abbrev FnE:=Ev→Option (Rs Dv)
abbrev FnB:=Ev→Option (Rs Bool)
abbrev FnA:=Ev→Option (Rs (List Dv))
abbrev FnS:=Ev→Option Fl
def tF (X:Cx) (f:FnE):TE:=fun σ H Q=>∃ ρ,Envs X.K H σ ρ∧Out X H (f ρ) Q
def tT (X:Cx) (f:FnB):TT:=fun σ H Q=>∃ ρ,Envs X.K H σ ρ∧OutB X H (f ρ) Q
def tA (X:Cx) (f:FnA):TA:=fun σ H Q=>∃ ρ,Envs X.K H σ ρ∧OutA X H (f ρ) Q
def tS (X:Cx) (f:FnS):TS:=fun D σ H=>∃ ρ,Envs X.K H σ ρ∧OutS X H (f ρ) D
structure FE (X:Cx) (e:Expr) (f:FnE):Prop where
 h:PE X e (tF X f)
structure FT (X:Cx) (e:Expr) (f:FnB):Prop where
 h:PT X e (tT X f)
structure FW (X:Cx) (e:Expr) (f:FnB):Prop where
 h:PW X e (tT X f)
structure FA (X:Cx) (es:List Expr) (f:FnA):Prop where
 h:PA X es (tA X f)
structure FS (X:Cx) (st:Stmt) (f:FnS):Prop where
 h:PS X st (tS X f)
structure FSs (X:Cx) (st:List Stmt) (f:FnS):Prop where
 h:PSs X st (tS X f)
section
variable {X:Cx} {a b c e:Expr} {es:List Expr} {fa fb fc:FnE} {pos:Pos}
theorem cL {t:TE} {f:FnE} (h:PE X e t) (w:∀ σ H Q ρ,Envs X.K H σ ρ→Out X H (f ρ) Q→t σ H Q):FE X e f :=
 ⟨fun pins s σ H Q I ⟨ρ,E,o⟩=>h pins s σ H Q I (w σ H Q ρ E o)⟩
theorem wt {t:TT} {f:FnB} (h:PT X e t) (w:∀ σ H Q ρ,Envs X.K H σ ρ→OutB X H (f ρ) Q→t σ H Q):FT X e f :=
 ⟨fun pins s σ H Q I ⟨ρ,E,o⟩=>h pins s σ H Q I (w σ H Q ρ E o)⟩
theorem zm {t:TT} {f:FnB} (h:PW X e t) (w:∀ σ H Q ρ,Envs X.K H σ ρ→OutB X H (f ρ) Q→t σ H Q):FW X e f :=
 ⟨fun wh pins s σ H Q I ⟨ρ,E,o⟩=>h wh pins s σ H Q I (w σ H Q ρ E o)⟩
theorem mJ {st:Stmt} {t:TS} {f:FnS} (h:PS X st t) (w:∀ D σ H ρ,Envs X.K H σ ρ→OutS X H (f ρ) D→t D σ H):FS X st f :=
 ⟨fun pins s σ H D I ⟨ρ,E,o⟩=>h pins s σ H D I (w D σ H ρ E o)⟩
theorem vw {st:List Stmt} {t:TS} {f:FnS} (h:PSs X st t) (w:∀ D σ H ρ,Envs X.K H σ ρ→OutS X H (f ρ) D→t D σ H):FSs X st f :=
 ⟨fun pins s σ H D I ⟨ρ,E,o⟩=>h pins s σ H D I (w D σ H ρ E o)⟩
theorem FW.ft {f:FnB} (h:FW X e f):FT X e f:=⟨h.h _⟩
def ab (i:Nat):FnE:=fun ρ=>match ρ[i]? with
 | some (some d)=>some (.ok d)
 | _=>none
def fC (d:Dv):FnE:=fun _=>some (.ok d)
theorem zn (i:Nat) (h:PE X e (yL i)):FE X e (ab i):=cL h fun σ H Q ρ E o=>by
 unfold ab at o
 split at o
 · rename_i d hd
   obtain ⟨v,h1,h2⟩:=E.at' i d hd
   exact ⟨v,h1,o v H (.refl H) h2⟩
 · exact o.elim
theorem glb {x:Str} (h:X.env.kindOf x=some .globalImplicit):Gl X x:=h
theorem CB (i:Nat) {x:Str} (hN:X.N[i]?=some x:=by kernel_rfl) (hv:X.env.scope.names.lookup x=some .local:=by kernel_rfl) (hd:(x == ("__debug__":Str))=false:=by kernel_rfl) (hcd:(x == ("__classdict__":Str))=false:=by kernel_rfl):FE X (.Name x pos) (ab i):=zn i (qd hN (.inl hv) hd hcd)
theorem CF (i:Nat) {x:Str} (hN:X.N[i]?=some x:=by kernel_rfl) (hv:X.env.scope.names.lookup x=some .cell:=by kernel_rfl) (hd:(x == ("__debug__":Str))=false:=by kernel_rfl) (hcd:(x == ("__classdict__":Str))=false:=by kernel_rfl):FE X (.Name x pos) (ab i):=zn i (qd hN (.inr (.inl hv)) hd hcd)
theorem yw {d:Dv} {v:V} (h:PE X e (tC v)) (r:∀ K H,Rep K H d v):FE X e (fC d):=cL h fun _ H _ _ _ o=>o v H (.refl H) (r X.K H)
theorem zo {i j}:FE X (.Constant (.int i) j pos) (fC (.int i)):=yw yM fun _ _=>rfl
theorem CG {b j}:FE X (.Constant (.bool b) j pos) (fC (.bl b)):=yw B7 fun _ _=>rfl
theorem zp {j}:FE X (.Constant .none j pos) (fC .non):=yw yN fun _ _=>rfl
theorem zq {x j}:FE X (.Constant (.str x) j pos) (fC (.str x)):=yw yO fun _ _=>rfl
theorem wu {x:Str} {i:Int} {t:Tok} (hg:Gl X x) (hm:X.mg x=some (.int i t)) (hd:(x == ("__debug__":Str))=false:=by kernel_rfl):FE X (.Name x pos) (fC (.int i)):=yw (qf (v:=.int i) hg hm ⟨t,rfl⟩ hd) fun _ _=>rfl
theorem wv {x:Str} {i:Str} {t:Tok} (hg:Gl X x) (hm:X.mg x=some (.str i t)) (hd:(x == ("__debug__":Str))=false:=by kernel_rfl):FE X (.Name x pos) (fC (.str i)):=yw (qf (v:=.str i) hg hm ⟨t,rfl⟩ hd) fun _ _=>rfl
def f2 (g:Dv→Dv→Option (Rs Dv)) (fa fb:FnE):FnE:=fun ρ=>bnd (fa ρ) fun x=>bnd (fb ρ) fun y=>g x y
def GOp (X:Cx) (r:R2) (g:Dv→Dv→Option (Rs Dv)):Prop:=∀ dx dy x y H Q,Rep X.K H dx x→Rep X.K H dy y→Out X H (g dx dy) Q→r x y H Q
theorem two {r:R2} {g:Dv→Dv→Option (Rs Dv)} (hg:GOp X r g) {σ:L2.St} {H:Hp} {Q:VK} {ρ:Ev} (E:Envs X.K H σ ρ) (o:Out X H (f2 g fa fb ρ) Q):tOp r (tF X fa) (tF X fb) σ H Q :=
 ⟨ρ,E,Out.bind o fun dx x H1 e1 rx o1=>⟨ρ,E.mono e1,Out.bind o1 fun dy y H2 e2 ry o2=>hg dx dy x y H2 Q (Rep.mono e2 dx x rx) ry o2⟩⟩
theorem pC {op:Operator} {r:R2} {g:Dv→Dv→Option (Rs Dv)} (ho:OpR X (Hz op) r) (hg:GOp X r g) (ha:FE X a fa) (hb:FE X b fb):FE X (.BinOp a op b pos) (f2 g fa fb) :=
 cL (Ci ho ha.h hb.h) fun _ _ _ _ E o=>two hg E o
theorem iG {op:CmpOp} {r:R2} {g:Dv→Dv→Option (Rs Dv)} (ho:OpR X (FJ op) r) (hg:GOp X r g) (ha:FE X a fa) (hb:FE X b fb) (hm:Fz op b=false):FE X (.Compare a [op] [b] pos) (f2 g fa fb) :=
 cL (wf ho ha.h hb.h hm) fun _ _ _ _ E o=>two hg E o
def toB:Dv→Option (Rs Bool)
 | .bl b=>some (.ok b)
 | _=>none
def fB (f:FnE):FnB:=fun ρ=>bnd (f ρ) toB
theorem oh {H:Hp} {d:Dv} {v:V} {QB:Bool→Hp→Prop} (r:Rep X.K H d v) (o:OutB X H (toB d) QB):∃ k,v=.bl k∧QB k H:=by
 cases d with
 | bl b=>exact ⟨b,r,o H (.refl H)⟩
 | _=>exact o.elim
theorem fP {op:CmpOp} {r:R2} {g:Dv→Dv→Option (Rs Dv)} (ho:OpR X (FJ op) r) (hg:GOp X r g) (ha:FE X a fa) (hb:FE X b fb) (hm:Fz op b=false):FT X (.Compare a [op] [b] pos) (fB (f2 g fa fb)) :=
 wt (wg ho ha.h hb.h hm) fun σ H Q ρ E o=>by
  show tOp r (tF X fa) (tF X fb) σ H _
  refine two hg E ?_
  exact Out.bindB o fun d v H' e r o'=>oh r o'
theorem zr (ha:FE X a fa) (he:∀ whole,isTrue a X.env whole=(do let v ← whole; standAt a.pos; Nf [v] (truthy v)):=by intro _; kernel_rfl):FT X a (fB fa) :=
 wt (yP ha.h he) fun σ H Q ρ E o=>⟨ρ,E,Out.bindB o fun d v H' e r o'=>oh r o'⟩
def ia (f g:FnB):FnB:=fun ρ=>bnd (f ρ) fun k=>if k then g ρ else some (.ok false)
def bOr (f g:FnB):FnB:=fun ρ=>bnd (f ρ) fun k=>if k then some (.ok true) else g ρ
def ce (f:FnB):FnB:=fun ρ=>bnd (f ρ) fun k=>some (.ok (!k))
variable {ga gb:FnB} {cz:List Expr}
theorem ww (ha:FT X a ga):FW X (.BoolOp .And [a] pos) ga:=⟨wa ha.h⟩
theorem zt (ha:FT X a ga):FW X (.BoolOp .Or [a] pos) ga:=⟨yQ ha.h⟩
theorem vx (ha:FT X a ga) (hb:FW X (.BoolOp .And (b :: cz) pos) gb):FW X (.BoolOp .And (a :: b :: cz) pos) (ia ga gb) :=
 zm (yR ha.h hb.h) fun σ H Q ρ E o=>⟨ρ,E,OutB.bindB o fun k H1 e o'=>by
  cases k with
  | true=>exact yu ⟨ρ,E.mono e,o'⟩
  | false=>exact yt (o' H1 (.refl H1))⟩
theorem zu (ha:FT X a ga) (hb:FW X (.BoolOp .Or (b :: cz) pos) gb):FW X (.BoolOp .Or (a :: b :: cz) pos) (bOr ga gb) :=
 zm (B8 ha.h hb.h) fun σ H Q ρ E o=>⟨ρ,E,OutB.bindB o fun k H1 e o'=>by
  cases k with
  | true=>exact yu (o' H1 (.refl H1))
  | false=>exact yt ⟨ρ,E.mono e,o'⟩⟩
theorem zv (ha:FT X a ga):FT X (.UnaryOp .Not a pos) (ce ga) :=
 wt (yS ha.h) fun σ H Q ρ E o=>⟨ρ,E,OutB.bindB o fun k H1 e o'=>o' H1 (.refl H1)⟩
def gC (f g:FnE):FnE:=fun ρ=>bnd (f ρ) fun x=>bnd (toB x) fun k=>if k then g ρ else some (.ok (.bl false))
def vOr (f g:FnE):FnE:=fun ρ=>bnd (f ρ) fun x=>bnd (toB x) fun k=>if k then some (.ok (.bl true)) else g ρ
def mz (f:FnE):FnE:=fun ρ=>bnd (f ρ) fun x=>bnd (toB x) fun k=>some (.ok (.bl (!k)))
theorem mK {H:Hp} {d:Dv} {v:V} {k:Bool→Option (Rs Dv)} {Q:VK} (r:Rep X.K H d v) (o:Out X H (bnd (toB d) k) Q):∃ b,v=.bl b∧Out X H (k b) Q:=by
 cases d with
 | bl b=>exact ⟨b,r,o⟩
 | _=>exact o.elim
theorem zw {op} (ha:FE X a fa):FE X (.BoolOp op [a] pos) fa:=⟨yT ha.h⟩
theorem zx (ha:FE X a fa) (hb:FE X (.BoolOp .And (b :: cz) pos) fb):FE X (.BoolOp .And (a :: b :: cz) pos) (gC fa fb) :=
 cL (yU ha.h hb.h) fun σ H Q ρ E o=>⟨ρ,E,Out.bind o fun d v H1 e r o'=>by
  obtain ⟨k,rfl,o2⟩:=mK r o'
  refine ⟨k,rfl,?_⟩
  cases k with
  | true=>exact yu ⟨ρ,E.mono e,o2⟩
  | false=>exact yt (o2 (.bl false) H1 (.refl H1) rfl)⟩
theorem CH (ha:FE X a fa) (hb:FE X (.BoolOp .Or (b :: cz) pos) fb):FE X (.BoolOp .Or (a :: b :: cz) pos) (vOr fa fb) :=
 cL (Cb ha.h hb.h) fun σ H Q ρ E o=>⟨ρ,E,Out.bind o fun d v H1 e r o'=>by
  obtain ⟨k,rfl,o2⟩:=mK r o'
  refine ⟨k,rfl,?_⟩
  cases k with
  | true=>exact yu (o2 (.bl true) H1 (.refl H1) rfl)
  | false=>exact yt ⟨ρ,E.mono e,o2⟩⟩
theorem zy (ha:FE X a fa):FE X (.UnaryOp .Not a pos) (mz fa) :=
 cL (yV ha.h) fun σ H Q ρ E o=>⟨ρ,E,Out.bind o fun d v H1 e r o'=>by
  obtain ⟨k,rfl,o2⟩:=mK r o'
  exact ⟨k,rfl,o2 (.bl (!k)) H1 (.refl H1) rfl⟩⟩
def fIf (c:FnB) (f g:FnE):FnE:=fun ρ=>bnd (c ρ) fun k=>if k then f ρ else g ρ
def ag:FnA:=fun _=>some (.ok [])
def aa (f:FnE) (g:FnA):FnA:=fun ρ=>bnd (f ρ) fun x=>bnd (g ρ) fun xs=>some (.ok (x :: xs))
theorem zA {t:TA} {f:FnA} (h:PA X es t) (w:∀ σ H Q ρ,Envs X.K H σ ρ→OutA X H (f ρ) Q→t σ H Q):FA X es f :=
 ⟨fun pos pins s σ H Q I ⟨ρ,E,o⟩=>h pos pins s σ H Q I (w σ H Q ρ E o)⟩
theorem vy:FA X [] ag:=zA vt fun _ H _ _ _ o=>o [] H (.refl H) rfl
theorem qI {g:FnA} (ha:FE X e fa) (hr:FA X es g) (hs:e_ (e :: es) X.env=(false,eval e X.env) :: e_ es X.env:=by kernel_rfl):FA X (e :: es) (aa fa g) :=
 zA (mG ha.h hr.h hs) fun σ H Q ρ E o=>⟨ρ,E,Out.bindA o fun d v H1 e r o1=>⟨ρ,E.mono e,OutA.bindA o1 fun ds vs H2 e2 rs o2=>o2 (v :: vs) H2 (.refl H2) ⟨v,vs,rfl,Rep.mono e2 d v r,rs⟩⟩⟩
def cO (g:FnA):FnE:=fun ρ=>bnd (g ρ) fun ds=>if ds.length≤100000 then some (.ok (.lst ds)) else none
def dD (g:FnA):FnE:=fun ρ=>bnd (g ρ) fun ds=>if ds.length≤100000 then some (.ok (.tup ds)) else none
theorem bE {n:Nat} (h:n≤100000):n≤sizeLine:=FH h (by rw [Jc]; decide)
theorem zB {g:FnA} (h:FA X es g):FE X (.List es pos) (cO g) :=
 cL (vv h.h) fun σ H Q ρ E o=>⟨ρ,E,OutA.bind o fun ds vs H1 e rs o1=>by
  split at o1
  · rename_i hl
    refine ⟨by rw [rs.length]; exact bE hl,fun p hp=>o1 (.ref p) _ (ar hp _) ⟨p,vs,rfl,am,Reps.mono (ar hp _) _ _ rs⟩⟩
  · exact o1.elim⟩
theorem zC {g:FnA} {k} (h:FA X es g):FE X (.Tuple es k pos) (dD g) :=
 cL (y9 h.h) fun σ H Q ρ E o=>⟨ρ,E,OutA.bind o fun ds vs H1 e rs o1=>by
  split at o1
  · rename_i hl
    refine ⟨by rw [rs.length]; exact bE hl,fun p hp=>o1 (.ref p) _ (ar hp _) ⟨p,vs,rfl,am,Reps.mono (ar hp _) _ _ rs⟩⟩
  · exact o1.elim⟩
variable {st:Stmt} {sts:List Stmt} {f g:FnS}
theorem wx:FSs X [] (fun ρ=>some (.nx ρ)):=vw qg fun D σ H ρ E o=>o σ H (.refl H) E
def aA (f g:FnS):FnS:=fun ρ=>sq (f ρ) g
theorem ua (h1:FS X st f) (h2:FSs X sts g):FSs X (st :: sts) (aA f g) :=
 vw (jY h1.h h2.h) fun D σ H ρ E o=>⟨ρ,E,by
  unfold aA at o
  match hf:f ρ with
  | none=>rw [hf] at o; exact o.elim
  | some (.exc c)=>rw [hf] at o; exact o
  | some (.rt d)=>rw [hf] at o; exact o
  | some (.nx ρ')=>rw [hf] at o; exact fun σ' H' e E'=>⟨ρ',E',OutS.mono e o⟩⟩
theorem wy (h1:FS X st f):FSs X [st] f:=⟨qh h1.h⟩
def aE (f:FnE):FnS:=fun ρ=>cx (f ρ) fun d=>some (.rt d)
theorem zD (he:FE X e fa):FS X (.Return (some e) pos) (aE fa) :=
 mJ (vo he.h) fun D σ H ρ E o=>⟨ρ,E,Out.bindS o fun d v H1 e r o1=>o1 v H1 (.refl H1) r⟩
def ib:FnS:=fun _=>some (.rt .non)
def bN (f:FnE):FnS:=fun ρ=>cx (f ρ) fun _=>some (.nx ρ)
theorem wz (he:FE X e fa) (hs:G8 e none pos.line X.env=pure false:=by kernel_rfl):FS X (.Expr e pos) (bN fa) :=
 mJ (qi he.h hs) fun D σ H ρ E o=>⟨ρ,E,Out.bindS o fun d v H1 e r o1=>o1 σ H1 (.refl H1) (E.mono e)⟩
def bq (i:Nat) (f:FnE):FnS:=fun ρ=>cx (f ρ) fun d=>some (.nx (ρ.set i (some d)))
theorem zE (i:Nat) {x:Str} {pos':Pos} (hN:X.N.Nodup) (hi:X.N[i]?=some x) (hx:Loc X.env.scope x) (he:FE X e fa) (hs:G8 e (some (.Name x pos')) pos.line X.env=pure false:=by kernel_rfl) (hf:X.fn x=true∨X.env.scope.names.lookup x=some .local:=by first | exact .inl rfl | exact .inr rfl | assumption) :
 FS X (.Assign [.Name x pos'] e pos) (bq i fa) :=
 mJ (qj hN hi hx he.h hs hf) fun D σ H ρ E o=>⟨ρ,E,Out.bindS o fun d v H1 e r o1=>o1 _ H1 (.refl H1) ((E.mono e).set r)⟩
def br (c:FnB) (f g:FnS):FnS:=fun ρ=>cx (c ρ) fun k=>if k then f ρ else g ρ
theorem CI {as bs:List Stmt} (hc:FT X c ga) (ha:FSs X as f) (hb:FSs X bs g):FS X (.If c as bs pos) (br ga f g) :=
 mJ (yW hc.h ha.h hb.h) fun D σ H ρ E o=>⟨ρ,E,OutB.bindS o fun k H1 e o1=>by
  cases k with
  | true=>exact yu ⟨ρ,E.mono e,o1⟩
  | false=>exact yt ⟨ρ,E.mono e,o1⟩⟩
def cg:FnS:=fun _=>none
theorem ub:FS X st cg:=mJ tU fun _ _ _ _ _ o=>o
end
def Its (z:Str):It:=⟨fun i _=>i < z.cps.size,fun i H x H'=>H'=H∧∃ c,z.cps[i]?=some c∧x=.str ⟨#[c]⟩,fun i _=>i=z.cps.size⟩
theorem kY {prog:Program} {w:uk} {A:q_} (hh:A.handled=none) (I:Addr) (x:Str) (t:Tok) {ty:String} (hty:ty="str_ascii_iterator"∨ty="str_iterator") :
 Walks prog w A I [I] [I] x.cps.size (SignAt x) (fun i h=>h.IsStrIter I ty x t i):=by
 rcases hty with rfl | rfl
 · exact Walks.strAscii hh I x t
 · exact Walks.strWide hh I x t
theorem uc {P:Program} {w:uk} {K:ck} {tg:Expr} (z:Str) (t:Tok) (it:Addr) {ty:String} (hty:ty="str_ascii_iterator"∨ty="str_iterator"):vp P w K tg (Its z) [it] it (fun i h=>h.IsStrIter it ty z t i) where
 mem:=by simp
 obj:=fun i h st b hb=>by
  have e:b=it:=by simpa using hb
  subst e
  obtain ⟨o,e,c,d⟩:=st
  exact ⟨o,e,fun v z=>by rw [d] at z; cases z⟩
 keep:=fun i h h' st k=>let ⟨o,ho,r⟩:=st; ⟨o,k it (by simp) o ho,r⟩
 item:=by
  intro X hP hw hK hc i pins s σ H E I hf st hg
  subst hP hw hK
  obtain ⟨f0,f1,f2,f3,f4,f5⟩:=hf it (by simp)
  have W:=kY (prog:=X.prog) (w:=X.w) (I.ok.hd hc) it z t hty
  refine W.item i s _ _ hg st fun v h' tk hv st' kk=>?_
  obtain ⟨c,u,hc',rfl⟩:=hv
  have I1:Inv X pins σ H { s with heap:=h',toks:=tk }:=I.turned (fun b o hb e=>kk b o (by simpa using hb) e) f0 f1 f3 f4 f5
  obtain ⟨o,e,c',d⟩:=id st'
  refine ⟨_,rfl,mD (s:={ s with heap:=h',toks:=tk }) e c' d (by rcases hty with rfl | rfl <;> decide) ⟨.str ⟨#[c]⟩,H,I1,⟨u,rfl⟩,⟨rfl,c,hc',rfl⟩,st',fun b hb=>(hf b hb).1⟩⟩
 done:=by
  intro X hP hw hK hc i pins s σ H E I hf st hg
  subst hP hw hK
  obtain ⟨f0,f1,f2,f3,f4,f5⟩:=hf it (by simp)
  have W:=kY (prog:=X.prog) (w:=X.w) (I.ok.hd hc) it z t hty
  have hg':i=z.cps.size:=hg
  subst hg'
  exact W.done s _ _ st fun h' tk kk=>⟨rfl,I.turned (fun b o hb e=>kk b o (by simpa using hb) e) f0 f1 f3 f4 f5⟩
 self:=fun A i s Q E st h=>by
  rcases hty with rfl | rfl
  · exact wpAny_pyIter_striter_ascii st h
  · exact wpAny_pyIter_striter_wide st h
structure Wk (K:ck) (J:It) (ds:List Dv) (H0:Hp):Prop where
 go:∀ i H,Same H0 H→i < ds.length→J.go i H
 stop:∀ H,Same H0 H→J.stop ds.length H
 yld:∀ i H x H',Same H0 H→i < ds.length→J.yld i H x H'→H'=H∧∃ d,ds[i]?=some d∧Rep K H d x
def OutI (X:Cx) (H:Hp) (o:Option (Rs (List Dv))) (R:It→Hp→Prop):Prop:=match o with
 | none=>False
 | some (.exc c)=>XW X c H
 | some (.ok ds)=>∀ J H',Same H H'→Wk X.K J ds H'→R J H'
structure FI (X:Cx) (tg iter:Expr) (f:FnA):Prop where
 h:PI X tg iter fun σ H R=>∃ ρ,Envs X.K H σ ρ∧OutI X H (f ρ) R
theorem OutI.mono {X:Cx} {H H':Hp} {R:It→Hp→Prop} (e:Same H H'):∀ {o:Option (Rs (List Dv))},OutI X H o R→OutI X H' o R
 | none,h=>h
 | some (.exc _),h=>XW.mono h e
 | some (.ok _),h=>fun v H1 e1 r=>h v H1 (e.trans e1) r
def signs (z:Str):List Dv:=z.cps.toList.map fun c=>.str ⟨#[c]⟩
def items:Dv→Option (Rs (List Dv))
 | .lst ds=>some (.ok ds)
 | .tup ds=>some (.ok ds)
 | .str z=>some (.ok (signs z))
 | _=>none
def bM (f:FnE):FnA:=fun ρ=>bnd (f ρ) items
theorem wA {K:ck} {H:Hp} {a:Addr} {xs:List V} {ds:List Dv} (h:H a=some (.lst xs)) (r:Reps K H ds xs):Wk K (Itl K a) ds H where
 go:=fun i H' e hi=>by
  have hx:i < xs.length:=by rw [r.length]; exact hi
  exact ⟨xs,xs[i],SqL.of (e _ _ h),by simp [hx]⟩
 stop:=fun H' e=>⟨xs,SqL.of (e _ _ h),by rw [r.length]; exact j_ _⟩
 yld:=fun i H' x H2 e hi y=>by
  obtain ⟨e2,y⟩:=y
  obtain ⟨d,h1,h2⟩:=Reps.get (Reps.mono e _ _ r) (y xs (SqL.of (e _ _ h)))
  exact ⟨e2,d,h1,h2⟩
theorem zF {K:ck} {H:Hp} {a:Addr} {xs:List V} {ds:List Dv} (h:H a=some (.tup xs)) (r:Reps K H ds xs):Wk K (Itt K a) ds H where
 go:=fun i H' e hi=>by
  have hx:i < xs.length:=by rw [r.length]; exact hi
  exact ⟨xs,xs[i],SqT.of (e _ _ h),by simp [hx]⟩
 stop:=fun H' e=>⟨xs,SqT.of (e _ _ h),by rw [r.length]; exact j_ _⟩
 yld:=fun i H' x H2 e hi y=>by
  obtain ⟨e2,y⟩:=y
  obtain ⟨d,h1,h2⟩:=Reps.get (Reps.mono e _ _ r) (y xs (SqT.of (e _ _ h)))
  exact ⟨e2,d,h1,h2⟩
theorem zG {K:ck} {H:Hp} {z:Str}:Wk K (Its z) (signs z) H where
 go:=fun i H' e hi=>by show i < z.cps.size; simpa [signs] using hi
 stop:=fun H' e=>by show (signs z).length=z.cps.size; simp [signs]
 yld:=fun i H' x H2 e hi y=>by
  obtain ⟨e2,c,hc,rfl⟩:=y
  refine ⟨e2,.str ⟨#[c]⟩,?_,rfl⟩
  have hc':z.cps.toList[i]?=some c:=by simpa using hc
  rw [signs,D_,hc'] <;> rfl
def rng (lo:Int):Nat→List Dv
 | 0=>[]
 | n + 1=>.int lo :: rng (lo + 1) n
theorem eL:∀ (n:Nat) (lo:Int),(rng lo n).length=n
 | 0,_=>rfl
 | n + 1,lo=>by show (rng (lo + 1) n).length + 1=n + 1; rw [eL]
theorem qJ:∀ (n:Nat) (lo:Int) (i:Nat),i < n→(rng lo n)[i]?=some (.int (lo + i))
 | 0,_,_,h=>by omega
 | n + 1,lo,0,_=>by simp [rng]
 | n + 1,lo,i + 1,h=>by
  have q:=qJ n (lo + 1) i (by omega)
  show (Dv.int lo :: rng (lo + 1) n)[i + 1]?=_
  rw [Ji,q]
  congr 2
  omega
theorem oi {K:ck} {H:Hp} {lo:Int} {n:Nat}:Wk K (Itr lo n) (rng lo n) H where
 go:=fun i H' e hi=>by rw [eL] at hi; exact hi
 stop:=fun H' e=>by show n≤(rng lo n).length; rw [eL]; exact j_ _
 yld:=fun i H' x H2 e hi y=>by
  obtain ⟨e2,rfl⟩:=y
  rw [eL] at hi
  exact ⟨e2,_,qJ n lo i hi,rfl⟩
section
variable {X:Cx} {tg l a b:Expr} {fl:FnE} {pos p:Pos}
theorem zH (hl:FE X l fl):FI X tg l (bM fl):=by
 constructor
 intro pins s σ H R I h
 obtain ⟨ρ,E,o⟩:=h
 have key:Out X H (fl ρ) fun x H1=>∃ d,Rep X.K H1 d x∧OutI X H1 (items d) R:=by
  unfold bM at o
  match hf:fl ρ,o with
  | some (.exc c),o=>exact o
  | some (.ok d),o=>exact fun v H1 e r=>⟨d,r,OutI.mono e o⟩
  | none,o=>exact o
 refine thn (hl.h pins s σ H _ I ⟨ρ,E,key⟩) fun v s1 ⟨x,H1,I1,r1,d,rd,q⟩=>?_
 have fin:∀ (o:Obj) (tn:Nat→Heap→Prop) (J:It) (ds:List Dv),vp X.prog X.w X.K tg J [s1.heap.objs.size] s1.heap.objs.size tn→tn 0 (s1.heap.push o)→Wk X.K J ds H1→(∀ J H',Same H1 H'→Wk X.K J ds H'→R J H') →
  PIE X pins σ tg R (.ref s1.heap.objs.size) { s1 with heap:=s1.heap.push o }:=fun o tn J ds T t0 w q=>by
  refine ⟨s1.heap.objs.size,[s1.heap.objs.size],tn,J,H1,rfl,I1.kept (t':=s1.toks) fun b o e=>d_ _ e,T,t0,fun b hb=>?_,q J H1 (.refl H1) w⟩
  have e:b=s1.heap.objs.size:=by simpa using hb
  subst e
  exact I1.fpOk (j_ _) (I1.hok.fresh (j_ _))
 cases d with
 | lst ds =>
  obtain ⟨a,xs,rfl,h1,h2⟩:=rd.lstE
  cases r1
  obtain ⟨its,rv,p,hz⟩:=I1.list (SqL.of h1)
  exact Jm p.isList (fin _ _ (Itl X.K a) ds (qk a _) ⟨_,h_ _ rfl,rfl,rfl⟩ (wA h1 h2) q)
 | tup ds =>
  obtain ⟨a,xs,rfl,h1,h2⟩:=rd.tupE
  cases r1
  obtain ⟨its,rv,p,hz⟩:=I1.tuple (SqT.of h1)
  exact wpAny_pyIter_tuple (show s1.heap.IsTuple a its.toArray from p) (fin _ _ (Itt X.K a) ds (pq a _) ⟨_,h_ _ rfl,rfl,rfl⟩ (zF h1 h2) q)
 | str z =>
  cases (show x=.str z from rd)
  obtain ⟨t,rfl⟩:=r1
  have hty:M7 z="str_ascii_iterator"∨M7 z="str_iterator":=by
   unfold M7
   split
   · exact .inl rfl
   · exact .inr rfl
  exact wpAny_pyIter_strU (fin _ _ (Its z) (signs z) (uc z t _ hty) ⟨_,h_ _ rfl,rfl,rfl⟩ zG q)
 | _=>exact q.elim
def iH:List Dv→Option (Rs (List Dv))
 | [.int j]=>if -(2 ^ 62)≤j∧j < 2 ^ 62 then some (.ok (rng 0 j.toNat)) else none
 | _=>none
def tL:List Dv→Option (Rs (List Dv))
 | [.int i,.int j]=>if -(2 ^ 62)≤i∧i < 2 ^ 62∧-(2 ^ 62)≤j∧j < 2 ^ 62 then some (.ok (rng i (j - i).toNat)) else none
 | _=>none
theorem jy {H:Hp} {R:It→Hp→Prop} {o:Option (Rs (List Dv))} {k:List Dv→Option (Rs (List Dv))} {P:List V→Hp→Prop} (h:OutI X H (bnd o k) R) (hp:∀ ds vs H',Same H H'→Reps X.K H' ds vs→OutI X H' (k ds) R→P vs H'):OutA X H o P:=by
 match o,h with
 | some (.exc _),h=>exact h
 | some (.ok d),h=>exact fun v H1 e r=>hp d v H1 e r (OutI.mono e h)
theorem qK {ga:FnA} (hg:Gl X "range") (hm:X.mg "range"=none) (ha:FA X [a] ga) (hs:e_ [a] X.env=[(false,eval a X.env)]:=by kernel_rfl):FI X tg (.Call (.Name "range" p) [a] [] pos) (fun ρ=>bnd (ga ρ) iH):=by
 constructor
 intro pins s σ H R I h
 obtain ⟨ρ,E,o⟩:=h
 refine ql hg hm ha.h hs pins s σ H R I ⟨ρ,E,jy o fun ds vs H' e rs o1=>?_⟩
 unfold iH at o1
 split at o1
 · rename_i j
   split at o1
   · rename_i hj
     obtain ⟨v,us,rfl,r,t⟩:∃ v us,vs=v :: us∧Rep X.K H' (.int j) v∧Reps X.K H' [] us:=rs
     cases (show us=[] from t)
     cases (show v=.int j from r)
     exact ⟨j,rfl,hj.1,hj.2,o1 _ H' (.refl H') oi⟩
   · exact o1.elim
 · exact o1.elim
theorem qM {ga:FnA} (hg:Gl X "range") (hm:X.mg "range"=none) (ha:FA X [a,b] ga) (hs:e_ [a,b] X.env=[(false,eval a X.env),(false,eval b X.env)]:=by kernel_rfl) (hs2:e_ [b] X.env=[(false,eval b X.env)]:=by kernel_rfl) :
 FI X tg (.Call (.Name "range" p) [a,b] [] pos) (fun ρ=>bnd (ga ρ) tL):=by
 constructor
 intro pins s σ H R I h
 obtain ⟨ρ,E,o⟩:=h
 refine qm hg hm ha.h hs hs2 pins s σ H R I ⟨ρ,E,jy o fun ds vs H' e rs o1=>?_⟩
 unfold tL at o1
 split at o1
 · rename_i i j
   split at o1
   · rename_i hj
     obtain ⟨v,us,rfl,r,t⟩:∃ v us,vs=v :: us∧Rep X.K H' (.int i) v∧Reps X.K H' [.int j] us:=rs
     obtain ⟨v2,us2,rfl,r2,t2⟩:∃ v us',us=v :: us'∧Rep X.K H' (.int j) v∧Reps X.K H' [] us':=t
     cases (show us2=[] from t2)
     cases (show v=.int i from r)
     cases (show v2=.int j from r2)
     exact ⟨i,j,rfl,hj,o1 _ H' (.refl H') oi⟩
   · exact o1.elim
 · exact o1.elim
end
def fq (i:Nat) (js:List Nat) (body:FnS):List Dv→Ev→Option Fl
 | [],ρ=>some (.nx (fgt js ρ))
 | d :: ds,ρ=>match body ((fgt js ρ).set i (some d)) with
  | some (.nx ρ')=>fq i js body ds ρ'
  | o=>o
def tM (i:Nat) (js:List Nat) (src:FnA) (body:FnS):FnS:=fun ρ=>cx (src ρ) fun ds=>fq i js body ds ρ
theorem fQ {α:Type} {ds:List α} {i:Nat} {d:α} (h:ds[i]?=some d):ds.drop i=d :: ds.drop (i + 1):=by
 obtain ⟨hi,e⟩:=u_.mp h
 rw [List.drop_eq_getElem_cons hi,e]
theorem zI {X:Cx} {tg iter:Expr} {body:List Stmt} {pos:Pos} {src:FnA} {fb:FnS} (i:Nat) (js:List Nat) (hp:Kh (o_ X.prog X.w) X.A X.env X.xe) (hc:X.calm=true) (hi:FI X tg iter src) (hg:PG X tg (mC i)) (hb:FSs X body fb)
 (hs:∀ x,FL iter X.env x=pure x:=by intro _; kernel_rfl):FS X (.For tg iter body [] pos) (tM i js src fb):=by
 refine mJ (qo hp hc hi.h hg hb.h hs) fun D σ H ρ E o=>⟨ρ,E,?_⟩
 unfold tM at o
 match hf:src ρ,o with
 | none,o=>exact o
 | some (.exc c),o=>exact o
 | some (.ok ds),o =>
  intro J H1 e1 wk
  have o1:OutS X H1 (fq i js fb ds ρ) D:=OutS.mono e1 o
  refine ⟨fun n m σ' H'=>m=ds.length - n∧n≤ds.length∧Same H1 H'∧∃ ρ',Envs X.K H' σ' ρ'∧OutS X H' (fq i js fb (ds.drop n) ρ') D,⟨ds.length,by simp,FN _,.refl H1,ρ,E.mono e1,by simpa using o1⟩,?_⟩
  rintro n m σ' H' ⟨rfl,hn,e2,ρ',E',o'⟩
  by_cases hlt:n < ds.length
  · refine .inr ⟨wk.go n H' e2 hlt,fun σ2 H2=>Same H1 H2∧∃ ρ2,Envs X.K H2 σ2 ρ2∧OutS X H2 (fq i js fb (ds.drop (n + 1)) ρ2) D,fun σ2 H2 ⟨e3,ρ2,E2,o2⟩=>⟨ds.length - (n + 1),by omega,rfl,hlt,e3,ρ2,E2,o2⟩,fun x H2 y=>?_⟩
    obtain ⟨rfl,d,hd,rd⟩:=wk.yld n H' x H2 e2 hlt y
    rw [fQ hd] at o'
    show tS X fb _ _ _
    refine ⟨(fgt js ρ').set i (some d),(Envs.fgt js E').set rd,?_⟩
    unfold fq at o'
    match hb':fb ((fgt js ρ').set i (some d)) with
    | none=>rw [hb'] at o'; exact o'
    | some (.exc c)=>rw [hb'] at o'; exact o'
    | some (.rt r)=>rw [hb'] at o'; exact o'
    | some (.nx ρ2)=>rw [hb'] at o'; exact fun σ2 H3 e3 E3=>⟨e2.trans e3,ρ2,E3,OutS.mono e3 o'⟩
  · have hn':n=ds.length:=by omega
    subst hn'
    rw [JL] at o'
    exact .inl ⟨wk.stop H' e2,o' σ' H' (.refl H') (Envs.fgt js E')⟩
def spF (K:ck) (F:List Dv→Option (Rs Dv)) (n:Nat):Sp:=fun vs H Q _=>∃ ds,Reps K H ds vs∧ds.length=n∧match F ds with
 | some (.ok d)=>∀ v H',Same H H'→Rep K H' d v→Q v H'
 | _=>False
def ac (F:List Dv→Option (Rs Dv)) (n:Nat) (g:FnA):FnE:=fun ρ=>bnd (g ρ) fun ds=>if ds.length=n then (match F ds with | some (.ok d)=>some (.ok d) | _=>none) else none
section
variable {X:Cx} {k n:Nat} {f:Addr} {fd:Gp} {ps:List Str} {x:Str} {p pos:Pos} {e:Expr} {es:List Expr} {F:List Dv→Option (Rs Dv)} {g:FnA}
theorem wB (G:FnOk X.prog X.w X.K X.mg X.base CX0 k f fd ps (spF X.K F n)) (hr:Room k X.A) (hg:Gl X x) (hm:X.mg x=some (.ref f)) (hk:GD X.K (.ref f)=true) (hb:Binds X.K fd ps [])
 (ha:FA X (e :: es) g) (hdb:(x == ("__debug__":Str))=false:=by kernel_rfl) (he:e_ (e :: es) X.env=(false,eval e X.env) :: e_ es X.env:=by kernel_rfl) (hpl:(F0 pos (e_ es X.env)).any (·.1)=false:=by kernel_rfl) :
 FE X (.Call (.Name x p) (e :: es) [] pos) (ac F n g) :=
 cL (qz G hr hg hm hk hb .nil zk ha.h hdb he hpl) fun σ H Q ρ E o=>⟨ρ,E,OutA.bind o fun ds vs H' e rs o1=>by
  show spF X.K F n (vs ++ []) H' Q E0
  rw [IT]
  split at o1
  · rename_i hl
    refine ⟨ds,rs,hl,?_⟩
    match hF:F ds with
    | some (.ok d)=>rw [hF] at o1; exact o1
    | some (.exc c)=>rw [hF] at o1; exact o1
    | none=>rw [hF] at o1; exact o1
  · exact o1.elim⟩
def Has (P:Program) (w:uk) (K:ck) (mg:Str→Option Value) (base:Heap) (x:Str) (k:Nat) (ps:List Str) (F:List Dv→Option (Rs Dv)):Prop :=
 ∃ f fd,FnOk P w K mg base CX0 k f fd ps (spF K F ps.length)∧mg x=some (.ref f)∧GD K (.ref f)=true∧Binds K fd ps []
theorem ud {k':Nat} (k:Nat) (ps:List Str) (F:List Dv→Option (Rs Dv)) (h:Has X.prog X.w X.K X.mg X.base x k ps F) (hr:Room k' X.A) (hk:k≤k') (hg:Gl X x) (ha:FA X (e :: es) g) (hn:n=ps.length:=by kernel_rfl) (hdb:(x == ("__debug__":Str))=false:=by kernel_rfl)
 (he:e_ (e :: es) X.env=(false,eval e X.env) :: e_ es X.env:=by kernel_rfl) (hpl:(F0 pos (e_ es X.env)).any (·.1)=false:=by kernel_rfl) :
 FE X (.Call (.Name x p) (e :: es) [] pos) (ac F n g):=by
 subst hn
 obtain ⟨f,fd,G,hm,hkp,hb⟩:=h
 exact wB (G.mono hk) hr hg hm hkp hb ha hdb he hpl
def aS (m:Nat) (fb:FnS):List Dv→Option (Rs Dv):=fun ds=>match fb (ds.map some ++ F9 (m - ds.length) none) with
 | some (.nx _)=>some (.ok .non)
 | some (.rt d)=>some (.ok d)
 | _=>none
theorem gG {K:ck} {H:Hp} {N:List Str} {ds:List Dv} {vs:List V} (r:Reps K H ds vs):Envs K H (L2.start N vs) (ds.map some ++ F9 (N.length - ds.length) none):=by
 have hl:=r.length
 refine ⟨by unfold L2.start; rw [GM,GM,y_,y_,Iu,Iu,hl],fun i d h=>?_⟩
 by_cases hi:i < ds.length
 · rw [Hu (by simpa using hi),D_] at h
   cases hd:ds[i]? with
   | none=>rw [hd] at h; cases h
   | some d' =>
    rw [hd] at h
    have h':some (some d')=some (some d):=h
    injection h' with h'
    injection h' with h'
    subst h'
    obtain ⟨v,h1,h2⟩:=r.get' hd
    refine ⟨v,?_,h2⟩
    unfold L2.start
    rw [Hu (by rw [y_,hl]; exact hi),D_,h1] <;> rfl
 · rw [GW (by simpa using hi),Jh] at h
   split at h <;> cases h
theorem CK {P:Program} {w:uk} {K:ck} {mg:Str→Option Value} {base:Heap} {qual:Str} {st:Stmt} {N:List Str} {fb:FnS} (Fn:Fun K x qual st f fd) (S:dr N ps (aD st))
 (hb:∀ (cdv:Value) (A:q_) (outer:List Env) (s:Shared) (H:Hp) (E:XK),Room k (A.deeper (II qual (aD st) s.heap.objs.size f cdv))→FSs (mH CX0 P w K mg base N qual (aD st) f cdv A outer s H E).nox (cw st) fb) :
 FnOk P w K mg base CX0 (k + 1) f fd ps (spF K (aS N.length fb) ps.length):=by
 refine Fn.ok S (fun vs H Q E h=>?_) (fun cdv A outer s H vs Q E hr h=>?_)
 · obtain ⟨ds,r,hl,_⟩:=h
   rw [r.length,hl]
 · obtain ⟨ds,r,hl,q⟩:=h
   refine ⟨_,(hb cdv A outer s H E hr).h,ds.map some ++ F9 (N.length - ds.length) none,gG r,?_⟩
   unfold aS at q
   match hf:fb (ds.map some ++ F9 (N.length - ds.length) none) with
   | none=>rw [hf] at q; exact q.elim
   | some (.exc c)=>rw [hf] at q; exact q.elim
   | some (.rt d)=>rw [hf] at q; exact fun v H' e r'=>q v H' e r'
   | some (.nx ρ)=>rw [hf] at q; exact fun σ' H' e _=>q .non H' e rfl
end
theorem zJ {k:Nat} {f:Addr} {fd:Gp} {x:Str} {P:Program} {w:uk} {K:ck} {mg:Str→Option Value} {base:Heap} {qual:Str} {st:Stmt} {F:List Dv→Option (Rs Dv)} {n:Nat} (N ps:List Str) (fb:FnS) (hF:F=aS N.length fb) (hn:n=ps.length)
 (Fn:Fun K x qual st f fd) (S:dr N ps (aD st))
 (hb:∀ (cdv:Value) (A:q_) (outer:List Env) (s:Shared) (H:Hp) (E:XK),Room k (A.deeper (II qual (aD st) s.heap.objs.size f cdv))→FSs (mH CX0 P w K mg base N qual (aD st) f cdv A outer s H E).nox (cw st) fb) :
 FnOk P w K mg base CX0 (k + 1) f fd ps (spF K F n):=by
 subst hF hn
 exact CK Fn S hb
def ic (names:List (Str×HV)) (env:Env) (acc:List (Str×Addr)):List (Str×Addr):=match names with
 | []=>acc
 | (n,k) :: r=>ic r env (if k == .free then (n,(env.cells.lookup n).getD 0) :: acc else acc)
theorem jz {env:Env} {n:Str} {c:Addr}:∀ (names:List (Str×HV)) (acc:List (Str×Addr)),(ic names env acc).lookup n=some c→acc.lookup n=some c∨((n,GT)∈names∧c=(env.cells.lookup n).getD 0)
 | [],acc,h=>.inl h
 | (m,k) :: r,acc,h=>by
  rcases jz r _ h with q | ⟨q1,q2⟩
  · by_cases hk:k=.free
    · subst hk
      simp only [beq_self_eq_true,if_true] at q
      rw [F4] at q
      cases hm:n == m with
      | true =>
       rw [hm] at q
       have e:n=m:=by simpa using hm
       subst e
       exact .inr ⟨g_,(FU q).symm⟩
      | false=>rw [hm] at q; exact .inl q
    · have hb:(k == GT)=false:=by simpa using hk
      rw [hb] at q
      exact .inl (by simpa using q)
  · exact .inr ⟨ge _ q1,q2⟩
theorem kZ {env:Env} {n:Str}:∀ (names:List (Str×HV)) (acc:List (Str×Addr)),(acc.lookup n).isSome=true→((ic names env acc).lookup n).isSome=true
 | [],acc,h=>h
 | (m,k) :: r,acc,h=>by
  refine kZ r _ ?_
  split
  · rw [F4]
    cases n == m with
    | true=>rfl
    | false=>exact h
  · exact h
theorem j4 {env:Env} {n:Str}:∀ (names:List (Str×HV)) (acc:List (Str×Addr)),(n,GT)∈names→((ic names env acc).lookup n).isSome=true
 | [],acc,h=>by cases h
 | (m,k) :: r,acc,h=>by
  rcases p_.mp h with e | q
  · injection e with e1 e2
    subst e1
    subst e2
    refine kZ r _ ?_
    simp only [beq_self_eq_true,if_true,F4]
    rfl
  · exact j4 r _ q
theorem da {β:Type} {n:Str} {k:β}:∀ {l:List (Str×β)},l.lookup n=some k→(n,k)∈l
 | [],h=>by simp at h
 | (m,j) :: r,h=>by
  rw [F4] at h
  cases hm:n == m with
  | true =>
   rw [hm] at h
   have e:n=m:=by simpa using hm
   subst e
   have e2:j=k:=FU h
   subst e2
   exact g_
  | false=>rw [hm] at h; exact ge _ (da h)
structure Eg (osc scope:Scope) (x:Str) (cs:List (Str×Nat)) (N:List Str):Prop where
 kind:scope.kind=.function
 okind:osc.kind=.function
 cell:∀ y∈scope.names,y.2≠.cell
 names:∀ y∈scope.names,y.2=.local→scope.names.lookup y.1=some .local
 tgt:scope.names.lookup x=some .local
 nd:(x :: cs.map (·.1)).Nodup
 free:∀ y∈scope.names,y.2=.free→osc.names.lookup y.1=some .cell∨osc.names.lookup y.1=some .free
 caps:∀ c∈cs,N[c.2]?=some c.1∧scope.names.lookup c.1=some .free
theorem hJ {scope:Scope} {env:Env} {n:Str} {k:HV} (h:(relabel scope env).names.lookup n=some k):(n,k)∈scope.names∨(k=.cell∧(n,GT)∈scope.names):=by
 have q:=da h
 unfold relabel at q
 obtain ⟨⟨m,j⟩,hm,e⟩:=C_.mp q
 dsimp only at e
 split at e
 · rename_i hc
   injection e with e1 e2
   subst e1
   have hj:j=.free:=by
    rw [k_,k_] at hc
    simpa using hc.1.1
   subst hj
   exact .inr ⟨e2.symm,hm⟩
 · injection e with e1 e2
   subst e1
   subst e2
   exact .inl hm
theorem hU {env:Env}:∀ {names:List (Str×HV)} {n:Str},names.lookup n=some .free →
 (names.map fun (n,k)=>if (k == GT && env.scope.kind == .function && env.kindOf n == some .cell) then (n,G6) else (n,k)).lookup n=some .cell ∨
 (names.map fun (n,k)=>if (k == GT && env.scope.kind == .function && env.kindOf n == some .cell) then (n,G6) else (n,k)).lookup n=some .free
 | [],_,h=>by simp at h
 | (m,k) :: r,n,h=>by
  have ih:=@hU env r n
  rw [F4] at h
  rw [xy]
  cases hm:n == m with
  | true =>
   rw [hm] at h
   have e2:k=.free:=FU h
   subst e2
   by_cases hc:(GT == GT && env.scope.kind == .function && env.kindOf m == some .cell)=true
   · dsimp only
     rw [if_pos hc,F4,hm]
     exact .inl rfl
   · dsimp only
     rw [if_neg hc,F4,hm]
     exact .inr rfl
  | false =>
   rw [hm] at h
   dsimp only
   by_cases hc:(k == GT && env.scope.kind == .function && env.kindOf m == some .cell)=true
   · rw [if_pos hc,F4,hm]; exact ih h
   · rw [if_neg hc,F4,hm]; exact ih h
def vz (cs:List (Str×Nat)) (ρ:Ev):Ev:=none :: cs.map fun c=>(ρ[c.2]?).join
section
variable {X:Cx} {pins:List (Addr×Obj)} {σ:L2.St} {H:Hp} {s:Shared}
end
def qN (tst:Option FnB) (elt:FnE) (cap:Ev):List Dv→Option (List Dv)
 | []=>some []
 | d :: ds =>
  let ρ:=cap.set 0 (some d)
  match (match tst with | none=>(some (.ok true):Option (Rs Bool)) | some t=>t ρ) with
  | some (.ok true)=>(match elt ρ with
   | some (.ok y)=>(match qN tst elt cap ds with | some ys=>some (y :: ys) | none=>none)
   | _=>none)
  | some (.ok false)=>qN tst elt cap ds
  | _=>none
def aN (cs:List (Str×Nat)) (src:FnA) (tst:Option FnB) (elt:FnE):FnE:=fun ρ=>bnd (src ρ) fun ds=>match qN tst elt (vz cs ρ) ds with
 | some ys=>if ys.length≤100000∧ds.length≤100000 then some (.ok (.lst ys)) else none
 | none=>none
def LAt (h:Heap) (D:Addr) (its:List Value):Prop:=∃ n,h.get? D=some { cls:=.type "list",data:=.seq its.toArray n }
theorem pD {P:Program} {w:uk} {A:q_} {E:Value→Shared→Prop} {s:Shared} {D:Addr} {its:List Value} {u:Value} {Q:Value→Shared→Prop} (h:LAt s.heap D its) (hz:its.length≤100000)
 (hQ:∀ h',LAt h' D (its ++ [u])→(∀ b o,b≠D→s.heap.get? b=some o→h'.get? b=some o)→Q .none { s with heap:=h' }):l_ (o_ P w) A (call (.builtin "list.append") [.ref D,u]) Q E s:=by
 obtain ⟨n,e⟩:=h
 refine IW JV ⟨_,e,rfl⟩ L7 (LN _ _) (Mv D its.toArray n u (by rw [v_]; exact bE hz)) ⟨e,?_⟩
 have q:=MU e (·.push u)
 have e2:its.toArray.push u=(its ++ [u]).toArray:=by simp
 rw [e2] at q
 exact hQ _ ⟨_,q⟩ fun b o hb ho=>(Ia s.heap _ (IC hb)).trans ho
def qO (X:Cx) (ifs:List Expr) (tst:Option FnB):Prop:=match tst with
 | none=>ifs=[]
 | some t=>∃ c,ifs=[c]∧FT X c t
theorem HOk.add {P:Program} {w:uk} {H:Hp} {h h':Heap} {D C:Addr} {o:HO} (x:HOk P w H h) (hD:H D=none) (hC:H C=none) (k:∀ b u,b≠C→h.get? b=some u→h'.get? b=some u) (new:ObjOk P w (upd H D o) h' D o):HOk P w (upd H D o) h':=fun b u e=>by
 by_cases hb:b=D
 · subst hb; rw [am] at e; cases e; exact new
 · rw [au hb] at e
   refine (x b u e).stay (fun c v hc q=>k c v ?_ q) (fun c q=>by rw [au (ao q hD)]; exact q) fun c xs q=>by rw [au (ao q hD)]; exact q
   rcases hc with rfl | hc
   · exact ao e hC
   · exact ao hc hC
theorem wC {b D:Nat} (h:b < D):b≠D:=by omega
theorem zK {b D:Nat} (h:b < D):b≠D + 1:=by omega
theorem Eh {D:Nat}:D≠D + 1:=by omega
section
variable {X:Cx}
def dM:Dv→Dv→Option (Rs Dv)
 | .int i,.int j=>some (.ok (.int (i + j)))
 | .str x,.str y=>if x.length + y.length≤100000 then some (.ok (.str (x ++ y))) else none
 | .lst a,.lst b=>if a.length + b.length≤100000 then some (.ok (.lst (a ++ b))) else none
 | _,_=>none
def wD:R2:=fun x y H Q=>rI0 (fun i j=>.int (i + j)) x y H Q∨((∃ i j,x=.str i∧y=.str j∧i.length + j.length≤sizeLine∧Q (.str (i ++ j)) H)∨Ee x y H Q)
theorem o_add:OpR X (Hz .Add) wD:=op_add.or (op_add_str.or zj)
theorem zL:GOp X wD dM:=by
 intro dx dy x y H Q rx ry o
 cases dx <;> cases dy <;> try exact (show False from o).elim
 · rename_i i j
   exact .inl ⟨i,j,rx,ry,o _ H (.refl H) rfl⟩
 · rename_i i j
   simp only [dM] at o
   split at o
   · rename_i hl
     exact .inr (.inl ⟨i,j,rx,ry,bE hl,o _ H (.refl H) rfl⟩)
   · exact o.elim
 · rename_i a b
   simp only [dM] at o
   split at o
   · rename_i hl
     obtain ⟨p,xs,rfl,h1,q1⟩:=rx.lstE
     obtain ⟨p2,xs2,rfl,h2,q2⟩:=ry.lstE
     refine .inr (.inr ⟨p,p2,xs,xs2,rfl,rfl,h1,h2,by rw [q1.length,q2.length]; exact bE hl,fun l hl=>o _ _ (ar hl _) ⟨l,_,rfl,am,Reps.mono (ar hl _) _ _ (q1.append q2)⟩⟩)
   · exact o.elim
def wE:Dv→Dv→Option (Rs Dv)
 | .int i,.int j=>some (.ok (.int (i - j)))
 | _,_=>none
theorem CL:GOp X (rI0 fun i j=>.int (i - j)) wE:=by
 intro dx dy x y H Q rx ry o
 cases dx <;> cases dy <;> try exact (show False from o).elim
 rename_i i j
 exact ⟨i,j,rx,ry,o _ H (.refl H) rfl⟩
def fR:Dv→Dv→Option (Rs Dv)
 | .int i,.int j=>if (-18446744073709551616 < i∧i < 18446744073709551616)∨(-18446744073709551616 < j∧j < 18446744073709551616) then some (.ok (.int (i * j))) else none
 | _,_=>none
theorem CM:GOp X (rI CMul fun i j=>.int (i * j)) fR:=by
 intro dx dy x y H Q rx ry o
 cases dx <;> cases dy <;> try exact (show False from o).elim
 rename_i i j
 simp only [fR] at o
 split at o
 · rename_i h
   exact ⟨i,j,rx,ry,h,o _ H (.refl H) rfl⟩
 · exact o.elim
def fL:Dv→Dv→Option (Rs Dv)
 | .int i,.int j=>if 0 < j then some (.ok (.int (i % j))) else none
 | _,_=>none
theorem CN:GOp X (rI (fun _ j=>0 < j) fun i j=>.int (i % j)) fL:=by
 intro dx dy x y H Q rx ry o
 cases dx <;> cases dy <;> try exact (show False from o).elim
 rename_i i j
 simp only [fL] at o
 split at o
 · rename_i h
   exact ⟨i,j,rx,ry,h,o _ H (.refl H) rfl⟩
 · exact o.elim
def fT:Dv→Dv→Option (Rs Dv)
 | .int i,.int j=>if 0 < j∧j < 1073741824 then some (.ok (.int (i / j))) else none
 | _,_=>none
theorem zM:GOp X (rI D7 fun i j=>.int (i / j)) fT:=by
 intro dx dy x y H Q rx ry o
 cases dx <;> cases dy <;> try exact (show False from o).elim
 rename_i i j
 simp only [fT] at o
 split at o
 · rename_i h
   exact ⟨i,j,rx,ry,h,o _ H (.refl H) rfl⟩
 · exact o.elim
def yx:Dv→Option (Rs Dv)
 | .int i=>some (.ok (.int (-i)))
 | _=>none
def f1 (g:Dv→Option (Rs Dv)) (fa:FnE):FnE:=fun ρ=>bnd (fa ρ) g
theorem zN {a:Expr} {fa:FnE} {pos:Pos} (ha:FE X a fa):FE X (.UnaryOp .USub a pos) (f1 yx fa) :=
 cL (Cj y4 ha.h) fun σ H Q ρ E o=>⟨ρ,E,Out.bind o fun d v H1 e r o1=>by
  cases d <;> try exact (show False from o1).elim
  rename_i i
  exact ⟨i,r,o1 _ H1 (.refl H1) rfl⟩⟩
def seq (x y:Str):Bool:=x.cps.toList == y.cps.toList
theorem oj (x y:Str):(x == y)=seq x y:=by
 rw [FY]
 unfold seq
 obtain ⟨⟨a⟩⟩:=x
 obtain ⟨⟨b⟩⟩:=y
 simp
def eqS:Dv→Dv→Option Bool
 | .non,.non=>some true
 | .non,.int _=>some false
 | .int _,.non=>some false
 | .non,.bl _=>some false
 | .bl _,.non=>some false
 | .non,.str _=>some false
 | .str _,.non=>some false
 | .int i,.int j=>some (i == j)
 | .bl i,.bl j=>some (i == j)
 | .str i,.str j=>some (seq i j)
 | .int _,.str _=>some false
 | .str _,.int _=>some false
 | .bl _,.str _=>some false
 | .str _,.bl _=>some false
 | _,_=>none
theorem vA {K:ck} {H:Hp} {dx dy:Dv} {x y:V} {b:Bool} (rx:Rep K H dx x) (ry:Rep K H dy y) (h:eqS dx dy=some b):Co x y=true∧decide (x=y)=b:=by
 cases dx <;> cases dy <;> (try cases h) <;> (try (cases rx; cases ry; exact ⟨rfl,by first | rfl | exact mE | exact qp | (rw [mF,oj]) | simp⟩))
def CO (p:Int→Int→Bool):Dv→Dv→Option (Rs Dv)
 | .int i,.int j=>some (.ok (.bl (p i j)))
 | _,_=>none
theorem CP (p:Int→Int→Bool):GOp X (rI0 fun i j=>.bl (p i j)) (CO p):=by
 intro dx dy x y H Q rx ry o
 cases dx <;> cases dy <;> try exact (show False from o).elim
 rename_i i j
 exact ⟨i,j,rx,ry,o _ H (.refl H) rfl⟩
abbrev gtD:=CO fun i j=>decide (j < i)
def isN:Dv→Dv→Option (Rs Dv)
 | x,.non=>some (.ok (.bl (match x with | .non=>true | _=>false)))
 | _,_=>none
def mB:Dv→Dv→Option (Rs Dv)
 | x,.non=>some (.ok (.bl (match x with | .non=>false | _=>true)))
 | _,_=>none
theorem qP {K:ck} {H:Hp} {d:Dv} {v:V} (r:Rep K H d v):decide (v=.non)=(match d with | .non=>true | _=>false):=by
 cases d with
 | non=>cases (show v=.non from r); rfl
 | bl b=>cases (show v=.bl b from r); rfl
 | int b=>cases (show v=.int b from r); rfl
 | str b=>cases (show v=.str b from r); rfl
 | tup ds=>obtain ⟨a,xs,rfl,_⟩:=r.tupE; rfl
 | lst ds=>obtain ⟨a,xs,rfl,_⟩:=r.lstE; rfl
 | scr ds=>obtain ⟨a,rfl,_⟩:=r.scrE; rfl
 | exn c =>
  obtain ⟨a,_,_,_,rfl,_⟩:=r.exnE
  rfl
theorem zO:GOp X (fun x y H Q=>y=.non∧Q (.bl (decide (x=.non))) H) isN:=by
 intro dx dy x y H Q rx ry o
 cases dy <;> try exact (show False from o).elim
 have q:=qP rx
 refine ⟨ry,?_⟩
 have q2:=o _ H (.refl H) rfl
 cases dx <;> (rw [q]; exact q2)
theorem zP:GOp X (fun x y H Q=>y=.non∧Q (.bl (!decide (x=.non))) H) mB:=by
 intro dx dy x y H Q rx ry o
 cases dy <;> try exact (show False from o).elim
 have q:=qP rx
 refine ⟨ry,?_⟩
 have q2:=o _ H (.refl H) rfl
 cases dx <;> (rw [q]; exact q2)
def inS (x y:Str):Bool:=!(Gk y x 0 y.length 1).isEmpty
def cU:Dv→Bool
 | .non=>true
 | .bl _=>true
 | .int _=>true
 | .str _=>true
 | _=>false
def eqF:Dv→Dv→Bool
 | .non,.non=>true
 | .bl a,.bl b=>a == b
 | .bl a,.int b=>(if a then 1 else 0) == b
 | .int a,.bl b=>a == (if b then 1 else 0)
 | .int a,.int b=>a == b
 | .str a,.str b=>seq a b
 | _,_=>false
def inL (x:Dv) (ys:List Dv):Option Bool:=if cU x && ys.all cU then some (ys.any fun y=>eqF y x) else none
def wF:Dv→Dv→Option Bool
 | .str x,.str y=>some (inS x y)
 | x,.lst ys=>inL x ys
 | x,.tup ys=>inL x ys
 | _,_=>none
def inD (x y:Dv):Option (Rs Dv):=match wF x y with
 | some b=>some (.ok (.bl b))
 | none=>none
def k6 (x y:Dv):Option (Rs Dv):=match wF x y with
 | some b=>some (.ok (.bl (!b)))
 | none=>none
theorem j5 {K:ck} {H:Hp} {d:Dv} {v:V} (r:Rep K H d v) (h:cU d=true):dL v=true:=by
 cases d <;> first | (cases h; done) | (cases r; rfl)
theorem iq {K:ck} {H:Hp}:∀ {ds:List Dv} {vs:List V},Reps K H ds vs→ds.all cU=true→vs.all dL=true
 | [],vs,r,_=>by cases (show vs=[] from r); rfl
 | d :: ds,vs,r,h=>by
  obtain ⟨v,us,rfl,r1,r2⟩:∃ v us,vs=v :: us∧Rep K H d v∧Reps K H ds us:=r
  rw [GK,k_] at h
  rw [GK,k_]
  exact ⟨j5 r1 h.1,iq r2 h.2⟩
theorem qQ {K:ck} {H:Hp} {d e:Dv} {v u:V} (r:Rep K H d v) (q:Rep K H e u) (h:cU d=true) (h':cU e=true):eqV v u=eqF d e:=by
 cases d <;> first | (cases h; done) | (cases r; cases e <;> first | (cases h'; done) | (cases q; first | rfl | exact oj _ _))
theorem vB {K:ck} {H:Hp} {e:Dv} {u:V} (q:Rep K H e u) (h':cU e=true):∀ {ds:List Dv} {vs:List V},Reps K H ds vs→ds.all cU=true→(vs.any fun y=>eqV y u)=ds.any fun y=>eqF y e
 | [],vs,r,_=>by cases (show vs=[] from r); rfl
 | d :: ds,vs,r,h=>by
  obtain ⟨v,us,rfl,r1,r2⟩:∃ v us,vs=v :: us∧Rep K H d v∧Reps K H ds us:=r
  rw [GK,k_] at h
  rw [JR,JR,qQ r1 q h.1 h',vB q h' r2 h.2]
theorem om {K:ck} {H:Hp} {dx:Dv} {ys:List Dv} {x:V} {vs:List V} {b:Bool} (rx:Rep K H dx x) (ry:Reps K H ys vs) (h:inL dx ys=some b):dL x=true∧vs.all dL=true∧inV x vs=b:=by
 unfold inL at h
 split at h
 · rename_i hc
   rw [k_] at hc
   cases h
   exact ⟨j5 rx hc.1,iq ry hc.2,vB rx hc.1 ry hc.2⟩
 · cases h
def CQ (K:ck):R2:=fun x y H Q=>(∃ i j,x=.str i∧y=.str j∧Q (.bl (!(Gk j i 0 j.length 1).isEmpty)) H)∨rIn K false x y H Q
def mL (K:ck):R2:=fun x y H Q=>(∃ i j,x=.str i∧y=.str j∧Q (.bl (!(!(Gk j i 0 j.length 1).isEmpty))) H)∨rIn K true x y H Q
theorem o_in:OpR X (FJ .In) (CQ X.K):=op_in_str.or qE
theorem o_notIn:OpR X (FJ .NotIn) (mL X.K):=op_notIn_str.or kX
theorem CS:GOp X (CQ X.K) inD:=by
 intro dx dy x y H Q rx ry o
 unfold inD at o
 split at o
 · rename_i b hb
   have q:=o _ H (.refl H) rfl
   cases dy <;> try (cases dx <;> cases hb; done)
   · rename_i z
     cases dx <;> try (cases hb; done)
     rename_i z'
     cases hb
     exact .inl ⟨z',z,rx,ry,q⟩
   · rename_i ys
     have hb':inL dx ys=some b:=by cases dx <;> exact hb
     obtain ⟨a,vs,rfl,h1,h2⟩:=ry.tupE
     obtain ⟨f1,f2,f3⟩:=om rx h2 hb'
     exact .inr ⟨a,vs,rfl,.inr (SqT.of h1),f1,f2,by rw [if_neg rl,f3]; exact q⟩
   · rename_i ys
     have hb':inL dx ys=some b:=by cases dx <;> exact hb
     obtain ⟨a,vs,rfl,h1,h2⟩:=ry.lstE
     obtain ⟨f1,f2,f3⟩:=om rx h2 hb'
     exact .inr ⟨a,vs,rfl,.inl (SqL.of h1),f1,f2,by rw [if_neg rl,f3]; exact q⟩
 · exact o.elim
theorem qR:GOp X (mL X.K) k6:=by
 intro dx dy x y H Q rx ry o
 unfold k6 at o
 split at o
 · rename_i b hb
   have q:=o _ H (.refl H) rfl
   cases dy <;> try (cases dx <;> cases hb; done)
   · rename_i z
     cases dx <;> try (cases hb; done)
     rename_i z'
     cases hb
     exact .inl ⟨z',z,rx,ry,q⟩
   · rename_i ys
     have hb':inL dx ys=some b:=by cases dx <;> exact hb
     obtain ⟨a,vs,rfl,h1,h2⟩:=ry.tupE
     obtain ⟨f1,f2,f3⟩:=om rx h2 hb'
     exact .inr ⟨a,vs,rfl,.inr (SqT.of h1),f1,f2,by rw [if_pos rfl,f3]; exact q⟩
   · rename_i ys
     have hb':inL dx ys=some b:=by cases dx <;> exact hb
     obtain ⟨a,vs,rfl,h1,h2⟩:=ry.lstE
     obtain ⟨f1,f2,f3⟩:=om rx h2 hb'
     exact .inr ⟨a,vs,rfl,.inl (SqL.of h1),f1,f2,by rw [if_pos rfl,f3]; exact q⟩
 · exact o.elim
def atD {α:Type} (xs:List α) (i:Int):Option α:=if 0≤i then xs[i.toNat]? else if -(xs.length:Int)≤i then xs[(i + xs.length).toNat]? else none
theorem j6 {α:Type} {xs:List α} {i:Int} {v:α} (h:atD xs i=some v):atI xs i=some v:=by
 unfold atD at h
 unfold atI ixN
 split at h
 · rename_i h0
   have hl:i.toNat < xs.length:=by
    obtain ⟨q,_⟩:=u_.mp h
    exact q
   rw [if_pos h0,if_pos (by omega)]
   exact h
 · rename_i h0
   split at h
   · rename_i h1
     rw [if_neg h0,if_pos h1]
     exact h
   · cases h
def ixD:Dv→Dv→Option (Rs Dv)
 | .lst xs,.int i=>(match atD xs i with | some d=>some (.ok d) | none=>none)
 | .tup xs,.int i=>(match atD xs i with | some d=>some (.ok d) | none=>none)
 | .str z,.int i=>if z.length≤100000 then (match atD z.cps.toList i with | some c=>some (.ok (.str ⟨#[c]⟩)) | none=>none) else none
 | .scr ns,.int i=>(match atD ns i with | some d=>some (.ok (.int d)) | none=>none)
 | _,_=>none
theorem mM {α β:Type} {xs:List α} {ys:List β} (h:ys.length=xs.length) {i:Int} {x:α} (e:atD xs i=some x):∃ j:Nat,xs[j]?=some x∧∀ y,ys[j]?=some y→atD ys i=some y:=by
 unfold atD at e
 split at e
 · rename_i h0
   exact ⟨_,e,fun y q=>by unfold atD; rw [if_pos h0]; exact q⟩
 · rename_i h0
   split at e
   · rename_i h1
     exact ⟨_,e,fun y q=>by unfold atD; rw [if_neg h0,h,if_pos h1]; exact q⟩
   · cases e
theorem ET:GOp X (rIx X.K) ixD:=by
 intro dx dy x y H Q rx ry o
 cases dx <;> cases dy <;> try exact (show False from o).elim
 · rename_i z i
   simp only [ixD] at o
   split at o
   · rename_i hl
     split at o
     · rename_i c hc
       exact .inr (.inr ⟨z,i,c,rx,ry,bE hl,j6 hc,o _ H (.refl H) rfl⟩)
     · exact o.elim
   · exact o.elim
 · rename_i ds i
   simp only [ixD] at o
   split at o
   · rename_i d hd
     obtain ⟨a,xs,rfl,h1,h2⟩:=rx.tupE
     obtain ⟨j,e1,e2⟩:=mM h2.length hd
     obtain ⟨v,e3,r3⟩:=h2.get' e1
     exact .inr (.inl ⟨a,xs,i,v,rfl,ry,SqT.of h1,j6 (e2 v e3),o v H (.refl H) r3⟩)
   · exact o.elim
 · rename_i ds i
   simp only [ixD] at o
   split at o
   · rename_i d hd
     obtain ⟨a,xs,rfl,h1,h2⟩:=rx.lstE
     obtain ⟨j,e1,e2⟩:=mM h2.length hd
     obtain ⟨v,e3,r3⟩:=h2.get' e1
     exact .inl ⟨a,xs,i,v,rfl,ry,SqL.of h1,j6 (e2 v e3),o v H (.refl H) r3⟩
   · exact o.elim
 · rename_i ns i
   simp only [ixD] at o
   split at o
   · rename_i d hd
     obtain ⟨a,rfl,h1⟩:=rx.scrE
     obtain ⟨j,e1,e2⟩:=mM (ys:=ns.map V.int) (by simp) hd
     exact .inl ⟨a,_,i,.int d,rfl,ry,h1,j6 (e2 _ (by rw [D_,e1] <;> rfl)),o _ H (.refl H) rfl⟩
   · exact o.elim
theorem CU {a b:Expr} {fa fb:FnE} {pos:Pos} (ha:FE X a fa) (hb:FE X b fb) (hs:qC b:=by intro _ _; kernel_rfl):FE X (.Subscript a b pos) (f2 ixD fa fb) :=
 cL (Cv zg ha.h hb.h hs) fun _ _ _ _ E o=>two ET E o
abbrev FnO:=Ev→Option (Rs (Option Int))
def OutO (X:Cx) (H:Hp) (o:Option (Rs (Option Int))) (Q:Option Int→Hp→Prop):Prop:=match o with
 | none=>False
 | some (.exc c)=>XW X c H
 | some (.ok d)=>∀ H',Same H H'→Q d H'
theorem OutO.mono {H H':Hp} {Q:Option Int→Hp→Prop} (e:Same H H'):∀ {o:Option (Rs (Option Int))},OutO X H o Q→OutO X H' o Q
 | none,h=>h
 | some (.exc _),h=>XW.mono h e
 | some (.ok _),h=>fun H1 e1=>h H1 (e.trans e1)
structure FO (X:Cx) (e:Option Expr) (f:FnO):Prop where
 h:PO X e fun σ H Q=>∃ ρ,Envs X.K H σ ρ∧OutO X H (f ρ) Q
def k7:FnO:=fun _=>some (.ok none)
def toI:Dv→Option (Rs (Option Int))
 | .int i=>some (.ok (some i))
 | _=>none
def j7 (f:FnE):FnO:=fun ρ=>bnd (f ρ) toI
theorem wG:FO X none k7:=⟨fun pins s σ H Q I ⟨_,_,o⟩=>wn pins s σ H Q I (o H (.refl H))⟩
theorem wH {e:Expr} {fa:FnE} (h:FE X e fa):FO X (some e) (j7 fa):=⟨fun pins s σ H Q I ⟨ρ,E,o⟩=>wo h.h pins s σ H Q I ⟨ρ,E,by
 unfold j7 at o
 match hf:fa ρ,o with
 | none,o=>exact o
 | some (.exc c),o=>exact o
 | some (.ok d),o =>
  intro v H' e r
  cases d <;> try exact (show False from o).elim
  rename_i i
  exact ⟨i,r,o H' e⟩⟩⟩
def pE {α:Type} (xs:List α) (lo hi:Option Int):List α:=(xs.drop (HT.sIx xs.length 0 lo)).take (HT.sIx xs.length xs.length hi - HT.sIx xs.length 0 lo)
def EU:V→Option Int→Option Int→Hp→VK→Prop:=fun x lo hi H Q=>∃ z,x=.str z∧z.length≤sizeLine∧Q (.str (MP z lo hi)) H
theorem sl_str:SlR X EU:=by
 intro pins s σ H x v vl vu lo hi sl Q I rx hs pl pu q
 obtain ⟨z,rfl,hz,q⟩:=q
 obtain ⟨t,rfl⟩:=rx
 refine ⟨"str",_,F.slot_str_getitem.lookup,IV _ _ _,?_⟩
 have fin:∀ (t':Tok) (k:Nat),EP X pins σ Q (.str (MP z lo hi) t') { s with toks:=k }:=fun t' k=>⟨.str (MP z lo hi),H,I.tok _,⟨_,rfl⟩,q⟩
 cases pl with
 | none =>
  cases pu with
  | none=>exact HR (l:=none) (u:=none) (st:=none) hs rfl (JX ⟨FH (Lc z _ _) hz,fun t' k=>fin t' k⟩)
  | int j u=>exact HR (l:=none) (u:=some (j,u)) (st:=none) hs rfl (JX ⟨FH (Lc z _ _) hz,fun t' k=>fin t' k⟩)
 | int i u' =>
  cases pu with
  | none=>exact HR (l:=some (i,u')) (u:=none) (st:=none) hs rfl (JX ⟨FH (Lc z _ _) hz,fun t' k=>fin t' k⟩)
  | int j u=>exact HR (l:=some (i,u')) (u:=some (j,u)) (st:=none) hs rfl (JX ⟨FH (Lc z _ _) hz,fun t' k=>fin t' k⟩)
def BP (x:Dv) (lo hi:Option Int):Option (Rs Dv):=match x with
 | .str z=>if z.length≤100000 then some (.ok (.str (MP z lo hi))) else none
 | .lst xs=>some (.ok (.lst (pE xs lo hi)))
 | _=>none
def BQ (fa:FnE) (fl fh:FnO):FnE:=fun ρ=>bnd (fa ρ) fun x=>bnd (fl ρ) fun lo=>bnd (fh ρ) fun hi=>BP x lo hi
theorem fU {H:Hp} {Q:VK} {o:Option (Rs (Option Int))} {k:Option Int→Option (Rs Dv)} {P:Option Int→Hp→Prop} (h:Out X H (bnd o k) Q) (hp:∀ b H',Same H H'→Out X H' (k b) Q→P b H'):OutO X H o P:=by
 match o,h with
 | some (.exc _),h=>exact h
 | some (.ok d),h=>exact fun H1 e=>hp d H1 e (Out.mono e h)
theorem zQ {a:Expr} {lo hi:Option Expr} {fa:FnE} {fl fh:FnO} {p2 pos:Pos} (ha:FE X a fa) (hl:FO X lo fl) (hh:FO X hi fh):FE X (.Subscript a (.Slice lo hi none p2) pos) (BQ fa fl fh) :=
 cL (oa (sl_str.or qD) ha.h hl.h hh.h) fun σ H Q ρ E o=>⟨ρ,E,Out.bind o fun d v H1 e1 r1 o1=>⟨ρ,E.mono e1,fU o1 fun l H2 e2 o2=>⟨ρ,(E.mono e1).mono e2,fU o2 fun u H3 e3 o3=>by
  have r3:=Rep.mono e3 d v (Rep.mono e2 d v r1)
  cases d <;> try exact (show False from o3).elim
  · rename_i z
    unfold BP at o3
    dsimp only at o3
    split at o3
    · rename_i hz
      exact .inl ⟨z,r3,bE hz,o3 _ H3 (.refl H3) rfl⟩
    · exact o3.elim
  · rename_i ds
    obtain ⟨a',xs,rfl,h1,h2⟩:=r3.lstE
    refine .inr ⟨a',xs,rfl,SqL.of h1,fun p hp=>o3 _ _ (ar hp _) ⟨p,_,rfl,am,Reps.mono (ar hp _) _ _ ?_⟩⟩
    unfold tX pE
    rw [h2.length]
    exact (h2.drop _).take _⟩⟩⟩
def cP:List Dv→Option (Rs Dv)
 | [.str z]=>if z.length≤100000 then some (.ok (.int z.length)) else none
 | [.lst xs]=>some (.ok (.int xs.length))
 | [.tup xs]=>some (.ok (.int xs.length))
 | [.scr ns]=>some (.ok (.int ns.length))
 | _=>none
def fB1 (g:List Dv→Option (Rs Dv)) (ga:FnA):FnE:=fun ρ=>bnd (ga ρ) g
variable {x:Str} {p pos:Pos} {e:Expr} {es:List Expr} {ga:FnA}
theorem cM {K:ck} {H:Hp} {d:Dv} {vs:List V} (r:Reps K H [d] vs):∃ v,vs=[v]∧Rep K H d v:=by
 obtain ⟨v,us,rfl,r1,r2⟩:∃ v us,vs=v :: us∧Rep K H d v∧Reps K H [] us:=r
 cases (show us=[] from r2)
 exact ⟨v,rfl,r1⟩
theorem CV {K:ck} {H:Hp} {d d2:Dv} {vs:List V} (r:Reps K H [d,d2] vs):∃ v v2,vs=[v,v2]∧Rep K H d v∧Rep K H d2 v2:=by
 obtain ⟨v,us,rfl,r1,r2⟩:∃ v us,vs=v :: us∧Rep K H d v∧Reps K H [d2] us:=r
 obtain ⟨v2,rfl,r3⟩:=cM r2
 exact ⟨v,v2,rfl,r1,r3⟩
theorem zR (hg:Gl X "len") (hm:X.mg "len"=none) (ha:FA X (e :: es) ga) (he:e_ (e :: es) X.env=(false,eval e X.env) :: e_ es X.env:=by kernel_rfl) (hpl:(F0 pos (e_ es X.env)).any (·.1)=false:=by kernel_rfl):FE X (.Call (.Name "len" p) (e :: es) [] pos) (fB1 cP ga) :=
 cL (ip tV hg hm Nm ha.h (by decide) (by decide) he hpl) fun σ H Q ρ E o=>⟨ρ,E,OutA.bind o fun ds vs H1 e1 rs o1=>by
  unfold cP at o1
  split at o1
  · rename_i z
    split at o1
    · rename_i hz
      obtain ⟨v,rfl,r⟩:=cM rs
      cases (show v=.str z from r)
      exact ⟨_,_,rfl,⟨bE hz,rfl⟩,o1 _ H1 (.refl H1) rfl⟩
    · exact o1.elim
  · rename_i xs
    obtain ⟨v,rfl,r⟩:=cM rs
    obtain ⟨a,ws,rfl,h1,h2⟩:=r.lstE
    exact ⟨_,_,rfl,.inl ⟨ws,SqL.of h1,rfl⟩,o1 _ H1 (.refl H1) (by rw [h2.length]; rfl)⟩
  · rename_i xs
    obtain ⟨v,rfl,r⟩:=cM rs
    obtain ⟨a,ws,rfl,h1,h2⟩:=r.tupE
    exact ⟨_,_,rfl,.inr ⟨ws,SqT.of h1,rfl⟩,o1 _ H1 (.refl H1) (by rw [h2.length]; rfl)⟩
  · rename_i ns
    obtain ⟨v,rfl,r⟩:=cM rs
    obtain ⟨a,rfl,h1⟩:=r.scrE
    exact ⟨_,_,rfl,.inl ⟨_,h1,rfl⟩,o1 _ H1 (.refl H1) (by rw [y_]; rfl)⟩
  · exact o1.elim⟩
def iI:List Dv→Option (List Bool)
 | []=>some []
 | .bl b :: r=>(match iI r with | some bs=>some (b :: bs) | none=>none)
 | _=>none
def j8:List Dv→Option (Rs Dv)
 | [.lst xs]=>(match iI xs with | some bs=>some (.ok (.bl (bs.all id))) | none=>none)
 | _=>none
theorem oo {K:ck} {H:Hp}:∀ {ds:List Dv} {vs:List V} {us:List Value} {bs:List Bool},Reps K H ds vs→Vals vs us→iI ds=some bs→us=bs.map GA
 | [],vs,us,bs,r,q,h=>by
  cases (show vs=[] from r)
  cases q
  cases h
  rfl
 | d :: ds,vs,us,bs,r,q,h=>by
  obtain ⟨v,ws,rfl,r1,r2⟩:∃ v us,vs=v :: us∧Rep K H d v∧Reps K H ds us:=r
  cases q with
  | cons q1 q2 =>
   cases d <;> try (cases h; done)
   rename_i b
   simp only [iI] at h
   cases hb:iI ds with
   | none=>rw [hb] at h; cases h
   | some bs' =>
    rw [hb] at h
    cases h
    cases (show v=.bl b from r1)
    cases q1
    rw [oo r2 q2 hb]
    rfl
theorem ue:CallR X (.builtin "all") (fun xs H Q=>∃ a vs bs ds,xs=[.ref a]∧H a=some (.lst vs)∧Reps X.K H ds vs∧iI ds=some bs∧X.calm=true∧Q (.bl (bs.all id)) H):=by
 intro pins s σ H xs us Q I r h
 obtain ⟨a,vs,bs,ds,rfl,h1,h2,h3,hc,q⟩:=h
 obtain ⟨u,rfl,ru⟩:=dJ r
 cases ru
 obtain ⟨z,its,n,rv,hl,e⟩:=I.lstM h1
 have eb:=oo h2 rv h3
 subst eb
 have hL:s.heap.IsList a (bs.map GA).toArray:=⟨_,e,rfl,_,rfl⟩
 have hlt:a < s.heap.objs.size:=m_ e
 refine call_all_walk (Jm hL ?_)
 refine ⟨s.heap.objs.size,[s.heap.objs.size,a],[s.heap.objs.size],(bs.map GA).toArray.size,_,_,fun i=>(bs[i]?).getD true,rfl,Nq (A:=X.A.in1) (I.ok.hd hc) _ a (n_ hlt) (bs.map GA).toArray,
  ⟨⟨_,h_ _ rfl,rfl,rfl⟩,hL.push _⟩,fun i v s' Q' E' hP hQ=>?_,fun h' tk hk=>?_⟩
 · have hP':(bs.map GA)[i]?=some v:=by simpa using hP
   rw [D_] at hP'
   cases hb:bs[i]? with
   | none=>rw [hb] at hP'; cases hP'
   | some b =>
    rw [hb] at hP'
    cases hP'
    have hQ2:Q' ((bs[i]?).getD true) s':=hQ
    rw [hb] at hQ2
    exact G7 hQ2
 · have e2:((f_ (bs.map GA).toArray.size).all fun i=>(bs[i]?).getD true)=bs.all id:=by
    rw [v_,y_]
    rw [FY]
    simp only [Gz,Gw,id]
    constructor
    · intro hh b hb
      obtain ⟨i,hi,rfl⟩:=List.mem_iff_getElem.mp hb
      simpa [hi] using hh i hi
    · intro hh i hi
      simp only [i_ hi,Option.getD_some]
      exact hh _ (IE hi)
   rw [e2]
   refine ⟨.bl _,H,I.kept fun b x eb=>hk b x (fun hm=>?_) (d_ _ eb),rfl,q⟩
   rw [Gs.mp hm] at eb
   exact Gy _ (m_ eb)
theorem zS (hc:X.calm=true) (hg:Gl X "all") (hm:X.mg "all"=none) (ha:FA X (e :: es) ga) (he:e_ (e :: es) X.env=(false,eval e X.env) :: e_ es X.env:=by kernel_rfl) (hpl:(F0 pos (e_ es X.env)).any (·.1)=false:=by kernel_rfl):FE X (.Call (.Name "all" p) (e :: es) [] pos) (fB1 j8 ga) :=
 cL (ip ue hg hm PyProof.Rows.boot_all ha.h (by decide) (by decide) he hpl) fun σ H Q ρ E o=>⟨ρ,E,OutA.bind o fun ds vs H1 e1 rs o1=>by
  unfold j8 at o1
  split at o1
  · rename_i xs
    split at o1
    · rename_i bs hb
      obtain ⟨v,rfl,r⟩:=cM rs
      obtain ⟨a,ws,rfl,h1,h2⟩:=r.lstE
      exact ⟨a,ws,bs,xs,rfl,h1,h2,hb,hc,o1 _ H1 (.refl H1) rfl⟩
    · exact o1.elim
  · exact o1.elim⟩
def tyD:Dv→String
 | .non=>"NoneType"
 | .bl _=>"bool"
 | .int _=>"int"
 | .str _=>"str"
 | .tup _=>"tuple"
 | .lst _=>"list"
 | .scr _=>"list"
 | .exn _=>"object"
end
section
variable {X:Cx} {p pos apos cpos pT:Pos} {e a o:Expr} {es:List Expr} {ga:FnA} {fa fo:FnE}
theorem wI {K:ck} {H:Hp} {d:Dv} {v:V} (r:Rep K H d v) (hs:∀ ns,d≠.scr ns) (hx:∀ c,d≠.exn c):nY K H v (.type (tyD d)):=by
 cases d with
 | non=>cases (show v=.non from r); exact .non
 | bl b=>cases (show v=.bl b from r); exact .bl b
 | int b=>cases (show v=.int b from r); exact .int b
 | str b=>cases (show v=.str b from r); exact .str b
 | tup ds=>obtain ⟨a,xs,rfl,h,_⟩:=r.tupE; exact .tup h
 | lst ds=>obtain ⟨a,xs,rfl,h,_⟩:=r.lstE; exact .lst h
 | scr ns=>exact absurd rfl (hs ns)
 | exn c=>exact absurd rfl (hx c)
theorem uf (T:String):CallR X (.builtin "isinstance") (fun xs H Q=>∃ x t b,xs=[x,.ty T]∧nY X.K H x t∧Hk X.K t (.type T)=some b∧Q (.bl b) H):=by
 intro pins s σ H xs us Q I r h
 obtain ⟨x,t,b,rfl,ty,hk,q⟩:=h
 obtain ⟨u,w',rfl,ru,rw'⟩:=Cr r
 cases (show w'=r_ T from rw')
 exact qv I ru ty hk fun tk=>⟨.bl b,H,I.tok tk,rfl,q⟩
def dE (tb:Dv→Bool):Dv→Option (Rs Dv)
 | .scr _=>none
 | .exn _=>none
 | d=>some (.ok (.bl (tb d)))
theorem k8 {T:String} {tb:Dv→Bool} (hk:∀ K d,Hk K (.type (tyD d)) (.type T)=some (tb d)) (hT:GF (a_ T)=some (.type T)) (hn:a_ T≠"__name__") (hdT:(a_ T == ("__debug__":Str))=false)
 (hg:Gl X "isinstance") (hm:X.mg "isinstance"=none) (hgT:Gl X (a_ T)) (hmT:X.mg (a_ T)=none) (ha:FE X a fa)
 (hs1:e_ [a,.Name (a_ T) pT] X.env=(false,eval a X.env) :: e_ [.Name (a_ T) pT] X.env:=by kernel_rfl) (hs2:e_ [.Name (a_ T) pT] X.env=(false,eval (.Name (a_ T) pT) X.env) :: e_ [] X.env:=by kernel_rfl)
 (hpl:(F0 pos (e_ [.Name (a_ T) pT] X.env)).any (·.1)=false:=by kernel_rfl) :
 FE X (.Call (.Name "isinstance" p) [a,.Name (a_ T) pT] [] pos) (f1 (dE tb) fa) :=
 cL (ip (uf T) hg hm PyProof.Rows.boot_isinstance (mG ha.h (mG (v7 (v:=.ty T) hgT hmT hT rfl hn hdT) vt hs2) hs1) (by decide) (by decide) hs1 hpl) fun σ H Q ρ E o=>⟨ρ,E,Out.bind o fun d v H1 e1 r o1=>by
  show ∃ x t b,[v,V.ty T]=[x,.ty T]∧_
  cases d with
  | scr ns=>exact o1.elim
  | exn c=>exact o1.elim
  | _=>exact ⟨v,_,_,rfl,wI r (fun ns z=>by cases z) (fun c z=>by cases z),hk X.K _,o1 _ H1 (.refl H1) rfl⟩⟩
def dN:Dv→Bool
 | .str _=>true
 | _=>false
theorem wJ (K:ck) (d:Dv):Hk K (.type (tyD d)) (.type "str")=some (dN d):=by cases d <;> kernel_rfl
def du:Dv→Bool
 | .tup _=>true
 | _=>false
theorem wK (K:ck) (d:Dv):Hk K (.type (tyD d)) (.type "tuple")=some (du d):=by cases d <;> kernel_rfl
def bH:Dv→Bool
 | .bl _=>true
 | _=>false
theorem ug (K:ck) (d:Dv):Hk K (.type (tyD d)) (.type "bool")=some (bH d):=by cases d <;> kernel_rfl
def fM (g:Str→List Dv→Option (Rs Dv)) (fo:FnE) (ga:FnA):FnE:=fun ρ=>bnd (fo ρ) fun x=>match x with
 | .str i=>bnd (ga ρ) fun xs=>g i xs
 | _=>none
def p0 (h:Str→Str→Bool):Str→List Dv→Option (Rs Dv)
 | x,[.str y]=>some (.ok (.bl (h x y)))
 | _,_=>none
def wL (h:Str→Str→Bool):V→List V→Hp→VK→Prop:=fun x xs H Q=>∃ i j,x=.str i∧xs=[.str j]∧Q (.bl (h i j)) H
theorem CW:MtR X "str.startswith" (wL HU):=by
 intro pins s σ H x xs v us Q I rx rs h
 obtain ⟨i,j,rfl,rfl,q⟩:=h
 obtain ⟨t,rfl⟩:=rx
 obtain ⟨u,rfl,ru⟩:=dJ rs
 obtain ⟨t',rfl⟩:=ru
 exact SC.startswith ⟨.bl _,H,I,rfl,q⟩
theorem CY:MtR X "str.endswith" (wL Kc):=by
 intro pins s σ H x xs v us Q I rx rs h
 obtain ⟨i,j,rfl,rfl,q⟩:=h
 obtain ⟨t,rfl⟩:=rx
 obtain ⟨u,rfl,ru⟩:=dJ rs
 obtain ⟨t',rfl⟩:=ru
 exact SC.endswith ⟨.bl _,H,I,rfl,q⟩
theorem wM {name:Str} {id:String} {r:V→List V→Hp→VK→Prop} {g:Str→List Dv→Option (Rs Dv)} (slot:Slot "str" name id) (hty:Nj (.builtin id)=pure (.type "method_descriptor")) (hm:MtR X id r)
 (hg:∀ i ds vs H Q,Reps X.K H ds vs→Out X H (g i ds) Q→r (.str i) vs H Q) (ho:FE X o fo) (ha:FA X (e :: es) ga)
 (hbase:Iq o name X.env (eval o X.env)=eval o X.env:=by kernel_rfl)
 (hfew:((F0 cpos (e_ (e :: es) X.env)).all (fun x=>!x.1) && (Ii cpos (GY [] X.env)).all (fun x=>x.1.isSome)
   && decide ((e :: es).length + ([]:List Iv).length + (if ([]:List Iv).isEmpty then 0 else 1) < 30))=true:=by kernel_rfl)
 (hline:(apos.endLine == cpos.line)=true:=by kernel_rfl) (hs:e_ (e :: es) X.env=(false,eval e X.env) :: e_ es X.env:=by kernel_rfl) (hplain:(F0 cpos (e_ es X.env)).any (·.1)=false:=by kernel_rfl) :
 FE X (.Call (.Attribute o name apos) (e :: es) [] cpos) (fM g fo ga) :=
 cL (tY PySem.F.plainAttrs_str slot hty hm ho.h ha.h hbase hfew hline hs hplain) fun σ H Q ρ E o=>⟨ρ,E,Out.bind o fun d v H1 e1 rd o1=>by
  cases d <;> try exact (show False from o1).elim
  rename_i i
  cases (show v=.str i from rd)
  exact ⟨rfl,ρ,E.mono e1,OutA.bind o1 fun ds vs H2 e2 rs o2=>hg i ds vs H2 Q rs o2⟩⟩
theorem vC {h:Str→Str→Bool} (i:Str) (ds:List Dv) (vs:List V) (H:Hp) (Q:VK) (rs:Reps X.K H ds vs) (o:Out X H (p0 h i ds) Q):wL h (.str i) vs H Q:=by
 unfold p0 at o
 split at o
 · rename_i j
   obtain ⟨w,rfl,rw'⟩:=cM rs
   cases (show w=.str j from rw')
   exact ⟨i,j,rfl,rfl,o _ H (.refl H) rfl⟩
 · exact o.elim
def Ei (K:ck):R2:=fun x y H Q=>∃ (a b:Addr) (ns:List Int),x=.ref a∧y=.ref b∧SqL K H a (ns.map V.int)∧H b=some (.lst [])∧Q (.bl ns.isEmpty) H
theorem CZ (hu:X.A.units < cLine):OpR X (FJ .Eq) (Ei X.K):=by
 intro pins s σ H x y v u Q I rx ry h
 obtain ⟨a,b,ns,rfl,rfl,h1,h2,q⟩:=h
 cases rx
 cases ry
 obtain ⟨its,r,pl,hz⟩:=I.list h1
 obtain ⟨z2,its2,n2,r2,hl2,e2⟩:=I.lstM h2
 cases r2
 have hb:s.heap.IsList b #[]:=⟨_,e2,rfl,_,rfl⟩
 have hl:=r.length
 cases ns with
 | nil =>
  have e0:its=[]:=by cases its with | nil=>rfl | cons _ _=>simp at hl
  subst e0
  exact SeqAt.eq_listAt (e:=fun _=>true) pl.isList hb rfl hu (fun i hi=>absurd hi (by simp)) (by first | exact ⟨.bl _,H,I,rfl,q⟩ | (refine ⟨.bl _,H,I,?_,q⟩; simp [RelV]))
 | cons n ns =>
  refine SeqAt.eq_list_lengthsAt pl.isList hb ?_ hu ⟨.bl _,H,I,rfl,q⟩
  have:0 < its.length:=by rw [← hl]; simp
  simp
  exact fun z=>by rw [z] at this; simp at this
def BR:Dv→Dv→Option (Rs Dv)
 | .scr ns,.lst []=>some (.ok (.bl ns.isEmpty))
 | _,_=>none
theorem C0:GOp X (Ei X.K) BR:=by
 intro dx dy x y H Q rx ry o
 unfold BR at o
 split at o
 · rename_i ns
   obtain ⟨a,rfl,h1⟩:=rx.scrE
   obtain ⟨b,xs,rfl,h2,h3⟩:=ry.lstE
   cases (show xs=[] from h3)
   exact ⟨a,b,ns,rfl,rfl,h1,h2,o _ H (.refl H) rfl⟩
 · exact o.elim
end
end FD
namespace FD
open PySem
theorem zT:GF (a_ "str")=some (.type "str"):=PyProof.Rows.boot_str
theorem uh:GF (a_ "tuple")=some (.type "tuple"):=by decide +kernel
theorem wN:GF (a_ "bool")=some (.type "bool"):=by decide +kernel
end FD
namespace FD
open PySem PySem.Spec PyProof.Rows L2
mutual
def bU:Dv→PyData
 | .non=>.none
 | .bl b=>.bool b
 | .int i=>.int i
 | .str x=>.str x
 | .tup xs=>.tuple (toPys xs)
 | .lst xs=>.list (toPys xs)
 | .scr ns=>.list (ns.map PyData.int)
 | .exn _=>.dict []
def toPys:List Dv→List PyData
 | []=>[]
 | d :: ds=>bU d :: toPys ds
end
section
variable {X:Cx} {pins:List (Addr×Obj)} {σ:L2.St} {H:Hp} {s:Shared}
theorem jA:∀ {ns:List Int} {us:List Value},Vals (ns.map V.int) us→∃ as,ReadsAll s.heap us (ns.map PyData.int) as
 | [],us,r=>by cases r; exact ⟨_,.nil⟩
 | n :: ns,us,r=>by
  cases r with
  | cons r1 r2 =>
   obtain ⟨t,rfl⟩:=r1
   obtain ⟨as,q⟩:=jA r2
   exact ⟨_,.cons (.int n t) q⟩
mutual
theorem Rep.reads (I:Inv X pins σ H s):∀ (d:Dv) (v:V) (u:Value),Rep X.K H d v→RelV v u→(bU d).canLay0=true→∃ as,Reads s.heap u (bU d) as
 | .non,v,u,r,q,hz0=>by cases (show v=.non from r); cases (show u=FB from q); exact ⟨_,.none⟩
 | .bl b,v,u,r,q,hz0=>by cases (show v=.bl b from r); cases (show u=GA b from q); exact ⟨_,.bool b⟩
 | .int i,v,u,r,q,hz0=>by cases (show v=.int i from r); obtain ⟨t,rfl⟩:=(show ∃ t,u=MO i t from q); exact ⟨_,.int i t⟩
 | .str x,v,u,r,q,hz0=>by cases (show v=.str x from r); obtain ⟨t,rfl⟩:=(show ∃ t,u=GG x t from q); exact ⟨_,.str x t⟩
 | .tup ds,v,u,r,q,hz0=>by
  obtain ⟨a,xs,rfl,h,rs⟩:=r.tupE
  cases (show u=s_ a from q)
  obtain ⟨its,rv,⟨o,e,c,n,d⟩,hz⟩:=I.tuple (SqT.of h)
  obtain ⟨as,ra⟩:=Reps.reads I ds xs its rs rv (by simpa [bU,FR] using hz0)
  exact ⟨as,.tuple e c d (by simpa using ra)⟩
 | .lst ds,v,u,r,q,hz0=>by
  obtain ⟨a,xs,rfl,h,rs⟩:=r.lstE
  cases (show u=s_ a from q)
  obtain ⟨z,its,n,rv,hl,e⟩:=I.lstM h
  obtain ⟨as,ra⟩:=Reps.reads I ds xs its rs rv (by simpa [bU,FR] using hz0)
  exact ⟨a :: as,.list e rfl rfl (by simpa using ra)⟩
 | .scr ns,v,u,r,q,hz0=>by
  obtain ⟨a,rfl,h⟩:=r.scrE
  cases (show u=s_ a from q)
  obtain ⟨its,rv,⟨o,n,e,c,hd,d⟩,hz⟩:=I.list h
  obtain ⟨as,ra⟩:=jA (s:=s) rv
  exact ⟨a :: as,.list e c d (by simpa using ra)⟩
 | .exn c,v,u,r,q,hz0=>by simp [bU,FR] at hz0
theorem Reps.reads (I:Inv X pins σ H s):∀ (ds:List Dv) (vs:List V) (us:List Value),Reps X.K H ds vs→Vals vs us→GJ (toPys ds)=true→∃ as,ReadsAll s.heap us (toPys ds) as
 | [],vs,us,r,q,_=>by cases (show vs=[] from r); cases q; exact ⟨_,.nil⟩
 | d :: ds,vs,us,r,q,hz0=>by
  obtain ⟨v,ws,rfl,r1,r2⟩:∃ v us,vs=v :: us∧Rep X.K H d v∧Reps X.K H ds us:=r
  cases q with
  | cons q1 q2 =>
   have hz1:(bU d).canLay0=true∧GJ (toPys ds)=true:=by simpa [toPys,GJ] using hz0
   obtain ⟨as,a⟩:=Rep.reads I d v _ r1 q1 hz1.1
   obtain ⟨bs,b⟩:=Reps.reads I ds ws _ r2 q2 hz1.2
   exact ⟨_,.cons a b⟩
end
end
section
variable {X:Cx}
def okP (d:Dv):Bool:=SeqAt.shaped (bU d)
def rPy (X:Cx) (neg:Bool):R2:=fun x y H Q=>∃ dx dy,Rep X.K H dx x∧Rep X.K H dy y∧okP dx=true∧okP dy=true∧Q (.bl (if neg then !Gc (bU dx) (bU dy) else Gc (bU dx) (bU dy))) H
theorem zU (hu:X.A.units + 64 < cLine):OpR X (FJ .Eq) (rPy X false):=by
 intro pins s σ H x y v u Q I rx ry h
 obtain ⟨dx,dy,qx,qy,hx,hy,q⟩:=h
 obtain ⟨as,ra⟩:=Rep.reads I dx x v qx rx (Ga.mp hx).1
 obtain ⟨bs,rb⟩:=Rep.reads I dy y u qy ry (Ga.mp hy).1
 exact SeqAt.compareEq_shaped ra rb hx hy hu ⟨.bl _,H,I,rfl,q⟩
theorem zV (hu:X.A.units + 64 < cLine):OpR X (FJ .NotEq) (rPy X true):=by
 intro pins s σ H x y v u Q I rx ry h
 obtain ⟨dx,dy,qx,qy,hx,hy,q⟩:=h
 obtain ⟨as,ra⟩:=Rep.reads I dx x v qx rx (Ga.mp hx).1
 obtain ⟨bs,rb⟩:=Rep.reads I dy y u qy ry (Ga.mp hy).1
 exact SeqAt.compareNe_shaped ra rb hx hy hu ⟨.bl _,H,I,rfl,q⟩
def eqX (x y:Dv):Option (Rs Dv):=match eqS x y with
 | some b=>some (.ok (.bl b))
 | none=>if okP x && okP y then some (.ok (.bl (Gc (bU x) (bU y)))) else none
def neX (x y:Dv):Option (Rs Dv):=match eqS x y with
 | some b=>some (.ok (.bl (!b)))
 | none=>if okP x && okP y then some (.ok (.bl (!Gc (bU x) (bU y)))) else none
def Ej (X:Cx):R2:=fun x y H Q=>rEq x y H Q∨rPy X false x y H Q
def Ek (X:Cx):R2:=fun x y H Q=>rNe x y H Q∨rPy X true x y H Q
theorem zW (hu:X.A.units + 64 < cLine):OpR X (FJ .Eq) (Ej X):=op_eq.or (zU hu)
theorem C1 (hu:X.A.units + 64 < cLine):OpR X (FJ .NotEq) (Ek X):=op_ne.or (zV hu)
theorem zX:GOp X (Ej X) eqX:=by
 intro dx dy x y H Q rx ry o
 unfold eqX at o
 split at o
 · rename_i b hb
   obtain ⟨h1,h2⟩:=vA rx ry hb
   exact .inl ⟨h1,by rw [h2]; exact o _ H (.refl H) rfl⟩
 · split at o
   · rename_i hc
     rw [k_] at hc
     exact .inr ⟨dx,dy,rx,ry,hc.1,hc.2,o _ H (.refl H) rfl⟩
   · exact o.elim
theorem C2:GOp X (Ek X) neX:=by
 intro dx dy x y H Q rx ry o
 unfold neX at o
 split at o
 · rename_i b hb
   obtain ⟨h1,h2⟩:=vA rx ry hb
   exact .inl ⟨h1,by rw [h2]; exact o _ H (.refl H) rfl⟩
 · split at o
   · rename_i hc
     rw [k_] at hc
     exact .inr ⟨dx,dy,rx,ry,hc.1,hc.2,o _ H (.refl H) rfl⟩
   · exact o.elim
def ltX:Dv→Dv→Option (Rs Dv)
 | .int i,.int j=>some (.ok (.bl (decide (i < j))))
 | .str x,.str y=>some (.ok (.bl (decide (x.cps.toList < y.cps.toList))))
 | _,_=>none
def El:R2:=fun x y H Q=>rI0 (fun i j=>.bl (decide (i < j))) x y H Q∨∃ i j,x=.str i∧y=.str j∧Q (.bl (decide (i.cps.toList < j.cps.toList))) H
theorem zY:OpR X (FJ .Lt) El:=op_lt.or qt
theorem zZ:GOp X El ltX:=by
 intro dx dy x y H Q rx ry o
 cases dx <;> cases dy <;> try exact (show False from o).elim
 · rename_i i j
   exact .inl ⟨i,j,rx,ry,o _ H (.refl H) rfl⟩
 · rename_i i j
   exact .inr ⟨i,j,rx,ry,o _ H (.refl H) rfl⟩
theorem k9:∀ (ps:List Str) (k:Nat),Vals (ps.map V.str) (strsFrom k ps)
 | [],_=>.nil
 | p :: ps,k=>.cons ⟨k,rfl⟩ (k9 ps (k + 1))
theorem la {K:ck} {H:Hp}:∀ ps:List Str,Reps K H (ps.map Dv.str) (ps.map V.str)
 | []=>rfl
 | p :: ps=>⟨.str p,ps.map V.str,rfl,rfl,la ps⟩
def lb:Str→List Dv→Option (Rs Dv)
 | x,[.str y]=>if y.length≠0∧x.length≤100000∧(Jd x y).length≤100000 then some (.ok (.lst ((Jd x y).map Dv.str))) else none
 | _,_=>none
def vD:V→List V→Hp→VK→Prop:=fun x xs H Q=>∃ i j,x=.str i∧xs=[.str j]∧j.length≠0∧i.length≤sizeLine∧(Jd i j).length≤sizeLine∧∀ p,H p=none→Q (.ref p) (upd H p (.lst ((Jd i j).map V.str)))
theorem ui:MtR X "str.split" vD:=by
 intro pins s σ H x xs v us Q I rx rs h
 obtain ⟨i,j,rfl,rfl,hj,hi,hn,q⟩:=h
 obtain ⟨t,rfl⟩:=rx
 obtain ⟨u,rfl,ru⟩:=dJ rs
 obtain ⟨t',rfl⟩:=ru
 have hy:(j.length == 0)=false:=by simpa using hj
 have one:∀ {s':Shared},s'={ s with heap:=s.heap.push { cls:=.type "list",data:=.seq [GG i t].toArray } }→Jd i j=[i]→EP X pins σ Q (.ref s.heap.objs.size) s':=fun e e2=>by
  subst e
  rw [e2] at q
  exact ⟨.ref _,_,I.lnew (its:=[GG i t]) (ys:=[V.str i]) (t':=s.toks) (.cons ⟨t,rfl⟩ .nil) (by show 1≤sizeLine; decide),rfl,q _ I.fresh⟩
 cases h1:(decide (i.length < j.length) || decide (L8 i < L8 j))
 · cases hf:(Gk i j 0 i.length (i.length + 1)).isEmpty
   · have e2:Jd i j=Builtin.Str.partsBetween i (Gk i j 0 i.length (i.length + 1)) j.length:=by
      unfold Jd
      rw [if_neg (by rw [h1]; exact rl),if_neg (by rw [hf]; exact rl)]
     rw [e2] at q hn
     refine IW Jj (IV _ _ _) KD (Kq _ _) (meets_str_split_sep i j t t' h1 hy hf hi hn) ?_
     exact ⟨.ref _,_,I.lnew (t':=_) (k9 _ _) (by rw [y_]; exact hn),rfl,q _ I.fresh⟩
   · refine IW Jj (IV _ _ _) KD (Kq _ _) (meets_str_split_not_found i j t t' h1 hy hf) ?_
     exact one rfl (by unfold Jd; rw [if_neg (by rw [h1]; exact rl),if_pos hf])
 · refine IW Jj (IV _ _ _) KD (Kq _ _) (meets_str_split_cannot_occur i j t t' h1) ?_
   exact one rfl (by unfold Jd; rw [if_pos h1])
theorem wO (i:Str) (ds:List Dv) (vs:List V) (H:Hp) (Q:VK) (rs:Reps X.K H ds vs) (o:Out X H (lb i ds) Q):vD (.str i) vs H Q:=by
 unfold lb at o
 split at o
 · rename_i j
   split at o
   · rename_i hc
     obtain ⟨w,rfl,rw'⟩:=cM rs
     cases (show w=.str j from rw')
     exact ⟨i,j,rfl,rfl,hc.1,bE hc.2.1,bE hc.2.2,fun p hp=>o _ _ (ar hp _) ⟨p,_,rfl,am,la _⟩⟩
   · exact o.elim
 · exact o.elim
def pF:List Dv→Option (List Str)
 | []=>some []
 | .str x :: r=>(match pF r with | some xs=>some (x :: xs) | none=>none)
 | _=>none
def uj:Str→List Dv→Option (Rs Dv)
 | x,[.lst ds]=>(match pF ds with
  | some ts=>if JoinOk x ts=true then some (.ok (.str (Txt.join x ts))) else none
  | none=>none)
 | _,_=>none
def z0 (K:ck):V→List V→Hp→VK→Prop:=fun x xs H Q=>∃ i a vs ds ts,x=.str i∧xs=[.ref a]∧H a=some (.lst vs)∧Reps K H ds vs∧pF ds=some ts∧JoinOk i ts=true∧Q (.str (Txt.join i ts)) H
theorem jB {K:ck} {H:Hp}:∀ {ds:List Dv} {vs:List V} {us:List Value} {ts:List Str},Reps K H ds vs→Vals vs us→pF ds=some ts→∃ l:List (Str×Tok),us=strValues l∧l.map (·.1)=ts
 | [],vs,us,ts,r,q,h=>by
  cases (show vs=[] from r)
  cases q
  cases h
  exact ⟨[],rfl,rfl⟩
 | d :: ds,vs,us,ts,r,q,h=>by
  obtain ⟨v,ws,rfl,r1,r2⟩:∃ v us,vs=v :: us∧Rep K H d v∧Reps K H ds us:=r
  cases q with
  | cons q1 q2 =>
   cases d <;> try (cases h; done)
   rename_i b
   simp only [pF] at h
   cases hb:pF ds with
   | none=>rw [hb] at h; cases h
   | some bs' =>
    rw [hb] at h
    cases h
    cases (show v=.str b from r1)
    obtain ⟨t,rfl⟩:=q1
    obtain ⟨l,e1,e2⟩:=jB r2 q2 hb
    exact ⟨(b,t) :: l,by rw [e1]; rfl,by rw [xy,e2]⟩
theorem wP:MtR X "str.join" (z0 X.K):=by
 intro pins s σ H x xs v us Q I rx rs h
 obtain ⟨i,a,vs,ds,ts,rfl,rfl,h1,h2,h3,h4,q⟩:=h
 obtain ⟨t,rfl⟩:=rx
 obtain ⟨u,rfl,ru⟩:=dJ rs
 cases ru
 obtain ⟨z,its,n,rv,hl,e⟩:=I.lstM h1
 obtain ⟨l,e1,e2⟩:=jB h2 rv h3
 subst e1
 exact SC.join ⟨_,e,rfl,_,rfl⟩ e2 h4 fun t' k=>⟨.str _,H,I.tok _,⟨_,rfl⟩,q⟩
theorem z4 (i:Str) (ds:List Dv) (vs:List V) (H:Hp) (Q:VK) (rs:Reps X.K H ds vs) (o:Out X H (uj i ds) Q):z0 X.K (.str i) vs H Q:=by
 unfold uj at o
 split at o
 · rename_i es
   split at o
   · rename_i ts ht
     split at o
     · rename_i hj
       obtain ⟨w,rfl,rw'⟩:=cM rs
       obtain ⟨a,xs,rfl,h1,h2⟩:=rw'.lstE
       exact ⟨i,a,xs,es,ts,rfl,rfl,h1,h2,ht,hj,o _ H (.refl H) rfl⟩
     · exact o.elim
   · exact o.elim
 · exact o.elim
def ul:Str→List Dv→Option (Rs Dv)
 | x,[.str y]=>if y.length≠0∧x.length≤100000 then some (.ok (.tup [.str (He x y).1,.str (He x y).2.1,.str (He x y).2.2])) else none
 | _,_=>none
def z5:V→List V→Hp→VK→Prop:=fun x xs H Q=>∃ i j,x=.str i∧xs=[.str j]∧j.length≠0∧i.length≤sizeLine∧∀ p,H p=none→Q (.ref p) (upd H p (.tup [.str (He i j).1,.str (He i j).2.1,.str (He i j).2.2]))
theorem wQ:MtR X "str.partition" z5:=by
 intro pins s σ H x xs v us Q I rx rs h
 obtain ⟨i,j,rfl,rfl,hj,hi,q⟩:=h
 obtain ⟨t,rfl⟩:=rx
 obtain ⟨u,rfl,ru⟩:=dJ rs
 obtain ⟨t',rfl⟩:=ru
 have hy:(j.length == 0)=false:=by simpa using hj
 have fin:∀ (a b c:Str) (ta tb tc:Tok) (k:Nat),He i j=(a,b,c)→EP X pins σ Q (.ref s.heap.objs.size) { s with toks:=k,heap:=s.heap.push { cls:=.type "tuple",data:=.seq [GG a ta,.str b tb,.str c tc].toArray } }:=fun a b c ta tb tc k e=>by
  rw [e] at q
  refine ⟨.ref _,_,I.laid (t':=k) (fun b u e=>d_ _ e) (j_ _) ?_,rfl,q _ I.fresh⟩
  exact ⟨by show 3≤sizeLine; decide,[GG a ta,.str b tb,.str c tc],.cons ⟨_,rfl⟩ (.cons ⟨_,rfl⟩ (.cons ⟨_,rfl⟩ .nil)),⟨_,h_ _ rfl,rfl,_,rfl⟩⟩
 refine IW KY (IV _ _ _) F.entry_str_partition (F.args_str_partition_2 _ _) (meets_str_partition i j t t' hy hi) ?_
 cases ho:Gk i j 0 i.length 1 with
 | nil=>exact fin _ _ _ _ _ _ _ (by unfold He; rw [ho])
 | cons k r=>exact fin _ _ _ _ _ _ _ (by unfold He; rw [ho])
theorem z6 (i:Str) (ds:List Dv) (vs:List V) (H:Hp) (Q:VK) (rs:Reps X.K H ds vs) (o:Out X H (ul i ds) Q):z5 (.str i) vs H Q:=by
 unfold ul at o
 split at o
 · rename_i j
   split at o
   · rename_i hc
     obtain ⟨w,rfl,rw'⟩:=cM rs
     cases (show w=.str j from rw')
     exact ⟨i,j,rfl,rfl,hc.1,bE hc.2,fun p hp=>o _ _ (ar hp _) ⟨p,_,rfl,am,⟨_,_,rfl,rfl,_,_,rfl,rfl,_,_,rfl,rfl,rfl⟩⟩⟩
   · exact o.elim
 · exact o.elim
variable {p pos:Pos} {e:Expr} {es:List Expr} {ga:FnA}
def fV:List Dv→Option (Rs Dv)
 | [.lst xs]=>some (.ok (.tup xs))
 | [.tup xs]=>some (.ok (.tup xs))
 | _=>none
theorem um (hg:Gl X "tuple") (hm:X.mg "tuple"=none) (ha:FA X (e :: es) ga) (he:e_ (e :: es) X.env=(false,eval e X.env) :: e_ es X.env:=by kernel_rfl) (hpl:(F0 pos (e_ es X.env)).any (·.1)=false:=by kernel_rfl):FE X (.Call (.Name "tuple" p) (e :: es) [] pos) (fB1 fV ga) :=
 cL (qA j3 hg hm (by decide +kernel) ha.h (by decide) (by decide) he hpl) fun σ H Q ρ E o=>⟨ρ,E,OutA.bind o fun ds vs H1 e1 rs o1=>by
  unfold fV at o1
  split at o1
  · rename_i xs
    obtain ⟨v,rfl,r⟩:=cM rs
    obtain ⟨a,ws,rfl,h1,h2⟩:=r.lstE
    exact ⟨a,ws,rfl,.inl ⟨SqL.of h1,fun l hl=>o1 _ _ (ar hl _) ⟨l,ws,rfl,am,Reps.mono (ar hl _) _ _ h2⟩⟩⟩
  · rename_i xs
    obtain ⟨v,rfl,r⟩:=cM rs
    obtain ⟨a,ws,rfl,h1,h2⟩:=r.tupE
    exact ⟨a,ws,rfl,.inr ⟨SqT.of h1,o1 _ H1 (.refl H1) ⟨a,ws,rfl,h1,h2⟩⟩⟩
  · exact o1.elim⟩
end
section
variable {X:Cx} {apos cpos:Pos} {e o:Expr} {es:List Expr} {ga:FnA} {fo:FnE}
def BS (x:Dv):List Dv→Nat→Option Nat
 | [],_=>none
 | y :: ys,k=>if eqF y x then some k else BS x ys (k + 1)
def C3:List Dv→List Dv→Option (Rs Dv)
 | xs,[x]=>if cU x && xs.all cU && decide (xs.length≤100000) then (match BS x xs 0 with | some j=>some (.ok (.int j)) | none=>none) else none
 | _,_=>none
theorem qS {K:ck} {H:Hp} {x:Dv} {u:V} (q:Rep K H x u) (hx:cU x=true):∀ {xs:List Dv} {vs:List V} {k j:Nat},Reps K H xs vs→xs.all cU=true→BS x xs k=some j →
 k≤j∧(∃ v,vs[j - k]?=some v∧eqV v u=true)∧∀ (m:Nat) v,m < j - k→vs[m]?=some v→eqV v u=false
 | [],vs,k,j,r,_,h=>by cases h
 | y :: ys,vs,k,j,r,hf,h=>by
  obtain ⟨v,ws,rfl,r1,r2⟩:∃ v us,vs=v :: us∧Rep K H y v∧Reps K H ys us:=r
  rw [GK,k_] at hf
  unfold BS at h
  have e1:=qQ r1 q hf.1 hx
  split at h
  · rename_i hh
    cases h
    refine ⟨j_ _,⟨v,by simp,by rw [e1]; exact hh⟩,fun m w hm=>by omega⟩
  · rename_i hh
    obtain ⟨a,⟨w,b1,b2⟩,c⟩:=qS q hx r2 hf.2 h
    refine ⟨by omega,⟨w,?_,b2⟩,fun m z hm hz=>?_⟩
    · have e:j - k=(j - (k + 1)) + 1:=by omega
      rw [e,Ji]
      exact b1
    · cases m with
      | zero =>
       have:z=v:=by simpa using hz.symm
       subst this
       rw [e1]
       simpa using hh
      | succ m=>exact c m z (by omega) (by simpa using hz)
def z7:V→List V→Hp→VK→Prop:=fun x xs H Q=>∃ a vs y j,x=.ref a∧xs=[y]∧H a=some (.lst vs)∧dL y=true∧vs.all dL=true∧vs.length≤100000∧(∃ v,vs[j]?=some v∧eqV v y=true)∧(∀ (m:Nat) v,m < j→vs[m]?=some v→eqV v y=false)∧Q (.int j) H
theorem vE {y:V} {vs:List V} {its:List Value} (r:Vals vs its) (f:vs.all dL=true) {m:Nat} {v:V} (h:vs[m]?=some v):∃ hm:m < its.length,eqU y its[m]=eqV v y:=by
 obtain ⟨u,hu,ru⟩:=r.get h
 obtain ⟨hm,e⟩:=u_.mp hu
 refine ⟨hm,?_⟩
 rw [e]
 exact og ru (Gz.mp f v (GR h))
theorem uo:MtR X "list.index" z7:=by
 intro pins s σ H x xs v us Q I rx rs h
 obtain ⟨a,vs,y,j,rfl,rfl,h1,fy,fv,hz,⟨w,hw,hit⟩,hno,q⟩:=h
 cases rx
 obtain ⟨u,rfl,ru⟩:=dJ rs
 obtain ⟨z,its,n,rv,hl,e⟩:=I.lstM h1
 obtain ⟨hj,ej⟩:=vE (y:=y) rv fv hw
 refine IW KZ ⟨_,e,rfl⟩ PySem.F.entry_list_index (PySem.F.args_list_index_2 _ _) (SeqAt.list_indexAt a its.toArray n none #[] u (eqU y) j (by simpa using hj) (by omega) (by simpa [ej] using hit) fun m hm hlt=>?_) ⟨e,fun t ht=>dt ru fy rv fv t (by simpa using ht),⟨.int j,H,I.tok _,⟨_,rfl⟩,q⟩⟩
 have hm':m < vs.length:=by rw [rv.length]; simpa using hm
 obtain ⟨hm2,em⟩:=vE (y:=y) rv fv (i_ hm')
 have:=hno m vs[m] hlt (i_ hm')
 simpa [em] using this
def fML (g:List Dv→List Dv→Option (Rs Dv)) (fo:FnE) (ga:FnA):FnE:=fun ρ=>bnd (fo ρ) fun x=>match x with
 | .lst i=>bnd (ga ρ) fun xs=>g i xs
 | _=>none
theorem uq (ho:FE X o fo) (ha:FA X (e :: es) ga)
 (hbase:Iq o "index" X.env (eval o X.env)=eval o X.env:=by kernel_rfl)
 (hfew:((F0 cpos (e_ (e :: es) X.env)).all (fun x=>!x.1) && (Ii cpos (GY [] X.env)).all (fun x=>x.1.isSome)
   && decide ((e :: es).length + ([]:List Iv).length + (if ([]:List Iv).isEmpty then 0 else 1) < 30))=true:=by kernel_rfl)
 (hline:(apos.endLine == cpos.line)=true:=by kernel_rfl) (hs:e_ (e :: es) X.env=(false,eval e X.env) :: e_ es X.env:=by kernel_rfl) (hplain:(F0 cpos (e_ es X.env)).any (·.1)=false:=by kernel_rfl) :
 FE X (.Call (.Attribute o "index" apos) (e :: es) [] cpos) (fML C3 fo ga) :=
 cL (tY Je KZ PySem.F.type_list_index uo ho.h ha.h hbase hfew hline hs hplain) fun σ H Q ρ E o=>⟨ρ,E,Out.bind o fun d v H1 e1 rd o1=>by
  cases d <;> try exact (show False from o1).elim
  rename_i ds
  obtain ⟨a,vs,rfl,h1,h2⟩:=rd.lstE
  refine ⟨.inl ⟨rfl,vs,SqL.of h1⟩,ρ,E.mono e1,OutA.bind o1 fun es ws H2 e2 rs o2=>?_⟩
  unfold C3 at o2
  split at o2
  · rename_i x
    split at o2
    · rename_i hc
      rw [k_,k_] at hc
      split at o2
      · rename_i j hj
        obtain ⟨w,rfl,rw'⟩:=cM rs
        have h2':=Reps.mono e2 _ _ h2
        obtain ⟨c1,c2,c3⟩:=qS rw' hc.1.1 h2' hc.1.2 hj
        refine ⟨a,vs,w,j,rfl,rfl,e2 _ _ h1,j5 rw' hc.1.1,iq h2' hc.1.2,by rw [h2.length]; exact of_decide_eq_true hc.2,by simpa using c2,by simpa using c3,o2 _ H2 (.refl H2) rfl⟩
      · exact o2.elim
    · exact o2.elim
  · exact o2.elim⟩
end
structure FG (X:Cx) (tg:Expr) (b:Dv→Ev→Option Ev):Prop where
 h:∀ (pins:List (Addr×Obj)) (s:Shared) (σ:L2.St) (H:Hp) (v:V) (u:Value) (d:Dv) (ρ ρ':Ev),Inv X pins σ H s→RelV v u→Rep X.K H d v→Envs X.K H σ ρ→b d ρ=some ρ' →
  l_ (o_ X.prog X.w) X.A (J0 tg X.env u) (fun _ s'=>∃ σ' H',Inv X pins σ' H' s'∧Same H H'∧Envs X.K H' σ' ρ') X.xe s
def gN (i:Nat):Dv→Ev→Option Ev:=fun d ρ=>some (ρ.set i (some d))
def gP (i j:Nat):Dv→Ev→Option Ev:=fun d ρ=>match d with
 | .tup [a,c]=>some ((ρ.set i (some a)).set j (some c))
 | _=>none
section
variable {X:Cx} {pos p1 p2:Pos}
theorem wR (i:Nat) {x:Str} (hN:X.N.Nodup) (hi:X.N[i]?=some x) (hx:Loc X.env.scope x) (hf:X.fn x=true∨X.env.scope.names.lookup x=some .local):FG X (.Name x pos) (gN i) :=
 ⟨fun pins s σ H v u d ρ ρ' I r rd E e=>by
  cases e
  exact thn (gE hN hi hx hf pins s σ H v u (fun σ' H'=>H'=H∧σ'=σ.set i (some v)) I r ⟨rfl,rfl⟩) fun _ s' ⟨σ',H',I',e1,e2⟩=>by
   subst e1 e2
   exact ⟨_,_,I',.refl _,E.set rd⟩⟩
theorem qT (i j:Nat) {x y:Str} {k:Nat} (hc:X.calm=true) (hN:X.N.Nodup) (hi:X.N[i]?=some x) (hx:Loc X.env.scope x) (hf:X.fn x=true∨X.env.scope.names.lookup x=some .local)
 (hj:X.N[j]?=some y) (hy:Loc X.env.scope y) (hg:X.fn y=true∨X.env.scope.names.lookup y=some .local)
 (hs1:(F8 [.Name x p1,.Name y p2] X.env).map (·.2)=J0 (.Name x p1) X.env :: (F8 [.Name y p2] X.env).map (·.2):=by kernel_rfl) (hs2:(F8 [.Name y p2] X.env).map (·.2)=J0 (.Name y p2) X.env :: (F8 [] X.env).map (·.2):=by kernel_rfl)
 (hn:(F8 [.Name x p1,.Name y p2] X.env).length=2:=by kernel_rfl) (hst:(F8 [.Name x p1,.Name y p2] X.env).findIdx? (·.1)=none:=by kernel_rfl):FG X (.Tuple [.Name x p1,.Name y p2] k pos) (gP i j) :=
 ⟨fun pins s σ H v u d ρ ρ' I r rd E e=>by
  unfold gP at e
  split at e
  · rename_i a c
    cases e
    obtain ⟨ad,xs,rfl,h1,h2⟩:=rd.tupE
    obtain ⟨va,vc,rfl,ra,rc⟩:=CV h2
    refine thn (yY (n:=2) hc (nU (gE (i:=i) hN hi hx hf) (nU (gE (i:=j) hN hj hy hg) wb hs2) hs1) hn hst pins s σ H _ u (fun σ' H'=>H'=H∧σ'=(σ.set i (some va)).set j (some vc)) I r ⟨ad,_,rfl,SqT.of h1,rfl,va,[vc],rfl,vc,[],rfl,rfl,rfl,rfl⟩) fun _ s' ⟨σ',H',I',e1,e2⟩=>?_
    subst e1 e2
    exact ⟨_,_,I',.refl _,(E.set ra).set rc⟩
  · cases e⟩
end
structure WkG (K:ck) (J:It) (ds:List Dv) (H0:Hp):Prop where
 go:∀ i H,Same H0 H→i < ds.length→J.go i H
 stop:∀ H,Same H0 H→J.stop ds.length H
 yld:∀ i H x H',Same H0 H→i < ds.length→J.yld i H x H'→Same H H'∧∃ d,ds[i]?=some d∧Rep K H' d x
theorem Wk.toG {K:ck} {J:It} {ds:List Dv} {H0:Hp} (w:Wk K J ds H0):WkG K J ds H0 :=
 ⟨w.go,w.stop,fun i H x H' e hi y=>by
  obtain ⟨rfl,d,h1,h2⟩:=w.yld i H x H' e hi y
  exact ⟨.refl _,d,h1,h2⟩⟩
def OutG (X:Cx) (H:Hp) (o:Option (Rs (List Dv))) (R:It→Hp→Prop):Prop:=match o with
 | none=>False
 | some (.exc c)=>XW X c H
 | some (.ok ds)=>∀ J H',Same H H'→WkG X.K J ds H'→R J H'
theorem OutG.mono {X:Cx} {H H':Hp} {R:It→Hp→Prop} (e:Same H H'):∀ {o:Option (Rs (List Dv))},OutG X H o R→OutG X H' o R
 | none,h=>h
 | some (.exc _),h=>XW.mono h e
 | some (.ok _),h=>fun v H1 e1 r=>h v H1 (e.trans e1) r
structure FIG (X:Cx) (tg iter:Expr) (f:FnA):Prop where
 h:PI X tg iter fun σ H R=>∃ ρ,Envs X.K H σ ρ∧OutG X H (f ρ) R
theorem FI.toG {X:Cx} {tg iter:Expr} {f:FnA} (h:FI X tg iter f):FIG X tg iter f :=
 ⟨fun pins s σ H R I ⟨ρ,E,o⟩=>h.h pins s σ H R I ⟨ρ,E,by
  match hf:f ρ,o with
  | some (.exc c),o=>exact o
  | some (.ok ds),o=>exact fun J H' e w=>o J H' e w.toG⟩⟩
def dR (m:Nat) (cs:List (Str×Nat)) (ρ:Ev):Ev:=F9 m none ++ cs.map fun c=>(ρ[c.2]?).join
def eM (b:Dv→Ev→Option Ev) (tst:Option FnB) (elt:FnE) (cap:Ev):List Dv→Option (List Dv)
 | []=>some []
 | d :: ds=>match b d cap with
  | none=>none
  | some ρ=>match (match tst with | none=>(some (.ok true):Option (Rs Bool)) | some t=>t ρ) with
   | some (.ok true)=>(match elt ρ with
    | some (.ok y)=>(match eM b tst elt cap ds with | some ys=>some (y :: ys) | none=>none)
    | _=>none)
   | some (.ok false)=>eM b tst elt cap ds
   | _=>none
structure C4 (osc scope:Scope) (cs:List (Str×Nat)) (N:List Str):Prop where
 kind:scope.kind=.function
 cell:∀ y∈scope.names,y.2≠.cell
 names:∀ y∈scope.names,y.2=.local→scope.names.lookup y.1=some .local
 free:∀ y∈scope.names,y.2=.free→osc.names.lookup y.1=some .cell∨osc.names.lookup y.1=some .free
 caps:∀ c∈cs,N[c.2]?=some c.1∧scope.names.lookup c.1=some .free
def lc (m:Nat) (cs:List (Str×Nat)) (σ:L2.St):L2.St:=F9 m none ++ cs.map fun c=>(σ[c.2]?).join
theorem lf {α:Type} {m i:Nat} {v:α} {l:List (Option α)} (h:(F9 m (none:Option α) ++ l)[i]?=some (some v)):∃ k,i=m + k∧l[k]?=some (some v):=by
 by_cases hi:i < m
 · rw [Hu (by simpa using hi),Jh,if_pos hi] at h
   cases h
 · refine ⟨i - m,by omega,?_⟩
   rw [GW (by simpa using hi)] at h
   simpa using h
theorem qU {K:ck} {H:Hp} {σ:L2.St} {ρ:Ev} (m:Nat) (cs:List (Str×Nat)) (E:Envs K H σ ρ):Envs K H (lc m cs σ) (dR m cs ρ):=by
 refine ⟨by simp [lc,dR],fun i d h=>?_⟩
 obtain ⟨k,rfl,hk⟩:=lf h
 rw [D_] at hk
 cases hc:cs[k]? with
 | none=>rw [hc] at hk; simp at hk
 | some c =>
  rw [hc] at hk
  simp only [GZ,HC] at hk
  have h2:ρ[c.2]?=some (some d):=by
   cases q:ρ[c.2]? with
   | none=>rw [q] at hk; simp at hk
   | some o=>rw [q] at hk; simp at hk; rw [hk]
  obtain ⟨v,h3,h4⟩:=E.at' c.2 d h2
  refine ⟨v,?_,h4⟩
  unfold lc
  rw [GW (by simp)]
  simp only [Iu,K5,D_,hc,GZ,h3]
  rfl
theorem lg {prog:Program} {w:uk} {A:q_} {R:LK→Shared→Prop} {s:Shared} {elt target iter:Expr} {ifs:List Expr} {scope:Scope} {pos:Pos} {it acc:Value} {env:Env} (I:Nat→Shared→Prop)
 (turn:∀ n s,I n s→l_ (o_ prog w) A (Jn it) (fun r s₁=>match r with
   | none=>R (.ok .next) s₁
   | some v=>l_ (o_ prog w) A (JY target it v) (fun _ s₀=>l_ (o_ prog w) A (J0 target env v) (fun _ s₂ =>
    l_ (o_ prog w) A (NH ifs true fun c r=>if r=true then do let ok ← isTrue c env (eval c env); pure (J8 ok) else pure (J8 r)) (fun ok s₃ =>
     if ok=true then l_ (o_ prog w) A (eval elt env) (fun x s₄ =>
      l_ (o_ prog w) A (call (.builtin "list.append") [acc,x]) (fun _ s₅=>∃ m,m < n∧I m s₅) (K_ (o_ prog w) A env fun e s'=>R (.error e) s') s₄) (K_ (o_ prog w) A env fun e s'=>R (.error e) s') s₃
     else ∃ m,m < n∧I m s₃) (K_ (o_ prog w) A env fun e s'=>R (.error e) s') s₂) (K_ (o_ prog w) A env fun e s'=>R (.error e) s') s₀) (K_ (o_ prog w) A env fun e s'=>R (.error e) s') s₁) (K_ (o_ prog w) A env fun e s'=>R (.error e) s') s)
 (n:Nat) (h:I n s) :
 HZ (o_ prog w) A (.compLoop (.ListComp elt [⟨target,iter,ifs,0⟩] scope pos) 0 it acc env) R s:=by
 refine codeAny_loop rfl I (fun n s hI=>?_) n h
 show l_ _ A ((compTurn (.ListComp elt [⟨target,iter,ifs,0⟩] scope pos) 0 it acc env).onRaise (fun x=>do noteFrame x env; theTreesLotGoes x)) _ _ s
 refine wpAny_noted ?_
 rw [compTurn_list]
 refine b_ (wpAny_standAt (b_ (FQ (turn n s hI) (fun r s₁ h₁=>?_) fun _ _ h'=>h')))
 cases r with
 | none=>exact c_ h₁
 | some v =>
  refine b_ (FQ h₁ (fun _ s₀ h₀=>?_) fun _ _ h'=>h')
  refine b_ (FQ h₀ (fun _ s₂ h₂=>b_ (FQ h₂ (fun ok s₃ h₃=>?_) fun _ _ h'=>h')) fun _ _ h'=>h')
  cases ok with
  | false =>
   rw [if_neg rl] at h₃
   first
    | exact b_ (c_ (c_ ⟨rfl,h₃⟩))
    | exact c_ ⟨rfl,h₃⟩
    | (show l_ _ _ (Np _) _ _ _; exact c_ ⟨rfl,h₃⟩)
  | true =>
   rw [if_pos rfl] at h₃
   first
    | exact b_ (b_ (FQ h₃ (fun x s₄ h₄=>b_ (FQ h₄ (fun _ s₅ h₅=>c_ (c_ ⟨rfl,h₅⟩)) fun _ _ h'=>h')) fun _ _ h'=>h'))
    | exact b_ (FQ h₃ (fun x s₄ h₄=>b_ (FQ h₄ (fun _ s₅ h₅=>c_ ⟨rfl,h₅⟩) fun _ _ h'=>h')) fun _ _ h'=>h')
def aK (m:Nat) (cs:List (Str×Nat)) (src:FnA) (b:Dv→Ev→Option Ev) (tst:Option FnB) (elt:FnE):FnE:=fun ρ=>bnd (src ρ) fun ds=>match eM b tst elt (dR m cs ρ) ds with
 | some ys=>if ys.length≤100000∧ds.length≤100000 then some (.ok (.lst ys)) else none
 | none=>none
theorem C5 {m:Nat} {cs:List (Str×Nat)} {src:FnA} {b:Dv→Ev→Option Ev} {tst:Option FnB} {fe:FnE} {ρ:Ev} {o:Rs Dv} (h:aK m cs src b tst fe ρ=some o) :
 (∃ c,src ρ=some (.exc c)∧o=.exc c)∨∃ ds ys,src ρ=some (.ok ds)∧eM b tst fe (dR m cs ρ) ds=some ys∧ds.length≤100000∧ys.length≤100000∧o=.ok (.lst ys):=by
 unfold aK at h
 match hf:src ρ with
 | none=>rw [hf] at h; cases h
 | some (.exc c)=>rw [hf] at h; cases h; exact .inl ⟨c,rfl,rfl⟩
 | some (.ok ds) =>
  rw [hf] at h
  dsimp only [bnd] at h
  match hm:eM b tst fe (dR m cs ρ) ds with
  | none=>rw [hm] at h; cases h
  | some ys =>
   rw [hm] at h
   dsimp only at h
   split at h
   · rename_i hl
     cases h
     exact .inr ⟨ds,ys,rfl,hm,hl.2,hl.1,rfl⟩
   · cases h
theorem wS (cs:List (Str×Nat)) (ρ:Ev) (d:Dv) (ρ':Ev) (h:gN 0 d (dR 1 cs ρ)=some ρ'):fgt [0] ρ'=dR 1 cs ρ:=by
 cases h
 rfl
theorem z8 (cs:List (Str×Nat)) (ρ:Ev) (d:Dv) (ρ':Ev) (h:gP 0 1 d (dR 2 cs ρ)=some ρ'):fgt [0,1] ρ'=dR 2 cs ρ:=by
 unfold gP at h
 split at h
 · cases h
   rfl
 · cases h
def Ite (K:ck) (a:Addr):It :=
 ⟨fun i H=>∃ xs x,SqL K H a xs∧xs[i]?=some x,fun i H v H'=>∃ p x,v=.ref p∧H p=none∧H'=upd H p (.tup [.int i,x])∧∀ xs,SqL K H a xs→xs[i]?=some x,fun i H=>∃ xs,SqL K H a xs∧xs.length≤i⟩
theorem qV {P:Program} {w:uk} {K:ck} {es:List Expr} {k:Nat} {pos:Pos} (a e it:Addr) (hne:e≠it):vp P w K (.Tuple es k pos) (Ite K a) [e,it] e (fun i h=>(∃ old,IsEnum h e it i old)∧h.IsListIter it a i) where
 mem:=by simp
 obj:=fun i h st b hb=>by
  obtain ⟨⟨old,he⟩,o,e2,c,d⟩:=st
  have hb':b=e∨b=it:=by simpa using hb
  rcases hb' with rfl | rfl
  · exact ⟨_,he,fun v z=>by cases z⟩
  · exact ⟨o,e2,fun v z=>by rw [d] at z; cases z⟩
 keep:=fun i h h' st kk=>by
  obtain ⟨⟨old,he⟩,st2⟩:=st
  exact ⟨⟨old,kk e (by simp) _ he⟩,st2.at fun o ee=>kk it (by simp) o ee⟩
 item:=by
  intro X hP hw hK hc i pins s σ H E I hf st hg
  subst hP hw hK
  obtain ⟨xs,x,hq,hx⟩:=hg
  obtain ⟨its,rv,p,hz⟩:=I.list hq
  obtain ⟨u,hu,ru⟩:=rv.get hx
  obtain ⟨⟨old,he⟩,st2⟩:=st
  obtain ⟨f0,f1,f2,f3,f4,f5⟩:=hf e (by simp)
  obtain ⟨g0,g1,g2,g3,g4,g5⟩:=hf it (by simp)
  refine wpAny_pyNext_enum_item he st2 p.isList (x:=u) (by simpa using hu) hne fun h' eo st' tp sz kk=>?_
  refine ⟨_,rfl,wpAny_letOwnedTupleGo_enum eo fun h2 he2 sb2=>?_⟩
  have hp:H s.heap.objs.size=none:=I.hok.fresh (j_ _)
  have elt:e < s.heap.objs.size:=m_ he
  have k2:∀ b o,b ∉ [e,it]→s.heap.get? b=some o→h2.get? b=some o:=fun b o hb q=>sb2.extBut b o (fun z=>hb (by simp [z])) (kk b o (fun z=>hb (by simp [z])) (fun z=>hb (by simp [z])) q)
  have tp2:h2.get? s.heap.objs.size=some { cls:=.type "tuple",data:=.seq #[.int i s.toks,u] }:=sb2.extBut _ _ (Jw elt) tp
  have I1:Inv X pins σ (upd H s.heap.objs.size (.tup [.int i,x])) { s with heap:=h2,toks:=s.toks + 1 }:=by
   have nt:∀ b u,H b=some u→b ∉ [e,it]:=fun b u q z=>by
    have z':b=e∨b=it:=by simpa using z
    rcases z' with rfl | rfl
    · rw [f0] at q; cases q
    · rw [g0] at q; cases q
   refine I.step (g':=s.gens) (d':=s.drawn) (ch:=[e,it]) (fun b hb=>?_) (fun b o _ _ hcb q _=>k2 b o hcb q) (fun b o _ _ hcb q _=>⟨o.slots,k2 b o hcb q⟩) (fun b o hcb q n=>?_) (fun b o hcb q=>⟨o,k2 b o hcb q⟩)
    (fun b ys q=>by rw [au (ao q hp)]; exact q) (fun b o ys q=>by rw [au (ao q hp)]; exact q) (fun b ps q=>⟨#[],by rw [au (ao q hp),q]; simp⟩) (fun m hm=>?_) (fun b u2 q=>?_) I.bare
   · have z':b=e∨b=it:=by simpa using hb
     rcases z' with rfl | rfl
     · exact ⟨f3,f1,f4,f5⟩
     · exact ⟨g3,g1,g4,g5⟩
   · rw [au (n_ (m_ q))]; exact n
   · obtain ⟨o,es',ep,ho,r⟩:=hm
     exact ⟨o,es',ep,k2 _ o (fun z=>by
      have z':X.env.locals=e∨X.env.locals=it:=by simpa using z
      rcases z' with z' | z'
      · exact f1 z'.symm
      · exact g1 z'.symm) ho,r⟩
   · by_cases hb:b=s.heap.objs.size
     · subst hb
       rw [am] at q
       cases q
       exact ⟨by show 2≤sizeLine; decide,[.int i s.toks,u],.cons ⟨_,rfl⟩ (.cons ru .nil),⟨_,tp2,rfl,_,rfl⟩⟩
     · rw [au hb] at q
       refine (I.hok b u2 q).stay (fun c v hcv qq=>k2 c v ?_ qq) (fun c qq=>by rw [au (ao qq hp)]; exact qq) fun c ys qq=>by rw [au (ao qq hp)]; exact qq
       rcases hcv with rfl | hcv
       · exact nt _ _ q
       · exact nt _ _ hcv
  refine ⟨.ref s.heap.objs.size,_,I1,rfl,⟨_,x,rfl,hp,rfl,fun zs hy=>by rw [I.list_inj hy hq]; exact hx⟩,⟨⟨_,by simpa using he2⟩,?_⟩,fun b hb=>?_⟩
  · exact st'.at fun o q=>sb2.extBut _ _ (IC hne) q
  · have z':b=e∨b=it:=by simpa using hb
    rcases z' with rfl | rfl
    · rw [au (n_ elt)]; exact f0
    · obtain ⟨o,q,_⟩:=id st2
      rw [au (n_ (m_ q))]; exact g0
 done:=by
  intro X hP hw hK hc i pins s σ H E I hf st hg
  subst hP hw hK
  obtain ⟨xs,hq,hx⟩:=hg
  obtain ⟨its,rv,p,hz⟩:=I.list hq
  obtain ⟨⟨old,he⟩,st2⟩:=st
  obtain ⟨g0,g1,g2,g3,g4,g5⟩:=hf it (by simp)
  have hl:=rv.length
  exact wpAny_pyNext_enum_end (I.ok.hd hc) he st2 p.isList (by simp; omega) fun h' eb=>⟨rfl,I.turned (t':=s.toks) (fun b o hb e=>eb b o hb e) g0 g1 g3 g4 g5⟩
 self:=fun _ _ _ _ _ st h=>by
  obtain ⟨⟨old,he⟩,_⟩:=st
  exact wpAny_pyIter_enum he h
def eZ:Nat→List Dv→List Dv
 | _,[]=>[]
 | k,d :: ds=>.tup [.int k,d] :: eZ (k + 1) ds
theorem dS:∀ (ds:List Dv) (k:Nat),(eZ k ds).length=ds.length
 | [],_=>rfl
 | d :: ds,k=>by show (eZ (k + 1) ds).length + 1=ds.length + 1; rw [dS]
theorem lh:∀ (ds:List Dv) (k i:Nat) (d:Dv),ds[i]?=some d→(eZ k ds)[i]?=some (.tup [.int ((k + i:Nat):Int),d])
 | [],_,_,_,h=>by simp at h
 | d :: ds,k,0,d',h=>by simp at h; subst h; rfl
 | d :: ds,k,i + 1,d',h=>by
  have q:=lh ds (k + 1) i d' (by simpa using h)
  show (Dv.tup [.int k,d] :: eZ (k + 1) ds)[i + 1]?=_
  rw [Ji,q]
  have e:k + 1 + i=k + (i + 1):=by omega
  rw [e]
theorem wT {K:ck} {H:Hp} {a:Addr} {xs:List V} {ds:List Dv} (h:H a=some (.lst xs)) (r:Reps K H ds xs):WkG K (Ite K a) (eZ 0 ds) H where
 go:=fun i H' e hi=>by
  rw [dS] at hi
  have hx:i < xs.length:=by rw [r.length]; exact hi
  exact ⟨xs,xs[i],SqL.of (e _ _ h),by simp [hx]⟩
 stop:=fun H' e=>⟨xs,SqL.of (e _ _ h),by rw [r.length,dS]; exact j_ _⟩
 yld:=fun i H' v H2 e hi y=>by
  obtain ⟨p,x,rfl,hp,rfl,y⟩:=y
  obtain ⟨d,h1,h2⟩:=Reps.get (Reps.mono e _ _ r) (y xs (SqL.of (e _ _ h)))
  have q:=lh ds 0 i d h1
  rw [ID] at q
  exact ⟨ar hp _,_,q,⟨p,_,rfl,am,⟨.int i,[x],rfl,rfl,x,[],rfl,Rep.mono (ar hp _) _ _ h2,rfl⟩⟩⟩
def ll:List Dv→Option (Rs (List Dv))
 | [.lst ds]=>some (.ok (eZ 0 ds))
 | _=>none
theorem ur {X:Cx} {es:List Expr} {k:Nat} {pt p pos:Pos} {l:Expr} {ga:FnA} (hg:Gl X "enumerate") (hm:X.mg "enumerate"=none) (ha:FA X [l] ga) (hs:e_ [l] X.env=[(false,eval l X.env)]:=by kernel_rfl):FIG X (.Tuple es k pt) (.Call (.Name "enumerate" p) [l] [] pos) (fun ρ=>bnd (ga ρ) ll):=by
 constructor
 intro pins s σ H R I h
 obtain ⟨ρ,E,o⟩:=h
 have key:OutA X H (ga ρ) fun vs H'=>∃ ds,Reps X.K H' ds vs∧OutG X H' (ll ds) R:=by
  match hf:ga ρ,o with
  | some (.exc c),o=>exact o
  | some (.ok ds),o=>exact fun vs H' e rs=>⟨ds,rs,OutG.mono e o⟩
 refine Call_ (cZ I hg hm (show GF "enumerate"=some (.type "enumerate") by decide +kernel) (Ge (thn (ha.h pos pins s σ H _ I ⟨ρ,E,key⟩) fun us s1 ⟨vs,H1,I1,r1,ds,rs,q1⟩=>?_) hs rfl))
 unfold ll at q1
 split at q1
 · rename_i xs
   obtain ⟨v,rfl,rv⟩:=cM rs
   obtain ⟨a,ws,rfl,h1,h2⟩:=rv.lstE
   obtain ⟨u,rfl,ru⟩:=dJ r1
   cases ru
   obtain ⟨its,rv',pl,hz⟩:=I1.list (SqL.of h1)
   refine call_enumerate_list pl.isList fun h' he hit hsz kk=>?_
   refine wpAny_pyIter_enum he ?_
   have I2:Inv X pins σ H1 { s1 with heap:=h' }:=I1.kept (t':=s1.toks) kk
   refine ⟨s1.heap.objs.size + 1,[s1.heap.objs.size + 1,s1.heap.objs.size],_,Ite X.K a,H1,rfl,I2,qV a _ _ (Nat.succ_ne_self _),⟨⟨_,he⟩,hit⟩,fun b hb=>?_,q1 _ H1 (.refl H1) (wT h1 h2)⟩
   have hb':b=s1.heap.objs.size + 1∨b=s1.heap.objs.size:=by simpa using hb
   rcases hb' with rfl | rfl
   · exact I1.fpOk (Hg _) (I1.hok.fresh (Hg _))
   · exact I1.fpOk (j_ _) (I1.hok.fresh (j_ _))
 · exact q1.elim
section
variable {X:Cx} {pos p1:Pos}
end
theorem aq {a b:FnS} {ρ ρ':Ev} (h:a ρ=some (.nx ρ')):aA a b ρ=b ρ':=by
 unfold aA; rw [h]; rfl
theorem bt {c:FnB} {f:FnS} {ρ:Ev} (h:c ρ=some (.ok false)):br c f (fun ρ=>some (.nx ρ)) ρ=some (.nx ρ):=by
 unfold br; rw [h]; rfl
theorem bd {i:Nat} {v:FnE} {ρ ρ':Ev} {d:Dv} (h:v ρ=some (.ok d)) (e:ρ.set i (some d)=ρ'):bq i v ρ=some (.nx ρ'):=by
 unfold bq; rw [h,← e]; rfl
theorem oq {v:FnE} {ρ:Ev} {d:Dv} (h:v ρ=some (.ok d)):bN v ρ=some (.nx ρ):=by
 unfold bN; rw [h]; rfl
theorem bO {v:FnE} {ρ:Ev} {d:Dv} (h:v ρ=some (.ok d)):aE v ρ=some (.rt d):=by
 unfold aE; rw [h]; rfl
theorem qW {i:Nat} {js:List Nat} {src:FnA} {body:FnS} {ρ:Ev} {ds:List Dv} (h:src ρ=some (.ok ds)):tM i js src body ρ=fq i js body ds ρ:=by
 unfold tM; rw [h]; rfl
theorem C7 {a b:FnB} {ρ:Ev} (h:a ρ=some (.ok false)):bOr a b ρ=b ρ:=by unfold bOr; rw [h]; rfl
theorem qX {a b:FnB} {ρ:Ev} (h:a ρ=some (.ok true)):ia a b ρ=b ρ:=by unfold ia; rw [h]; rfl
theorem qY {a b:FnB} {ρ:Ev} (h:a ρ=some (.ok false)):ia a b ρ=some (.ok false):=by unfold ia; rw [h]; rfl
theorem fu {a:FnB} {ρ:Ev} {k:Bool} (h:a ρ=some (.ok k)):ce a ρ=some (.ok (!k)):=by unfold ce; rw [h]; rfl
theorem bV {f:FnE} {ρ:Ev} {k:Bool} (h:f ρ=some (.ok (.bl k))):fB f ρ=some (.ok k):=by unfold fB; rw [h]; rfl
theorem bg {g:Dv→Dv→Option (Rs Dv)} {f h:FnE} {ρ:Ev} {x y:Dv} (hf:f ρ=some (.ok x)) (hh:h ρ=some (.ok y)):f2 g f h ρ=g x y:=by unfold f2; rw [hf,hh]; rfl
theorem iJ {i:Nat} {ρ:Ev} {d:Dv} (h:ρ[i]?=some (some d)):ab i ρ=some (.ok d):=by unfold ab; rw [h]
theorem ah {f:FnE} {g:FnA} {ρ:Ev} {x:Dv} {xs:List Dv} (h:f ρ=some (.ok x)) (t:g ρ=some (.ok xs)):aa f g ρ=some (.ok (x :: xs)):=by unfold aa; rw [h,t]; rfl
theorem av {ρ:Ev}:ag ρ=some (.ok []):=rfl
theorem dv {F:List Dv→Option (Rs Dv)} {n:Nat} {g:FnA} {ρ:Ev} {ds:List Dv} {d:Dv} (h:g ρ=some (.ok ds)) (hl:ds.length=n) (hF:F ds=some (.ok d)):ac F n g ρ=some (.ok d):=by
 unfold ac; rw [h]
 show (if _ then _ else _)=_
 rw [if_pos hl,hF]
theorem ie (F:List Dv→Option (Rs Dv)) {f:FnE} {ρ:Ev} {a d:Dv} (h:f ρ=some (.ok a)) (hF:F [a]=some (.ok d)):ac F 1 (aa f ag) ρ=some (.ok d):=dv (ah h av) rfl hF
theorem cV (F:List Dv→Option (Rs Dv)) {f g:FnE} {ρ:Ev} {a b d:Dv} (h:f ρ=some (.ok a)) (h':g ρ=some (.ok b)) (hF:F [a,b]=some (.ok d)):ac F 2 (aa f (aa g ag)) ρ=some (.ok d):=dv (ah h (ah h' av)) rfl hF
theorem fw {g:FnA} {ρ:Ev} {ds:List Dv} (h:g ρ=some (.ok ds)) (hl:ds.length≤100000):dD g ρ=some (.ok (.tup ds)):=by
 unfold dD; rw [h]
 show (if _ then _ else _)=_
 rw [if_pos hl]
theorem z9 {f g:FnE} {ρ:Ev} (h:f ρ=some (.ok (.bl true))):gC f g ρ=g ρ:=by unfold gC; rw [h]; rfl
theorem bS {g:List Dv→Option (Rs Dv)} {a:FnA} {ρ:Ev} {ds:List Dv} (h:a ρ=some (.ok ds)):fB1 g a ρ=g ds:=by unfold fB1; rw [h]; rfl
theorem C8 {g:Dv→Option (Rs Dv)} {f:FnE} {ρ:Ev} {x:Dv} (h:f ρ=some (.ok x)):f1 g f ρ=g x:=by unfold f1; rw [h]; rfl
theorem iK {g:FnA} {ρ:Ev} {ds:List Dv} (h:g ρ=some (.ok ds)) (hl:ds.length≤100000):cO g ρ=some (.ok (.lst ds)):=by
 unfold cO; rw [h]
 show (if _ then _ else _)=_
 rw [if_pos hl]
theorem cm {n:Nat} {B:FnS} {ds:List Dv} {d:Dv} (h:B (ds.map some ++ F9 (n - ds.length) none)=some (.rt d)):aS n B ds=some (.ok d):=by
 unfold aS; rw [h]
section
variable {prog:Program} {w:uk} {A:q_} {E:Value→Shared→Prop}
end
section
variable {X:Cx} {pos p1:Pos}
end
structure Aft (X:Cx) (e:Addr) (Ts:List Addr) (h h':Heap):Prop where
 keep:∀ b o,h.get? b=some o→b≠e→b ∉ Ts→b ∉ frs X.stack→h'.get? b=some o
 slot:∀ b o,h.get? b=some o→b∈frs X.stack→∃ sl,h'.get? b=some { o with slots:=sl }
section
variable {X:Cx} {pins:List (Addr×Obj)} {σ:L2.St} {H:Hp} {s:Shared} {e:Addr} {Ts:List Addr} {h':Heap}
theorem Aft.any {h:Heap} (A:Aft X e Ts h h') {b:Addr} {o:Obj} (q:h.get? b=some o) (n1:b≠e) (n2:b ∉ Ts):∃ sl,h'.get? b=some { o with slots:=sl }:=by
 by_cases hb:b∈frs X.stack
 · exact A.slot b o q hb
 · exact ⟨o.slots,A.keep b o q n1 n2 hb⟩
end
section
variable {X:Cx} {pins:List (Addr×Obj)} {σ:L2.St} {H:Hp} {s:Shared} {e:Addr} {cls:Value}
theorem Fly.imp {N N':Addr→Prop} {h:Heap} (F:Fly N H e cls h) (k:∀ a,N a→N' a):Fly N' H e cls h:=by
 obtain ⟨h1,h2,oe,vs,a0,q1,q2,q3,q4,q5⟩:=F
 refine ⟨h1,k _ h2,oe,vs,a0,q1,q2,q3,q4,?_⟩
 rcases q5 with q5 | ⟨T,oT,ts,r1,r2,r3,r4,r5⟩
 · exact .inl q5
 · exact .inr ⟨T,oT,ts,r1,r2,r3,k _ r4,r5⟩
end
def CXE (P:Program) (w:uk):CXT:=fun outer H s E ev s'=>∃ e cls H',ev=.ref e∧s'.os=s.os∧Ju s'.gens∧Un (frs outer) [] H H' s.heap s'.heap∧HOk P w H' s'.heap∧Fly (fun a=>s.heap.get? a=none) H' e cls s'.heap∧E cls none H'
def spE (K:ck) (F:List Dv→Option (Rs Dv)) (n:Nat):Sp:=fun vs H Q E=>∃ ds,Reps K H ds vs∧ds.length=n∧match F ds with
 | some (.ok d)=>∀ v H',Same H H'→Rep K H' d v→Q v H'
 | some (.exc c)=>∀ C H',HB K t_ (xnm c)=some (some (.ref C))→Same H H'→E (.ref C) none H'
 | none=>False
def dF (F:List Dv→Option (Rs Dv)) (n:Nat) (g:FnA):FnE:=fun ρ=>bnd (g ρ) fun ds=>if ds.length=n then F ds else none
def EV (P:Program) (w:uk) (K:ck) (mg:Str→Option Value) (base:Heap) (x:Str) (k:Nat) (ps:List Str) (F:List Dv→Option (Rs Dv)):Prop :=
 ∃ f fd,FnOk P w K mg base (CXE P w) k f fd ps (spE K F ps.length)∧mg x=some (.ref f)∧GD K (.ref f)=true∧Binds K fd ps []
section
variable {X:Cx} {k n:Nat} {ps:List Str} {x:Str} {p pos:Pos} {e:Expr} {es:List Expr} {F:List Dv→Option (Rs Dv)} {g:FnA}
end
theorem j9 {P:Program} {w:uk} {H:Hp} {h:Heap} (ok:HOk P w H h) {a:Addr} {u:HO} (q:H a=some u):∃ o,h.get? a=some o:=by
 have hk:=ok a u q
 clear q
 induction u with
 | lst xs=>obtain ⟨_,_,_,_,z⟩:=hk; exact ⟨_,z⟩
 | tup xs=>obtain ⟨_,_,_,o,z,_⟩:=hk; exact ⟨_,z⟩
 | dK kvs=>obtain ⟨_,_,_,_,o,_,_,z,_⟩:=hk; exact ⟨_,z⟩
 | dT kvs=>obtain ⟨_,_,_,_,o,_,_,z,_⟩:=hk; exact ⟨_,z⟩
 | set S n=>obtain ⟨o,_,_,_,z,_⟩:=hk; exact ⟨_,z⟩
 | ins C dx fs=>obtain ⟨_,_,_,z,_⟩:=hk; exact ⟨_,z⟩
 | own y=>obtain ⟨_,z⟩:=hk; exact ⟨_,z⟩
 | xd fs=>obtain ⟨_,⟨_,_,_,z,_⟩,_⟩:=hk; exact ⟨_,z⟩
 | rng lo hi=>obtain ⟨_,_,_,z⟩:=hk; exact ⟨_,z⟩
 | frz ob u ih=>obtain ⟨z,_⟩:=hk; exact ⟨_,z⟩
 | tbl ps=>obtain ⟨_,z,_⟩:=hk; exact ⟨_,z⟩
 | met f y=>exact ⟨_,(show h.get? a=some _ from hk)⟩
 | ext φ=>obtain ⟨_,⟨_,z⟩,_⟩:=hk; exact ⟨_,z⟩
theorem Aa {P:Program} {w:uk} {H:Hp} {h:Heap} (ok:HOk P w H h) {a:Addr} (n:h.get? a=none):H a=none:=by
 cases q:H a with
 | none=>rfl
 | some u =>
  obtain ⟨o,z⟩:=j9 ok q
  rw [n] at z
  cases z
abbrev bmV:List Value:=[.type "ValueError",.type "Exception",.type "BaseException",.type "object"]
structure XC (K:ck) (c:Nat) (C:Addr):Prop where
 nm:HB K t_ (xnm c)=some (some (.ref C))
 ex:PySem.W.excIn K C bmV "ValueError.__new__"=true
def dG (c:Nat) (f:FnE):FnS:=fun ρ=>cx (f ρ) fun _=>some (.exc c)
section
variable {X:Cx} {a:Expr} {fa:FnE} {np cpos pos:Pos} {x:Str} {C:Addr}
end
end FD
namespace FD
open PySem PySem.Spec PyProof.Rows L2 PySem.W Builtin.Getset_descriptor
section
variable {prog:Program} {w:uk} {A:q_} {E:Value→Shared→Prop} {s:Shared} {K:ck} {x C:Addr} {ox:Obj}
structure XI (K:ck) (C:Addr):Prop where
 ga:findIn K (.ref C) "__getattribute__"=some (some (.builtin "BaseException.__getattribute__"))
 gt:findIn K (.ref C) "__getattr__"=some none
 cl:findIn K (.ref C) "__class__"=some (some (.builtin "object.__class__"))
 sp:specialIn K (.builtin "object.__class__") "__get__"=some (some (.builtin "getset_descriptor.__get__"))
 tk:takesIn K (.builtin "object.__class__")=some true
 ob:mroIn K C (.type "object")=some true
 be:mroIn K C (.type "BaseException")=some true
end
def XT (K:ck) (tb:Nat→Option Bool) (T:Value):Prop:=∀ c b,tb c=some b→∀ C,nsIn K t_ (xnm c)=some (some (.ref C))→XI K C∧kitOne K (.ref C) T=some b
section
variable {X:Cx} {p pos pT:Pos} {a:Expr} {fa:FnE} {T:Str}
end
end FD
namespace FD
open PySem PySem.Spec PyProof.Rows L2 PySem.W
section
variable {X:Cx} {pins:List (Addr×Obj)} {σ:L2.St} {H:Hp} {s:Shared}
end
structure RoomM (k:Nat) (A:q_):Prop where
 dp:A.depth + 3 * k + 5 < recursionLimit
 un:A.units + 16 * k + 200 < cLine
theorem RoomM.of {k:Nat} {A:q_} (r:Room k A):RoomM k A:=⟨r.dp,r.un⟩
theorem RoomM.mono {j k:Nat} {A:q_} (r:RoomM k A) (h:j≤k):RoomM j A:=⟨by have:=r.dp; omega,by have:=r.un; omega⟩
theorem RoomM.deeper {k:Nat} {A:q_} (r:RoomM (k + 1) A) (env:Env):RoomM k (A.deeper env) :=
 ⟨by have:=r.dp; show A.depth + 1 + 3 * k + 5 < _; omega,by have:=r.un; show A.units + 3 + 16 * k + 200 < _; omega⟩
theorem RoomM.units {k:Nat} {A:q_} (r:RoomM k A):A.units + 64 < cLine:=by have:=r.un; omega
structure FnM (P:Program) (w:uk) (K:ck) (mg:Str→Option Value) (base:Heap) (k:Nat) (f:Addr) (fd:Gp) (ps:List Str) (F:List Dv→Option (Rs Dv)):Prop where
 run:∀ (A:q_) (outer:List Env) (s:Shared) (H:Hp) (args:Args) (us:List Value) (vs:List V) (ds:List Dv) (d:Dv) (Q:VK),RoomM k A→Env0 P w K mg base A outer s H→Ke s fd args (ps.zip us)→Vals vs us →
  Reps K H ds vs→ds.length=ps.length→F ds=some (.ok d)→(∀ v H',Same H H'→Rep K H' d v→Q v H')→HZ (o_ P w) A (.call (.ref f) args) (CR CX0 outer P w H s Q E0) s
def EW (P:Program) (w:uk) (K:ck) (mg:Str→Option Value) (base:Heap) (x:Str) (k:Nat) (ps:List Str) (F:List Dv→Option (Rs Dv)):Prop :=
 ∃ f fd,FnM P w K mg base k f fd ps F∧mg x=some (.ref f)∧GD K (.ref f)=true∧Binds K fd ps []
section
variable {X:Cx} {x:Str} {p pos:Pos} {e:Expr} {es:List Expr} {g:FnA} {n:Nat}
end
section
variable {X:Cx} {pl ps:List (Addr×Obj)} {σ:L2.St} {H:Hp} {s:Shared} {E:Value→Shared→Prop} {e:Addr}
end
section
variable {X:Cx} {ex hx:Expr} {f g:FnE} {J n:Str} {CJ:Addr} {np rp rp2 hpos pos:Pos}
end
end FD
namespace FD
open PySem PySem.Spec PyProof.Rows L2
def BU:List Dv→List Dv→Option (Rs Dv)
 | xs,[x]=>if cU x && xs.all cU && decide (xs.length≤100000) then some (.ok (.int (xs.countP (fun y=>eqF y x):Nat))) else none
 | _,_=>none
def Ab:V→List V→Hp→VK→Prop:=fun x xs H Q=>∃ a vs y,x=.ref a∧xs=[y]∧H a=some (.lst vs)∧dL y=true∧vs.all dL=true∧vs.length≤100000∧Q (.int (vs.countP (fun v=>eqV v y):Nat)) H
section
variable {X:Cx} {apos cpos:Pos} {e o:Expr} {es:List Expr} {ga:FnA} {fo:FnE}
theorem jC {y:V}:∀ {vs:List V} {its:List Value},Vals vs its→vs.all dL=true→its.countP (eqU y)=vs.countP fun v=>eqV v y
 | _,_,.nil,_=>rfl
 | _,_,.cons (a:=v) (b:=u) r t,f=>by
  rw [GK,k_] at f
  rw [JM,JM,jC t f.2,og r f.1]
theorem qZ:MtR X "list.count" Ab:=by
 intro pins s σ H x xs v us Q I rx rs h
 obtain ⟨a,vs,y,rfl,rfl,h1,fy,fv,hz,q⟩:=h
 cases rx
 obtain ⟨u,rfl,ru⟩:=dJ rs
 obtain ⟨z,its,n,rv,hl,e⟩:=I.lstM h1
 refine IW K0 ⟨_,e,rfl⟩ PySem.F.entry_list_count (PySem.F.args_list_count_2 _ _) (SeqAt.list_countAt a its.toArray n none #[] u (eqU y)) ⟨e,fun t ht=>dt ru fy rv fv t (by simpa using ht),⟨.int (vs.countP (fun v=>eqV v y):Nat),H,I.tok _,⟨s.toks,?_⟩,q⟩⟩
 have:=jC (y:=y) rv fv
 rw [J9,this]
theorem vF {K:ck} {H:Hp} {x:Dv} {u:V} (q:Rep K H x u) (hx:cU x=true):∀ {xs:List Dv} {vs:List V},Reps K H xs vs→xs.all cU=true→vs.countP (fun v=>eqV v u)=xs.countP fun y=>eqF y x
 | [],vs,r,_=>by cases (show vs=[] from r); rfl
 | y :: ys,vs,r,f=>by
  obtain ⟨v,ws,rfl,r1,r2⟩:∃ v us,vs=v :: us∧Rep K H y v∧Reps K H ys us:=r
  rw [GK,k_] at f
  rw [JM,JM,vF q hx r2 f.2,qQ r1 q f.1 hx]
theorem ut (ho:FE X o fo) (ha:FA X (e :: es) ga)
 (hbase:Iq o "count" X.env (eval o X.env)=eval o X.env:=by kernel_rfl)
 (hfew:((F0 cpos (e_ (e :: es) X.env)).all (fun x=>!x.1) && (Ii cpos (GY [] X.env)).all (fun x=>x.1.isSome)
   && decide ((e :: es).length + ([]:List Iv).length + (if ([]:List Iv).isEmpty then 0 else 1) < 30))=true:=by kernel_rfl)
 (hline:(apos.endLine == cpos.line)=true:=by kernel_rfl) (hs:e_ (e :: es) X.env=(false,eval e X.env) :: e_ es X.env:=by kernel_rfl) (hplain:(F0 cpos (e_ es X.env)).any (·.1)=false:=by kernel_rfl) :
 FE X (.Call (.Attribute o "count" apos) (e :: es) [] cpos) (fML BU fo ga) :=
 cL (tY Je K0 PySem.F.type_list_count qZ ho.h ha.h hbase hfew hline hs hplain) fun σ H Q ρ E o=>⟨ρ,E,Out.bind o fun d v H1 e1 rd o1=>by
  cases d <;> try exact (show False from o1).elim
  rename_i ds
  obtain ⟨a,vs,rfl,h1,h2⟩:=rd.lstE
  refine ⟨.inl ⟨rfl,vs,SqL.of h1⟩,ρ,E.mono e1,OutA.bind o1 fun es ws H2 e2 rs o2=>?_⟩
  unfold BU at o2
  split at o2
  · rename_i x
    split at o2
    · rename_i hc
      rw [k_,k_] at hc
      obtain ⟨w,rfl,rw'⟩:=cM rs
      have h2':=Reps.mono e2 _ _ h2
      refine ⟨a,vs,w,rfl,rfl,e2 _ _ h1,j5 rw' hc.1.1,iq h2' hc.1.2,by rw [h2.length]; exact of_decide_eq_true hc.2,?_⟩
      rw [vF rw' hc.1.1 h2' hc.1.2]
      exact o2 _ H2 (.refl H2) rfl
    · exact o2.elim
  · exact o2.elim⟩
end
section
variable {X:Cx} {a b c:Expr} {fa fb fc:FnE} {pos:Pos}
end
section
variable {X:Cx}
end
end FD
namespace FD
open PySem PySem.Spec PyProof.Rows L2 PySem.W
structure XAll (K:ck) (m:Nat) (cls:Nat→Addr) (CJ:Addr):Prop where
 at_:∀ c,c < m→nsIn K t_ (xnm c)=some (some (.ref (cls c)))∧excIn K (cls c) bmV "ValueError.__new__"=true∧XI K (cls c)∧mroIn K (cls c) (.ref CJ)=some true∧kitOne K (.ref (cls c)) (.type "ValueError")=some true∧∀ d,d < m→kitOne K (.ref (cls c)) (.ref (cls d))=some (c == d)
 exJ:excIn K CJ bmV "ValueError.__new__"=true
section
variable {K:ck} {m:Nat} {cls:Nat→Addr} {CJ:Addr} (x:XAll K m cls CJ)
include x
theorem XAll.xc (c:Nat) (h:c < m):XC K c (cls c):=⟨(x.at_ c h).1,(x.at_ c h).2.1⟩
theorem XAll.same {c:Nat} {C:Addr} (h:c < m) (q:nsIn K t_ (xnm c)=some (some (.ref C))):C=cls c:=by
 have z:=(x.at_ c h).1
 rw [q] at z
 cases z
 rfl
theorem XAll.xk:∀ c C,c < m→nsIn K t_ (xnm c)=some (some (.ref C))→excIn K C bmV "ValueError.__new__"=true∧mroIn K C (.ref CJ)=some true:=fun c C h q=>by
 rw [x.same h q]
 exact ⟨(x.at_ c h).2.1,(x.at_ c h).2.2.2.1⟩
theorem XAll.xtO (d:Nat) (hd:d < m):XT K (fun c=>if c < m then some (c == d) else none) (.ref (cls d)):=fun c b hb C q=>by
 dsimp only at hb
 split at hb
 · rename_i h
   cases hb
   rw [x.same h q]
   exact ⟨(x.at_ c h).2.2.1,(x.at_ c h).2.2.2.2.2 d hd⟩
 · cases hb
theorem XAll.xtV:XT K (fun c=>if c < m then some true else none) (.type "ValueError"):=fun c b hb C q=>by
 dsimp only at hb
 split at hb
 · rename_i h
   cases hb
   rw [x.same h q]
   exact ⟨(x.at_ c h).2.2.1,(x.at_ c h).2.2.2.2.1⟩
 · cases hb
end
end FD
namespace FD
open PySem
end FD
namespace FD
open PySem PySem.Spec PyProof.Rows L2
section
variable {X:Cx}
end
section
variable {X:Cx}
def cq (x y:Dv):Option (Rs Dv):=match x,y with
 | .tup a,.tup b=>if a.length + b.length≤100000 then some (.ok (.tup (a ++ b))) else none
 | x,y=>dM x y
theorem uu {prog:Program} {w:uk} {A:q_} {E:Value→Shared→Prop} {s:Shared} {t b:Addr} {ws:List Value} {Q:Value→Shared→Prop} (ht:Ny s.heap t #[]) (hb:Ny s.heap b ws.toArray) (h0:Q (.ref b) s) :
 l_ (o_ prog w) A (Hz .Add (.ref t) (.ref b)) Q E s:=by
 obtain ⟨⟨cls,dd,data,sl⟩,ho,hc,n,hd⟩:=id ht
 obtain ⟨⟨cls2,dd2,data2,sl2⟩,ho2,hc2,n2,hd2⟩:=id hb
 simp only at hc hd hc2 hd2
 subst hc hd hc2 hd2
 exact Mw ⟨_,ho,rfl⟩ ⟨_,ho2,rfl⟩ KR Mb Jr Jf (IN _ _)
  (tuple_addW0 t b #[] ws.toArray n n2 dd dd2 sl sl2 (by simp)) ⟨ho,ho2,h0⟩
def vG (K:ck):R2:=fun x y H Q=>∃ a b ys,x=.ref a∧y=.ref b∧SqT K H a []∧SqT K H b ys∧Q (.ref b) H
theorem uv:OpR X (Hz .Add) (vG X.K):=by
 intro pins s σ H x y v u Q I rx ry h
 obtain ⟨a,b,ys,rfl,rfl,ha,hb,q⟩:=h
 cases rx
 cases ry
 obtain ⟨its,r1,p1,_⟩:=I.tuple ha
 obtain ⟨its2,r2,p2,_⟩:=I.tuple hb
 cases r1
 exact uu p1 p2 ⟨.ref b,H,I,rfl,q⟩
def Ac (X:Cx):R2:=fun x y H Q=>wD x y H Q∨(zd X.K x y H Q∨vG X.K x y H Q)
theorem Ad:OpR X (Hz .Add) (Ac X):=o_add.or (op_catT.or uv)
theorem q8 {x y:Dv} (h:∀ a b,¬ (x=.tup a∧y=.tup b)):cq x y=dM x y:=by
 unfold cq
 split
 · rename_i a b
   exact absurd ⟨rfl,rfl⟩ (h a b)
 · rfl
theorem Ae:GOp X (Ac X) cq:=by
 intro dx dy x y H Q rx ry o
 by_cases hc:∃ a b,dx=.tup a∧dy=.tup b
 · obtain ⟨a,b,rfl,rfl⟩:=hc
   have o':Out X H (if a.length + b.length≤100000 then some (.ok (.tup (a ++ b))) else none) Q:=o
   split at o'
   · rename_i hl
     obtain ⟨p,xs,rfl,h1,q1⟩:=rx.tupE
     obtain ⟨p2,ys,rfl,h2,q2⟩:=ry.tupE
     cases xs with
     | nil =>
      have ha:a=[]:=by
       have:=q1.length
       exact GS.mp this.symm
      subst ha
      exact .inr (.inr ⟨p,p2,ys,rfl,rfl,SqT.of h1,SqT.of h2,o' _ H (.refl H) ⟨p2,ys,rfl,h2,by simpa using q2⟩⟩)
     | cons x0 xs =>
      refine .inr (.inl ⟨p,p2,x0 :: xs,ys,rfl,rfl,SqT.of h1,SqT.of h2,by simp,by rw [q1.length,q2.length]; exact bE hl,fun hy=>?_,fun hy l hl=>o' _ _ (ar hl _) ⟨l,_,rfl,am,Reps.mono (ar hl _) _ _ (q1.append q2)⟩⟩)
      subst hy
      have hb:b=[]:=GS.mp q2.length.symm
      subst hb
      exact o' _ H (.refl H) ⟨p,_,rfl,h1,by simpa using q1⟩
   · exact o'.elim
 · rw [q8 (fun a b h=>hc ⟨a,b,h⟩)] at o
   exact .inl (zL dx dy x y H Q rx ry o)
theorem fz {prog:Program} {w:uk} {A:q_} {E:Value→Shared→Prop} {s:Shared} {t sl:Addr} {items:Array Value} {vl vu:Value} {lo hi:Option Int} {Q:Value→Shared→Prop} (ht:Ny s.heap t items) (hs:s.heap.IsSliceOf sl vl vu .none) (pl:Le vl lo) (pu:Le vu hi)
 (hw:HT.sIx items.size 0 lo=0∧HT.sIx items.size items.size hi=items.size) (h:Q (.ref t) s):l_ (o_ prog w) A (La (.ref t) (.ref sl)) Q E s:=by
 obtain ⟨os,hos,hcs,hds⟩:=id hs
 have hTs:s.TypeIs (.ref sl) "slice":=⟨os,hos,hcs⟩
 unfold La
 try with_reducible refine Gb ?_
 first | refine b_ (c_ ?_) | skip
 refine b_ (wpAny_sequenceKey ht.typeIs (by decide) ?_)
 refine b_ (GN (name:=a_ "__getitem__") ht.typeIs Gf
  (Gx Gf ht.typeIs entry_tuple_getitem ?_ (args_tuple_getitem _ _)))
 show l_ _ _ (Ks (.ref t) >>= _) _ _ s
 refine b_ (tupleItemsOf_ ht ?_)
 refine b_ (Hy hTs ?_)
 rw [if_pos (by decide)]
 refine b_ (HT.sliceApplied_gen hs pl pu ?_)
 have hyes:(((HT.sIx items.size 0 lo:Nat):Int) == 0 && (1:Int) == 1 && (HT.sIx items.size items.size hi - HT.sIx items.size 0 lo) == items.size)=true:=by
  rw [hw.1,hw.2]
  simp
 show l_ _ _ (if (((HT.sIx items.size 0 lo:Nat):Int) == 0 && (1:Int) == 1 && (HT.sIx items.size items.size hi - HT.sIx items.size 0 lo) == items.size)=true then _ else _) _ _ s
 rw [if_pos hyes]
 refine b_ (b_ (Hy ht.typeIs (c_ ?_)))
 rw [if_pos (by decide)]
 exact b_ (IU (c_ ⟨_,rfl,c_ h⟩))
def EX (K:ck):V→Option Int→Option Int→Hp→VK→Prop:=fun x lo hi H Q=>∃ a xs,x=.ref a∧SqT K H a xs ∧
 (HT.sIx xs.length 0 lo=0∧HT.sIx xs.length xs.length hi=xs.length)∧Q (.ref a) H
theorem uw:SlR X (EX X.K):=by
 intro pins s σ H x v vl vu lo hi sl Q I rx hs pl pu h
 obtain ⟨a,xs,rfl,hx,hw,q⟩:=h
 cases rx
 obtain ⟨its,r,ht,hz⟩:=I.tuple hx
 have hlen:its.toArray.size=xs.length:=by rw [v_]; exact r.length.symm
 refine ⟨"tuple",_,Gf.lookup,ht.typeIs,?_⟩
 exact fz ht hs pl pu (by rw [hlen]; exact hw) ⟨.ref a,H,I,rfl,q⟩
def Em (x:Dv) (lo hi:Option Int):Option (Rs Dv):=match x with
 | .tup xs=>some (.ok (.tup (pE xs lo hi)))
 | x=>BP x lo hi
def q9 (fa:FnE) (fl fh:FnO):FnE:=fun ρ=>bnd (fa ρ) fun x=>bnd (fl ρ) fun lo=>bnd (fh ρ) fun hi=>Em x lo hi
theorem pG {α:Type} {xs:List α} {lo hi:Option Int} (h:HT.sIx xs.length 0 lo=0∧HT.sIx xs.length xs.length hi=xs.length):pE xs lo hi=xs:=by
 unfold pE
 rw [h.1,h.2]
 simp
theorem wU {a:Expr} {lo hi:Option Expr} {fa:FnE} {fl fh:FnO} {p2 pos:Pos} (ha:FE X a fa) (hl:FO X lo fl) (hh:FO X hi fh):FE X (.Subscript a (.Slice lo hi none p2) pos) (q9 fa fl fh) :=
 cL (oa ((sl_str.or qD).or (sl_tup.or uw)) ha.h hl.h hh.h) fun σ H Q ρ E o=>⟨ρ,E,Out.bind o fun d v H1 e1 r1 o1=>⟨ρ,E.mono e1,fU o1 fun l H2 e2 o2=>⟨ρ,(E.mono e1).mono e2,fU o2 fun u H3 e3 o3=>by
  have r3:=Rep.mono e3 d v (Rep.mono e2 d v r1)
  cases d <;> try exact (show False from o3).elim
  · rename_i z
    unfold Em BP at o3
    dsimp only at o3
    split at o3
    · rename_i hz
      exact .inl (.inl ⟨z,r3,bE hz,o3 _ H3 (.refl H3) rfl⟩)
    · exact o3.elim
  · rename_i ds
    obtain ⟨a',xs,rfl,h1,h2⟩:=r3.tupE
    have hlen:=h2.length
    by_cases hw:HT.sIx xs.length 0 l=0∧HT.sIx xs.length xs.length u=xs.length
    · refine .inr (.inr ⟨a',xs,rfl,SqT.of h1,hw,o3 _ H3 (.refl H3) ⟨a',xs,rfl,h1,?_⟩⟩)
      rw [pG (by rw [← hlen]; exact hw)]
      exact h2
    · refine .inr (.inl ⟨a',xs,rfl,SqT.of h1,hw,fun p hp=>o3 _ _ (ar hp _) ⟨p,_,rfl,am,Reps.mono (ar hp _) _ _ ?_⟩⟩)
      unfold tX pE
      rw [h2.length]
      exact (h2.drop _).take _
  · rename_i ds
    obtain ⟨a',xs,rfl,h1,h2⟩:=r3.lstE
    refine .inl (.inr ⟨a',xs,rfl,SqL.of h1,fun p hp=>o3 _ _ (ar hp _) ⟨p,_,rfl,am,Reps.mono (ar hp _) _ _ ?_⟩⟩)
    unfold tX pE
    rw [h2.length]
    exact (h2.drop _).take _⟩⟩⟩
theorem Reps.reverse {K:ck} {H:Hp}:∀ {ds:List Dv} {vs:List V},Reps K H ds vs→Reps K H ds.reverse vs.reverse
 | [],vs,r=>by cases (show vs=[] from r); exact r
 | d :: ds,vs,r=>by
  obtain ⟨v,us,rfl,r1,r2⟩:∃ v us,vs=v :: us∧Rep K H d v∧Reps K H ds us:=r
  rw [HF,HF]
  exact (Reps.reverse r2).append ⟨v,[],rfl,r1,rfl⟩
theorem Vals.reverse:∀ {xs:List V} {us:List Value},Vals xs us→Vals xs.reverse us.reverse
 | _,_,.nil=>.nil
 | x :: xs,u :: us,.cons r t=>by
  rw [HF,HF]
  exact (Vals.reverse t).append (.cons r .nil)
def inP (x:Dv) (ys:List Dv):Option Bool:=if okP x && decide ((bU x).depth≤63) && GJ (toPys ys) then some ((toPys ys).any fun y=>Gc y (bU x)) else none
def Ag (x y:Dv):Option Bool:=match wF x y with
 | some b=>some b
 | none=>match y with
  | .lst ys=>inP x ys
  | .tup ys=>inP x ys
  | _=>none
def inX (x y:Dv):Option (Rs Dv):=match Ag x y with
 | some b=>some (.ok (.bl b))
 | none=>none
def dU (x y:Dv):Option (Rs Dv):=match Ag x y with
 | some b=>some (.ok (.bl (!b)))
 | none=>none
def BV (X:Cx) (neg:Bool):R2:=fun x y H Q=>∃ dx ys b,Rep X.K H dx x∧(Rep X.K H (.lst ys) y∨Rep X.K H (.tup ys) y)∧inP dx ys=some b∧Q (.bl (if neg then !b else b)) H
theorem Ah (hu:X.A.units + 64 < cLine):OpR X (FJ .In) (BV X false):=by
 intro pins s σ H x y v u Q I rx ry h
 obtain ⟨dx,ys,b,qx,qy,hb,q⟩:=h
 unfold inP at hb
 split at hb
 · rename_i hc
   cases hb
   obtain ⟨⟨c1,c2⟩,c3⟩:(okP dx=true∧(bU dx).depth≤63)∧GJ (toPys ys)=true:=by simpa using hc
   obtain ⟨as,ra⟩:=Rep.reads I dx x v qx rx (Ga.mp c1).1
   have hd:X.A.units + 1 + min (Hw (toPys ys)) (bU dx).depth < cLine:=by
    have:=K4 (Hw (toPys ys)) (bU dx).depth
    omega
   rcases qy with qy | qy
   · obtain ⟨bs,rb⟩:=Rep.reads I (.lst ys) y u qy ry (by simpa [bU,FR] using c3)
     exact SeqAt.in_list_reads rb ra c3 (Ga.mp c1).1 hd ⟨.bl _,H,I,rfl,q⟩
   · obtain ⟨bs,rb⟩:=Rep.reads I (.tup ys) y u qy ry (by simpa [bU,FR] using c3)
     exact SeqAt.in_tuple_reads rb ra c3 (Ga.mp c1).1 hd ⟨.bl _,H,I,rfl,q⟩
 · cases hb
theorem rf (hu:X.A.units + 64 < cLine):OpR X (FJ .NotIn) (BV X true):=by
 intro pins s σ H x y v u Q I rx ry h
 obtain ⟨dx,ys,b,qx,qy,hb,q⟩:=h
 unfold inP at hb
 split at hb
 · rename_i hc
   cases hb
   obtain ⟨⟨c1,c2⟩,c3⟩:(okP dx=true∧(bU dx).depth≤63)∧GJ (toPys ys)=true:=by simpa using hc
   obtain ⟨as,ra⟩:=Rep.reads I dx x v qx rx (Ga.mp c1).1
   have hd:X.A.units + 1 + min (Hw (toPys ys)) (bU dx).depth < cLine:=by
    have:=K4 (Hw (toPys ys)) (bU dx).depth
    omega
   rcases qy with qy | qy
   · obtain ⟨bs,rb⟩:=Rep.reads I (.lst ys) y u qy ry (by simpa [bU,FR] using c3)
     exact SeqAt.notIn_list_reads rb ra c3 (Ga.mp c1).1 hd ⟨.bl _,H,I,rfl,q⟩
   · obtain ⟨bs,rb⟩:=Rep.reads I (.tup ys) y u qy ry (by simpa [bU,FR] using c3)
     exact SeqAt.notIn_tuple_reads rb ra c3 (Ga.mp c1).1 hd ⟨.bl _,H,I,rfl,q⟩
 · cases hb
def Eo (X:Cx):R2:=fun x y H Q=>CQ X.K x y H Q∨BV X false x y H Q
def rg (X:Cx):R2:=fun x y H Q=>mL X.K x y H Q∨BV X true x y H Q
theorem C9 (hu:X.A.units + 64 < cLine):OpR X (FJ .In) (Eo X):=o_in.or (Ah hu)
theorem ux (hu:X.A.units + 64 < cLine):OpR X (FJ .NotIn) (rg X):=o_notIn.or (rf hu)
theorem Da:GOp X (Eo X) inX:=by
 intro dx dy x y H Q rx ry o
 unfold inX Ag at o
 match h0:wF dx dy with
 | some b =>
  rw [h0] at o
  exact .inl (CS dx dy x y H Q rx ry (by unfold inD; rw [h0]; exact o))
 | none =>
  rw [h0] at o
  cases dy <;> try exact (show False from o).elim
  · rename_i ys
    match hp:inP dx ys with
    | none=>simp only [hp] at o; exact (show False from o).elim
    | some b=>simp only [hp] at o; exact .inr ⟨dx,ys,b,rx,.inr ry,hp,o _ H (.refl H) rfl⟩
  · rename_i ys
    match hp:inP dx ys with
    | none=>simp only [hp] at o; exact (show False from o).elim
    | some b=>simp only [hp] at o; exact .inr ⟨dx,ys,b,rx,.inl ry,hp,o _ H (.refl H) rfl⟩
theorem uy:GOp X (rg X) dU:=by
 intro dx dy x y H Q rx ry o
 unfold dU Ag at o
 match h0:wF dx dy with
 | some b =>
  rw [h0] at o
  exact .inl (qR dx dy x y H Q rx ry (by unfold k6; rw [h0]; exact o))
 | none =>
  rw [h0] at o
  cases dy <;> try exact (show False from o).elim
  · rename_i ys
    match hp:inP dx ys with
    | none=>simp only [hp] at o; exact (show False from o).elim
    | some b=>simp only [hp] at o; exact .inr ⟨dx,ys,b,rx,.inr ry,hp,o _ H (.refl H) rfl⟩
  · rename_i ys
    match hp:inP dx ys with
    | none=>simp only [hp] at o; exact (show False from o).elim
    | some b=>simp only [hp] at o; exact .inr ⟨dx,ys,b,rx,.inl ry,hp,o _ H (.refl H) rfl⟩
end
abbrev wV (its:List Value) (n:Nat):Obj:={ cls:=.type "list",data:=.seq its.toArray n }
section
variable {X:Cx} {pins:List (Addr×Obj)} {σ:L2.St} {H:Hp} {s:Shared} {a:Addr} {xs:List V}
theorem Inv.untrack (I:Inv X pins σ (upd H a (.lst xs)) s) (ha:H a=none) (hex:X.ex=[]):∃ its n,Vals xs its∧xs.length≤sizeLine∧(∀ o,X.s₀.heap.get? a=some o→X.H₀ a≠none)∧(∀ p∈X.pn ++ pins,p.1≠a)∧Inv X (pins ++ [(a,wV its n)]) σ H s:=by
 obtain ⟨z,its,n,rv,hl,e⟩:=I.lstM (l:=a) (xs:=xs) am
 have hb:∀ b u,H b=some u→b≠a:=fun b u q=>ao q ha
 have low:∀ b,upd H a (.lst xs) b=none→H b=none:=fun b q=>by
  by_cases hba:b=a
  · rw [hba]; exact ha
  · rw [au hba] at q; exact q
 have dn:∀ b u,upd H a (.lst xs) b=some u→(∀ ys,u≠.lst ys)→H b=some u:=fun b u q hu=>by
  by_cases hba:b=a
  · rw [hba,am] at q
    exact absurd (FU q).symm (hu xs)
  · rw [au hba] at q; exact q
 have nfs:a ∉ X.fs:=fun hm=>by
  obtain ⟨_,o,ho,_⟩:=I.ok.funs.mem hm
  have:=I.base.free a o ho (I.ok.frf a hm) (by rw [hex]; simp)
  rw [am] at this
  cases this
 have npin:∀ p∈X.pn ++ pins,p.1≠a:=fun p hp w=>by
  have:=(I.pin p hp).2.1
  rw [w,am] at this
  cases this
 refine ⟨its,n,rv,z,fun o ho h0=>?_,npin,⟨I.ok,I.os,I.bare,⟨I.base.keep,I.base.slot,fun b o q n hx=>low b (I.base.free b o q n hx),I.base.there,fun b ys q=>dn b _ (I.base.tups b ys q) (fun _ w=>by cases w),fun b o u q=>dn b _ (I.base.frzs b o u q) (fun _ w=>by cases w),fun b ps q=>?_⟩,I.loc,I.cell,low _ I.free,fun x c q=>low _ (I.freeC x c q),fun p hp=>?_,fun b u q=>?_,I.len⟩⟩
 · have:=I.base.free a o ho h0 (by rw [hex]; simp)
   rw [am] at this
   cases this
 · obtain ⟨more,q'⟩:=I.base.tbls b ps q
   exact ⟨more,dn b _ q' (fun _ w=>by cases w)⟩
 · rcases Gj.mp hp with h1 | h1
   · obtain ⟨q1,q2,q3⟩:=I.pin p (F_ _ h1)
     exact ⟨q1,low _ q2,q3⟩
   · rcases Gj.mp h1 with h1 | h1
     · obtain ⟨q1,q2,q3⟩:=I.pin p (pi _ h1)
       exact ⟨q1,low _ q2,q3⟩
     · simp only [Gs] at h1
       subst h1
       refine ⟨e,ha,fun w=>?_,nfs,fun v w=>by cases w⟩
       obtain ⟨m,⟨o,es,ep,ho,hd,_⟩,_⟩:=I.loc
       have w':a=X.env.locals:=w
       rw [← w',e] at ho
       cases ho
       cases hd
 · have hq:upd H a (.lst xs) b=some u:=by rw [au (hb b u q)]; exact q
   refine (I.hok b u hq).stay (fun _ _ _ w=>w) (fun c w=>dn c _ w (fun _ w=>by cases w)) (fun c ys w=>dn c _ w (fun _ w=>by cases w)) fun c _ _ w=>dn c _ w (fun _ w=>by cases w)
theorem Inv.retrack {its:List Value} {n:Nat} (I:Inv X (pins ++ [(a,wV its n)]) σ H s) (rv:Vals xs its) (hz:xs.length≤sizeLine) (h0:∀ o,X.s₀.heap.get? a=some o→X.H₀ a≠none) (hp0:∀ p∈X.pn ++ pins,p.1≠a):H a=none∧Inv X pins σ (upd H a (.lst xs)) s:=by
 obtain ⟨e,ha,nL,nf,nc⟩:=I.pin (a,wV its n) (pi _ (pi _ (by simp)))
 have up:∀ b u,H b=some u→upd H a (.lst xs) b=some u:=fun b u q=>by rw [au (ao q ha)]; exact q
 have lo:∀ b,H b=none→b≠a→upd H a (.lst xs) b=none:=fun b q h=>by rw [au h]; exact q
 refine ⟨ha,⟨I.ok,I.os,I.bare,⟨I.base.keep,I.base.slot,fun b o q n hx=>lo b (I.base.free b o q n hx) (fun w=>h0 o (w ▸ q) (w ▸ n)),I.base.there,fun b ys q=>up b _ (I.base.tups b ys q),fun b o u q=>up b _ (I.base.frzs b o u q),fun b ps q=>?_⟩,I.loc,I.cell,lo _ I.free (IC nL),fun x c q=>lo _ (I.freeC x c q) (fun w=>?_),fun p hp=>?_,fun b u q=>?_,I.len⟩⟩
 · obtain ⟨more,q'⟩:=I.base.tbls b ps q
   exact ⟨more,up b _ q'⟩
 · obtain ⟨v,o,ho,hd⟩:=I.cell x c q
   rw [w] at ho
   have e':s.heap.get? a=some (wV its n):=e
   rw [e'] at ho
   cases ho
   cases hd
 · obtain ⟨q1,q2,q3⟩:=I.pin p (by
    rcases Gj.mp hp with h1 | h1
    · exact F_ _ h1
    · exact pi _ (F_ _ h1))
   exact ⟨q1,lo _ q2 (hp0 p hp),q3⟩
 · by_cases hb:b=a
   · subst hb
     rw [am] at q
     cases q
     exact ⟨hz,its,n,rv,e⟩
   · rw [au hb] at q
     exact (I.hok b u q).stay (fun _ _ _ w=>w) (fun c w=>up c _ w) (fun c ys w=>up c _ w) fun c _ _ w=>up c _ w
end
def Db (t:TE):TE:=fun σ Hf Q=>∃ H a xs,Hf=upd H a (.lst xs)∧H a=none∧t σ H fun v H'=>H' a=none→Q v (upd H' a (.lst xs))
def Dc (t:TA):TA:=fun σ Hf Q=>∃ H a xs,Hf=upd H a (.lst xs)∧H a=none∧t σ H fun v H'=>H' a=none→Q v (upd H' a (.lst xs))
def Dd (t:TI):TI:=fun σ Hf Q=>∃ H a xs,Hf=upd H a (.lst xs)∧H a=none∧t σ H fun v H'=>H' a=none→Q v (upd H' a (.lst xs))
section
variable {X:Cx} {e:Expr} {es:List Expr}
theorem wW (hex:X.ex=[]) {t:TE} (h:PE X e t):PE X e (Db t):=by
 intro pins s σ Hf Q I ⟨H,a,xs,e1,ha,q⟩
 subst e1
 obtain ⟨its,n,rv,hz,h0,hp,I'⟩:=Inv.untrack I ha hex
 refine thn (h _ s σ H _ I' q) fun u s' ⟨v,H',I2,r,q2⟩=>?_
 obtain ⟨ha',I3⟩:=Inv.retrack I2 rv hz h0 hp
 exact ⟨v,_,I3,r,q2 ha'⟩
theorem wX (hex:X.ex=[]) {t:TA} (h:PA X es t):PA X es (Dc t):=by
 intro pos pins s σ Hf Q I ⟨H,a,xs,e1,ha,q⟩
 subst e1
 obtain ⟨its,n,rv,hz,h0,hp,I'⟩:=Inv.untrack I ha hex
 refine thn (h pos _ s σ H _ I' q) fun u s' ⟨v,H',I2,r,q2⟩=>?_
 obtain ⟨ha',I3⟩:=Inv.retrack I2 rv hz h0 hp
 exact ⟨v,_,I3,r,q2 ha'⟩
theorem wY (hex:X.ex=[]) {tg:Expr} {t:TI} (h:PI X tg e t):PI X tg e (Dd t):=by
 intro pins s σ Hf R I ⟨H,a,xs,e1,ha,q⟩
 subst e1
 obtain ⟨its,n,rv,hz,h0,hp,I'⟩:=Inv.untrack I ha hex
 refine thn (h _ s σ H _ I' q) fun u s1 hs1=>thn hs1 fun itv s2 ⟨it,fp,tn,J,H',e2,I2,T,t0,fpo,q2⟩=>?_
 obtain ⟨ha',I3⟩:=Inv.retrack I2 rv hz h0 hp
 refine ⟨it,fp,tn,J,_,e2,I3,T,t0,fun b hb=>?_,q2 ha'⟩
 obtain ⟨g0,g1,g2,g3,g4,g5⟩:=fpo b hb
 have hba:b≠a:=fun w=>g5 (a,wV its n) (pi _ (pi _ (by simp))) w.symm
 refine ⟨by rw [au hba]; exact g0,g1,g2,g3,g4,fun p hp'=>g5 p ?_⟩
 rcases Gj.mp hp' with w | w
 · exact F_ _ w
 · exact pi _ (F_ _ w)
end
mutual
def imm:Dv→Bool
 | .non=>true
 | .bl _=>true
 | .int _=>true
 | .str _=>true
 | .tup ds=>imms ds
 | .lst _=>false
 | .scr _=>false
 | .exn _=>false
def imms:List Dv→Bool
 | []=>true
 | d :: ds=>imm d && imms ds
end
section
variable {K:ck} {H H':Hp}
mutual
theorem Rep.tups (k:∀ b ys,H b=some (.tup ys)→H' b=some (.tup ys)):∀ (d:Dv) (v:V),imm d=true→Rep K H d v→Rep K H' d v
 | .non,_,_,h=>h
 | .bl _,_,_,h=>h
 | .int _,_,_,h=>h
 | .str _,_,_,h=>h
 | .tup ds,v,i,h=>by
  obtain ⟨a,xs,r,h,q⟩:=h.tupE
  exact ⟨a,xs,r,k _ _ h,Reps.tups k ds xs (by simpa [imm] using i) q⟩
 | .lst _,_,i,_=>by simp [imm] at i
 | .scr _,_,i,_=>by simp [imm] at i
 | .exn _,_,i,_=>by simp [imm] at i
theorem Reps.tups (k:∀ b ys,H b=some (.tup ys)→H' b=some (.tup ys)):∀ (ds:List Dv) (vs:List V),imms ds=true→Reps K H ds vs→Reps K H' ds vs
 | [],_,_,h=>h
 | d :: ds,vs,i,h=>by
  obtain ⟨v,us,r,h,q⟩:∃ v us,vs=v :: us∧Rep K H d v∧Reps K H ds us:=h
  have i':imm d=true∧imms ds=true:=by simpa [imms] using i
  exact ⟨v,us,r,Rep.tups k d v i'.1 h,Reps.tups k ds us i'.2 q⟩
end
end
inductive Fo where
 | nx (ρ:Ev) (ds:List Dv)
 | rt (d:Dv)
abbrev jr:=Ev→List Dv→Option Fo
def OutW (X:Cx) (i:Nat) (a:Addr) (H:Hp) (o:Option Fo) (D:pZ):Prop:=match o with
 | none=>False
 | some (.rt d)=>∀ v H',Same H H'→Rep X.K H' d v→D.rt v H'
 | some (.nx ρ ds)=>∀ σ H' xs,Same H H'→H' a=none→σ[i]?=some (some (.ref a))→Envs X.K H' σ ρ→Reps X.K H' ds xs→D.nx σ (upd H' a (.lst xs))
theorem OutW.mono {X:Cx} {i:Nat} {a:Addr} {H H':Hp} {D:pZ} (e:Same H H'):∀ {o:Option Fo},OutW X i a H o D→OutW X i a H' o D
 | none,h=>h
 | some (.rt _),h=>fun v H1 e1 r=>h v H1 (e.trans e1) r
 | some (.nx _ _),h=>fun σ H1 xs e1=>h σ H1 xs (e.trans e1)
def tO (X:Cx) (i:Nat) (f:jr):TS:=fun D σ Hf=>∃ H a xs ρ ds,Hf=upd H a (.lst xs)∧H a=none∧σ[i]?=some (some (.ref a))∧Envs X.K H σ ρ∧Reps X.K H ds xs∧OutW X i a H (f ρ ds) D
structure FO1 (X:Cx) (i:Nat) (st:Stmt) (f:jr):Prop where
 h:PS X st (tO X i f)
structure FOs (X:Cx) (i:Nat) (st:List Stmt) (f:jr):Prop where
 h:PSs X st (tO X i f)
def yy {α:Type} (o:Option (Rs α)) (k:α→Option Fo):Option Fo:=match o with
 | some (.ok a)=>k a
 | _=>none
def BW:jr:=fun ρ ds=>some (.nx ρ ds)
def fA (f g:jr):jr:=fun ρ ds=>match f ρ ds with
 | some (.nx ρ' ds')=>g ρ' ds'
 | o=>o
def fW (j:Nat) (f:FnE):jr:=fun ρ ds=>yy (f ρ) fun d=>some (.nx (ρ.set j (some d)) ds)
def wZ (i:Nat) (c:FnB) (f g:jr):jr:=fun ρ ds=>yy (c (ρ.set i (some (.lst ds)))) fun k=>if k then f ρ ds else g ρ ds
def yz (i:Nat) (f:FnE):jr:=fun ρ ds=>yy (f (ρ.set i (some (.lst ds)))) fun d=>some (.rt d)
def yA (f:FnE):jr:=fun ρ ds=>if ds.length < 100000 then yy (f ρ) fun d=>some (.nx ρ (ds ++ [d])) else none
section
variable {X:Cx} {i:Nat} {st:Stmt} {sts:List Stmt} {f g:jr} {fe:FnE} {gb:FnB} {e c:Expr} {pos:Pos}
theorem rh {H Hf:Hp} {a:Addr} {xs:List V} (ha:H a=none) (e:Same (upd H a (.lst xs)) Hf):∃ H',Hf=upd H' a (.lst xs)∧H' a=none∧Same H H':=by
 refine ⟨fun b=>if b=a then none else Hf b,?_,by simp,fun b u q=>?_⟩
 · funext b
   by_cases hb:b=a
   · subst hb
     rw [am]
     exact e b _ am
   · rw [au hb]
     simp [hb]
 · have hb:b≠a:=ao q ha
   simp only [hb,if_false]
   exact e b u (by rw [au hb]; exact q)
theorem dW {H:Hp} {a:Addr} {xs:List V} (ha:H a=none):Same H (upd H a (.lst xs)):=ar ha _
theorem iL {H:Hp} {a:Addr} {xs:List V} {σ:L2.St} {ρ:Ev} {ds:List Dv} (ha:H a=none) (hi:σ[i]?=some (some (.ref a))) (E:Envs X.K H σ ρ) (r:Reps X.K H ds xs):Envs X.K (upd H a (.lst xs)) σ (ρ.set i (some (.lst ds))):=by
 have E':=E.mono (dW (xs:=xs) ha)
 refine ⟨by rw [G1]; exact E'.len,fun j d hj=>?_⟩
 by_cases hij:i=j
 · subst hij
   by_cases hl:i < ρ.length
   · rw [Gu hl] at hj
     cases hj
     exact ⟨.ref a,hi,a,xs,rfl,am,Reps.mono (dW ha) _ _ r⟩
   · rw [Gg (by rw [G1]; omega)] at hj
     cases hj
 · rw [Gq hij] at hj
   exact E'.at' j d hj
theorem w5:FOs X i [] BW:=⟨fun pins s σ Hf D I ⟨H,a,xs,ρ,ds,e1,ha,hi,E,r,o⟩=>by
 subst e1
 exact qg pins s σ _ D I (o σ H xs (.refl H) ha hi E r)⟩
theorem uz (h1:FO1 X i st f) (h2:FOs X i sts g):FOs X i (st :: sts) (fA f g):=⟨fun pins s σ Hf D I ⟨H,a,xs,ρ,ds,e1,ha,hi,E,r,o⟩=>by
 refine jY h1.h h2.h pins s σ Hf D I ⟨H,a,xs,ρ,ds,e1,ha,hi,E,r,?_⟩
 unfold fA at o
 match hf:f ρ ds with
 | none=>rw [hf] at o; exact o.elim
 | some (.rt d)=>rw [hf] at o; exact o
 | some (.nx ρ' ds')=>rw [hf] at o; exact fun σ' H' xs' e' ha' hi' E' r'=>⟨H',a,xs',ρ',ds',rfl,ha',hi',E',r',OutW.mono e' o⟩⟩
theorem w6 (h1:FO1 X i st f):FOs X i [st] f:=⟨qh h1.h⟩
theorem Ai (hex:X.ex=[]) (j:Nat) (hij:i≠j) {x:Str} {pos':Pos} (hN:X.N.Nodup) (hi:X.N[j]?=some x) (hx:Loc X.env.scope x) (he:FE X e fe) (hs:G8 e (some (.Name x pos')) pos.line X.env=pure false:=by kernel_rfl) (hf:X.fn x=true∨X.env.scope.names.lookup x=some .local:=by first | exact .inl rfl | exact .inr rfl | assumption) :
 FO1 X i (.Assign [.Name x pos'] e pos) (fW j fe):=⟨fun pins s σ Hf D I ⟨H,a,xs,ρ,ds,e1,ha,hia,E,r,o⟩=>by
 refine qj hN hi hx (wW hex he.h) hs hf pins s σ Hf D I ⟨H,a,xs,e1,ha,ρ,E,?_⟩
 unfold fW at o
 match hfe:fe ρ with
 | none=>rw [hfe] at o; exact o.elim
 | some (.exc _)=>rw [hfe] at o; exact o.elim
 | some (.ok d) =>
  rw [hfe] at o
  exact fun v H' e' rd ha'=>o _ H' xs e' ha' (by rw [Gq (IC hij)]; exact hia) ((E.mono e').set rd) (Reps.mono e' _ _ r)⟩
theorem Aj {as bs:List Stmt} (hc:FT X c gb) (ha:FOs X i as f) (hb:FOs X i bs g):FO1 X i (.If c as bs pos) (wZ i gb f g):=⟨fun pins s σ Hf D I ⟨H,a,xs,ρ,ds,e1,ha',hia,E,r,o⟩=>by
 subst e1
 refine yW hc.h ha.h hb.h pins s σ _ D I ⟨_,iL ha' hia E r,?_⟩
 unfold wZ at o
 match hg:gb (ρ.set i (some (.lst ds))) with
 | none=>rw [hg] at o; exact o.elim
 | some (.exc _)=>rw [hg] at o; exact o.elim
 | some (.ok true) =>
  rw [hg] at o
  intro H2 e2
  obtain ⟨H',q1,q2,q3⟩:=rh ha' e2
  exact yu ⟨H',a,xs,ρ,ds,q1,q2,hia,E.mono q3,Reps.mono q3 _ _ r,OutW.mono q3 o⟩
 | some (.ok false) =>
  rw [hg] at o
  intro H2 e2
  obtain ⟨H',q1,q2,q3⟩:=rh ha' e2
  exact yt ⟨H',a,xs,ρ,ds,q1,q2,hia,E.mono q3,Reps.mono q3 _ _ r,OutW.mono q3 o⟩⟩
theorem Ak (he:FE X e fe):FO1 X i (.Return (some e) pos) (yz i fe):=⟨fun pins s σ Hf D I ⟨H,a,xs,ρ,ds,e1,ha',hia,E,r,o⟩=>by
 subst e1
 refine vo he.h pins s σ _ D I ⟨_,iL ha' hia E r,?_⟩
 unfold yz at o
 match hg:fe (ρ.set i (some (.lst ds))) with
 | none=>rw [hg] at o; exact o.elim
 | some (.exc _)=>rw [hg] at o; exact o.elim
 | some (.ok d)=>rw [hg] at o; exact fun v H2 e2 rd=>o v H2 ((dW ha').trans e2) rd⟩
theorem Al (hex:X.ex=[]) {x:Str} {apos cpos:Pos} (hx:PE X (.Name x apos) (yL i)) (he:FE X e fe)
 (hbase:Iq (.Name x apos) "append" X.env (eval (.Name x apos) X.env)=eval (.Name x apos) X.env:=by kernel_rfl)
 (hfew:((F0 cpos (e_ [e] X.env)).all (fun x=>!x.1) && (Ii cpos (GY [] X.env)).all (fun x=>x.1.isSome)
   && decide ([e].length + ([]:List Iv).length + (if ([]:List Iv).isEmpty then 0 else 1) < 30))=true:=by kernel_rfl)
 {ap:Pos} (hline:(ap.endLine == cpos.line)=true:=by kernel_rfl) (hs:e_ [e] X.env=(false,eval e X.env) :: e_ [] X.env:=by kernel_rfl) (hplain:(F0 cpos (e_ [] X.env)).any (·.1)=false:=by kernel_rfl)
 (hsw:G8 (.Call (.Attribute (.Name x apos) "append" ap) [e] [] cpos) none pos.line X.env=pure false:=by kernel_rfl) :
 FO1 X i (.Expr (.Call (.Attribute (.Name x apos) "append" ap) [e] [] cpos) pos) (yA fe):=⟨fun pins s σ Hf D I ⟨H,a,xs,ρ,ds,e1,ha',hia,E,r,o⟩=>by
 refine qi (tY Je JV PySem.F.type_list_append qF hx (wX hex (qI he vy hs).h) hbase hfew hline hs hplain) hsw pins s σ Hf D I ?_
 unfold yA at o
 split at o
 · rename_i hl
   match hfe:fe ρ with
   | none=>rw [hfe] at o; exact o.elim
   | some (.exc _)=>rw [hfe] at o; exact o.elim
   | some (.ok d) =>
    rw [hfe] at o
    refine ⟨.ref a,hia,.inl ⟨rfl,xs,SqL.of (by rw [e1]; exact am)⟩,H,a,xs,e1,ha',ρ,E,?_⟩
    show OutA X H (aa fe ag ρ) _
    rw [ah hfe av]
    intro vs H' e' rs ha2
    obtain ⟨v,rfl,rv⟩:=cM rs
    have hz:xs.length < sizeLine:=by
     have:=r.length
     have h2:=bE (n:=xs.length + 1) (by omega)
     omega
    refine ⟨a,xs,v,rfl,rfl,am,hz,?_⟩
    rw [v4]
    exact o σ H' (xs ++ [v]) e' ha2 hia (E.mono e') ((Reps.mono e' _ _ r).append ⟨v,[],rfl,rv,rfl⟩)
 · exact o.elim⟩
end
def yB (i:Nat) (g:FnA) (f:jr):FnS:=fun ρ=>cx (g ρ) fun ds=>if ds.length≤100000 then (match f (ρ.set i none) ds with
 | some (.nx ρ' ds')=>some (.nx (ρ'.set i (some (.lst ds'))))
 | some (.rt d)=>some (.rt d)
 | none=>none) else none
section
variable {X:Cx} {i:Nat} {sts:List Stmt} {f:jr} {g:FnA} {es:List Expr} {pos lp:Pos}
theorem w8 {x:Str} {pos':Pos} (hN:X.N.Nodup) (hi:X.N[i]?=some x) (hx:Loc X.env.scope x) (hg:FA X es g) (hr:FOs X i sts f) (hs:G8 (.List es lp) (some (.Name x pos')) pos.line X.env=pure false:=by kernel_rfl)
 (hf:X.fn x=true∨X.env.scope.names.lookup x=some .local:=by first | exact .inl rfl | exact .inr rfl | assumption):FSs X (.Assign [.Name x pos'] (.List es lp) pos :: sts) (yB i g f):=⟨fun pins s σ H D I ⟨ρ,E,o⟩=>by
 refine jY (qj (i:=i) hN hi hx (vv hg.h) hs hf) hr.h pins s σ H D I ⟨ρ,E,?_⟩
 unfold yB at o
 match hgr:g ρ with
 | none=>rw [hgr] at o; exact o.elim
 | some (.exc _)=>rw [hgr] at o; exact o
 | some (.ok ds) =>
  rw [hgr] at o
  intro vs H1 e1 rs
  have o2:OutS X H (if ds.length≤100000 then (match f (ρ.set i none) ds with
   | some (.nx ρ' ds')=>some (.nx (ρ'.set i (some (.lst ds'))))
   | some (.rt d)=>some (.rt d)
   | none=>none) else none) D:=o
  by_cases hl:ds.length≤100000
  · rw [if_pos hl] at o2
    refine ⟨by rw [rs.length]; exact bE hl,fun p hp=>?_⟩
    have hil:i < σ.length:=by rw [I.len]; exact (u_.mp hi).1
    refine ⟨H1,p,vs,ρ.set i none,ds,rfl,hp,Gu hil,?_,rs,?_⟩
    · have E1:=(E.mono e1).fgt1 i
      refine ⟨by rw [G1]; exact E1.len,fun j d hj=>?_⟩
      by_cases hij:i=j
      · subst hij
        by_cases hl2:i < ρ.length
        · rw [Gu hl2] at hj; cases hj
        · rw [Gg (by rw [G1]; omega)] at hj; cases hj
      · obtain ⟨v,q1,q2⟩:=E1.at' j d hj
        exact ⟨v,by rw [Gq hij]; exact q1,q2⟩
    · match hfr:f (ρ.set i none) ds with
      | none=>rw [hfr] at o2; exact o2.elim
      | some (.rt d)=>rw [hfr] at o2; exact fun v H' e' r'=>o2 v H' (e1.trans e') r'
      | some (.nx ρ' ds') =>
       rw [hfr] at o2
       exact fun σ' H' xs' e' ha' hi' E' r'=>o2 σ' _ ((e1.trans e').trans (dW ha')) (iL ha' hi' E' r')
  · rw [if_neg hl] at o2
    exact o2.elim⟩
end
def lm (j:Nat) (js:List Nat) (body:jr):List Dv→Ev→List Dv→Option Fo
 | [],ρ,xs=>some (.nx (fgt js ρ) xs)
 | d :: ds,ρ,xs=>match body ((fgt js ρ).set j (some d)) xs with
  | some (.nx ρ' xs')=>lm j js body ds ρ' xs'
  | o=>o
def w9 (j:Nat) (js:List Nat) (src:FnA) (body:jr):jr:=fun ρ xs=>yy (src ρ) fun ds=>if imms ds=true then lm j js body ds ρ xs else none
theorem ka:∀ {ds:List Dv} {n:Nat} {d:Dv},imms ds=true→ds[n]?=some d→imm d=true
 | [],_,_,_,h=>by simp at h
 | e :: ds,0,d,i,h=>by
  have i':imm e=true∧imms ds=true:=by simpa [imms] using i
  cases (show some e=some d from h)
  exact i'.1
 | e :: ds,n + 1,d,i,h=>by
  have i':imm e=true∧imms ds=true:=by simpa [imms] using i
  exact ka i'.2 (show ds[n]?=some d from h)
theorem uA {K:ck} {H:Hp} {a:Addr} {xs:List V} {d:Dv} {v:V} (i:imm d=true) (r:Rep K (upd H a (.lst xs)) d v):Rep K H d v :=
 Rep.tups (fun b ys q=>by
  by_cases hb:b=a
  · rw [hb,am] at q; cases q
  · rw [au hb] at q; exact q) d v i r
theorem Am {X:Cx} {i:Nat} {tg iter:Expr} {body:List Stmt} {pos:Pos} {src:FnA} {fb:jr} (hex:X.ex=[]) (j:Nat) (js:List Nat) (hij:i≠j) (hp:Kh (o_ X.prog X.w) X.A X.env X.xe) (hc:X.calm=true) (hi:FI X tg iter src) (hg:PG X tg (mC j)) (hb:FOs X i body fb)
 (hs:∀ x,FL iter X.env x=pure x:=by intro _; kernel_rfl):FO1 X i (.For tg iter body [] pos) (w9 j js src fb):=⟨fun pins s σ Hf D I ⟨H,a,xs,ρ,ds,e1,ha,hia,E,r,o⟩=>by
 refine qo hp hc (wY hex hi.h) hg hb.h hs pins s σ Hf D I ⟨H,a,xs,e1,ha,ρ,E,?_⟩
 unfold w9 at o
 match hf:src ρ with
 | none=>rw [hf] at o; exact o.elim
 | some (.exc _)=>rw [hf] at o; exact o.elim
 | some (.ok us) =>
  rw [hf] at o
  have o0:OutW X i a H (if imms us=true then lm j js fb us ρ ds else none) D:=o
  by_cases him:imms us=true
  · rw [if_pos him] at o0
    intro J H1 e1 wk ha1
    have o1:=OutW.mono e1 o0
    refine ⟨fun n m σ' Hf'=>m=us.length - n∧n≤us.length∧∃ H' xs' ρ' ds',Hf'=upd H' a (.lst xs')∧H' a=none∧Same H1 H'∧σ'[i]?=some (some (.ref a))∧Envs X.K H' σ' ρ'∧Reps X.K H' ds' xs'∧OutW X i a H' (lm j js fb (us.drop n) ρ' ds') D,
     ⟨us.length,by simp,FN _,H1,xs,ρ,ds,rfl,ha1,.refl H1,hia,E.mono e1,Reps.mono e1 _ _ r,by simpa using o1⟩,?_⟩
    rintro n m σ' Hf' ⟨rfl,hn,H',xs',ρ',ds',rfl,ha',e2,hia',E',r',o'⟩
    have e2f:Same H1 (upd H' a (.lst xs')):=e2.trans (dW ha')
    by_cases hlt:n < us.length
    · refine .inr ⟨wk.go n _ e2f hlt,fun σ2 Hf2=>∃ H2 xs2 ρ2 ds2,Hf2=upd H2 a (.lst xs2)∧H2 a=none∧Same H1 H2∧σ2[i]?=some (some (.ref a))∧Envs X.K H2 σ2 ρ2∧Reps X.K H2 ds2 xs2∧OutW X i a H2 (lm j js fb (us.drop (n + 1)) ρ2 ds2) D,
       fun σ2 Hf2 q=>⟨us.length - (n + 1),by omega,rfl,hlt,q⟩,fun x H2 y=>?_⟩
      obtain ⟨rfl,d,hd,rd⟩:=wk.yld n _ x H2 e2f hlt y
      have rd':=uA (ka him hd) rd
      rw [fQ hd] at o'
      show tO X i fb _ _ _
      refine ⟨H',a,xs',(fgt js ρ').set j (some d),ds',rfl,ha',by rw [Gq (IC hij)]; exact hia',(Envs.fgt js E').set rd',r',?_⟩
      unfold lm at o'
      match hb':fb ((fgt js ρ').set j (some d)) ds' with
      | none=>rw [hb'] at o'; exact o'
      | some (.rt r)=>rw [hb'] at o'; exact o'
      | some (.nx ρ2 ds2)=>rw [hb'] at o'; exact fun σ2 H3 xs3 e3 h3 hi3 E3 r3=>⟨H3,xs3,ρ2,ds2,rfl,h3,e2.trans e3,hi3,E3,r3,OutW.mono e3 o'⟩
    · have hn':n=us.length:=by omega
      subst hn'
      rw [JL] at o'
      exact .inl ⟨wk.stop _ e2f,o' σ' H' xs' (.refl H') ha' hia' (Envs.fgt js E') r'⟩
  · rw [if_neg him] at o0
    exact o0.elim⟩
end FD
namespace FD
open PySem PySem.Spec PyProof.Rows L2 PySem.W
def dX:Dv→Bool
 | .bl _=>true
 | .int _=>true
 | _=>false
theorem xa (K:ck) (d:Dv):Hk K (.type (tyD d)) (.type "int")=some (dX d):=by cases d <;> kernel_rfl
def ri:Dv→Bool
 | .lst _=>true
 | .scr _=>true
 | _=>false
theorem An:GF (a_ "int")=some (.type "int"):=by kernel_rfl
section
variable {X:Cx} {p pos:Pos} {e:Expr} {es:List Expr} {ga:FnA}
end
def leX:Dv→Dv→Option (Rs Dv)
 | .int i,.int j=>some (.ok (.bl (decide (i≤j))))
 | .str x,.str y=>some (.ok (.bl (!decide (y.cps.toList < x.cps.toList))))
 | _,_=>none
def Ep:R2:=fun x y H Q=>rI0 (fun i j=>.bl (decide (i≤j))) x y H Q∨∃ i j,x=.str i∧y=.str j∧Q (.bl (!decide (j.cps.toList < i.cps.toList))) H
section
variable {X:Cx}
theorem rj:OpR X (FJ .LtE) (fun x y H Q=>∃ i j,x=.str i∧y=.str j∧Q (.bl (!decide (j.cps.toList < i.cps.toList))) H):=by
 intro pins s σ H x y v u Q I rx ry h
 obtain ⟨i,j,rfl,rfl,q⟩:=h
 obtain ⟨t,rfl⟩:=rx
 obtain ⟨t',rfl⟩:=ry
 exact PySem.P.le_str ⟨.bl _,H,I,rfl,q⟩
theorem De:OpR X (FJ .LtE) Ep:=op_le.or rj
theorem Df:GOp X Ep leX:=by
 intro dx dy x y H Q rx ry o
 cases dx <;> cases dy <;> try exact (show False from o).elim
 · rename_i i j
   exact .inl ⟨i,j,rx,ry,o _ H (.refl H) rfl⟩
 · rename_i i j
   exact .inr ⟨i,j,rx,ry,o _ H (.refl H) rfl⟩
end
structure XAllS (K:ck) (S:List Nat) (cls:Nat→Addr) (CJ:Addr):Prop where
 at_:∀ c∈S,nsIn K t_ (xnm c)=some (some (.ref (cls c)))∧excIn K (cls c) bmV "ValueError.__new__"=true∧XI K (cls c)∧mroIn K (cls c) (.ref CJ)=some true∧mroIn K (cls c) (.ref (cls c))=some true∧kitOne K (.ref (cls c)) (.type "ValueError")=some true∧∀ d∈S,kitOne K (.ref (cls c)) (.ref (cls d))=some (c == d)
 exJ:excIn K CJ bmV "ValueError.__new__"=true
section
variable {K:ck} {S:List Nat} {cls:Nat→Addr} {CJ:Addr} (x:XAllS K S cls CJ)
include x
theorem XAllS.xc (c:Nat) (h:c∈S):XC K c (cls c):=⟨(x.at_ c h).1,(x.at_ c h).2.1⟩
theorem XAllS.same {c:Nat} {C:Addr} (h:c∈S) (q:nsIn K t_ (xnm c)=some (some (.ref C))):C=cls c:=by
 have z:=(x.at_ c h).1
 rw [q] at z
 cases z
 rfl
theorem XAllS.xtO (d:Nat) (hd:d∈S):XT K (fun c=>if S.contains c then some (c == d) else none) (.ref (cls d)):=fun c b hb C q=>by
 dsimp only at hb
 split at hb
 · rename_i h
   have h':c∈S:=by simpa using h
   cases hb
   rw [x.same h' q]
   exact ⟨(x.at_ c h').2.2.1,(x.at_ c h').2.2.2.2.2.2 d hd⟩
 · cases hb
theorem XAllS.xtV:XT K (fun c=>if S.contains c then some true else none) (.type "ValueError"):=fun c b hb C q=>by
 dsimp only at hb
 split at hb
 · rename_i h
   have h':c∈S:=by simpa using h
   cases hb
   rw [x.same h' q]
   exact ⟨(x.at_ c h').2.2.1,(x.at_ c h').2.2.2.2.2.1⟩
 · cases hb
end
section
variable {X:Cx} {ex hx:Expr} {f g:FnE} {J:Str} {CJ:Addr} {np rp rp2 hpos pos:Pos}
end
end FD
namespace ST
open PySem PySem.SetTable
def stp (m i:Nat):Nat:=(i * 5 + 1) % (m + 1)
def it (m:Nat):Nat→Nat→Nat
 | 0,i=>i
 | k + 1,i=>it m k (stp m i)
def uB (m:Nat):Bool:=(f_ (m + 1)).all fun i=>(f_ (m + 1)).all fun j=>(f_ (m + 1)).any fun k=>it m k i == j
theorem EY:uB 7=true:=by decide +kernel
theorem Dg:uB 31=true:=by decide +kernel
theorem Ao {m:Nat} (h:uB m=true) {i j:Nat} (hi:i≤m) (hj:j≤m):∃ k,k≤m∧it m k i=j:=by
 unfold uB at h
 have h1:=Gz.mp h i (Gw.mpr (by omega))
 have h2:=Gz.mp h1 j (Gw.mpr (by omega))
 obtain ⟨k,hk,e⟩:=K6.mp h2
 exact ⟨k,by have:=Gw.mp hk; omega,by simpa using e⟩
def lp (m:Nat):Nat→Nat×Nat→Nat×Nat
 | 0,x=>x
 | r + 1,x=>lp m r (leap m x.1 x.2)
theorem rk (m:Nat):∀ (a b:Nat) (x:Nat×Nat),lp m (a + b) x=lp m b (lp m a x)
 | 0,b,x=>by rw [ID]; rfl
 | a + 1,b,x=>by
  rw [Nat.succ_add]
  show lp m (a + b) (leap m x.1 x.2)=lp m b (lp m a (leap m x.1 x.2))
  exact rk m a b _
theorem xb (m:Nat):∀ (r:Nat) (x:Nat×Nat),x.1≤m→(lp m r x).1≤m
 | 0,x,h=>h
 | r + 1,x,h=>xb m r _ (by
  show (x.1 * 5 + 1 + x.2 / 32) % (m + 1)≤m
  exact HE (I0 _ (Jv m)))
theorem Ap (m:Nat):∀ (r:Nat) (x:Nat×Nat),(lp m r x).2=x.2 / 32 ^ r
 | 0,x=>by simp [lp]
 | r + 1,x=>by
  show (lp m r (leap m x.1 x.2)).2=_
  rw [Ap m r]
  show x.2 / 32 / 32 ^ r=_
  rw [Nat.div_div_eq_div_mul,Nat.pow_succ,Nat.mul_comm]
theorem rm (m:Nat):∀ (r:Nat) (i:Nat),(lp m r (i,0)).1=it m r i
 | 0,i=>rfl
 | r + 1,i=>by
  show (lp m r (leap m i 0)).1=it m r (stp m i)
  have e:leap m i 0=(stp m i,0):=by unfold leap stp; simp
  rw [e]
  exact rm m r _
theorem rn {m:Nat} (c:uB m=true) {i pt j:Nat} (hi:i≤m) (hp:pt < 2 ^ 64) (hj:j≤m):∃ r,r≤13 + m∧(lp m r (i,pt)).1=j:=by
 have h0:(lp m 13 (i,pt)).2=0:=by
  rw [Ap]
  exact Nat.div_eq_of_lt (by
   show pt < 32 ^ 13; have:(32:Nat) ^ 13=2 ^ 65:=by decide
   omega)
 obtain ⟨k,hk,e⟩:=Ao c (xb m 13 (i,pt) hi) hj
 refine ⟨13 + k,by omega,?_⟩
 rw [rk]
 have e2:lp m 13 (i,pt)=((lp m 13 (i,pt)).1,0):=by rw [← h0]
 rw [e2,rm]
 exact e
def advN (t:SetTable):Nat→Probe→Probe
 | 0,p=>p
 | n + 1,p=>advN t n (t.advance p)
theorem fX (t:SetTable):∀ (a b:Nat) (p:Probe),advN t (a + b) p=advN t b (advN t a p)
 | 0,b,p=>by rw [ID]; rfl
 | a + 1,b,p=>by
  rw [Nat.succ_add]
  exact fX t a b _
structure Vp (t:SetTable) (p:Probe):Prop where
 i:p.i≤t.mask
 pt:p.perturb < 2 ^ 64
 more:p.more≤9
 dm:p.dummy=none
theorem ln (m i:Nat):Nt m i - i≤9:=by unfold Nt; split <;> omega
def lr (t:SetTable) (p:Probe):Probe:={ p with j:=(leap t.mask p.i p.perturb).1,more:=Nt t.mask (leap t.mask p.i p.perturb).1 - (leap t.mask p.i p.perturb).1,i:=(leap t.mask p.i p.perturb).1,perturb:=(leap t.mask p.i p.perturb).2 }
theorem ot (t:SetTable) (p:Probe) (h:p.more=0):t.advance p=lr t p:=by
 unfold MT lr
 rw [if_neg (by omega)]
theorem ro (t:SetTable) (p:Probe) (h:0 < p.more):t.advance p={ p with j:=p.j + 1,more:=p.more - 1 }:=by
 unfold MT
 rw [if_pos h]
theorem mN (t:SetTable):∀ (k:Nat) (p:Probe),p.more=k→advN t (k + 1) p=lr t p
 | 0,p,h=>ot t p h
 | k + 1,p,h=>by
  show advN t (k + 1) (t.advance p)=_
  rw [ro t p (by omega),mN t k _ (by show p.more - 1=k; omega)]
  rfl
theorem rq (m i pt:Nat) (h:pt < 2 ^ 64):(leap m i pt).2 < 2 ^ 64:=Nat.lt_of_le_of_lt (Nat.div_le_self _ _) h
theorem Vp.leap {t:SetTable} {p:Probe} (v:Vp t p):Vp t (lr t p):=⟨by
 show (p.i * 5 + 1 + p.perturb / 32) % (t.mask + 1)≤t.mask
 exact HE (I0 _ (Jv t.mask)),(show (Me t.mask p.i p.perturb).2 < 2 ^ 64 from rq _ _ _ v.pt),(show Nt t.mask (Me t.mask p.i p.perturb).1 - (Me t.mask p.i p.perturb).1≤9 from ln _ _),v.dm⟩
theorem Vp.adv {t:SetTable} {p:Probe} (v:Vp t p):Vp t (t.advance p):=by
 by_cases h:0 < p.more
 · rw [ro t p h]; exact ⟨v.i,v.pt,by show p.more - 1≤9; have:=v.more; omega,v.dm⟩
 · rw [ot t p (by omega)]; exact v.leap
theorem Vp.advN {t:SetTable}:∀ (n:Nat) {p:Probe},Vp t p→Vp t (advN t n p)
 | 0,p,v=>v
 | n + 1,p,v=>Vp.advN n v.adv
theorem ou (t:SetTable):∀ (r:Nat) (p:Probe),Vp t p→∃ n,n≤10 * r∧(advN t n p).i=(lp t.mask r (p.i,p.perturb)).1∧(r≠0→(advN t n p).j=(advN t n p).i)
 | 0,p,v=>⟨0,by omega,rfl,fun h=>absurd rfl h⟩
 | r + 1,p,v=>by
  obtain ⟨n,h1,h2,h3⟩:=ou t r (lr t p) v.leap
  refine ⟨p.more + 1 + n,by have:=v.more; omega,?_,fun _=>?_⟩
  · rw [fX,mN t p.more p rfl,h2]; rfl
  · rw [fX,mN t p.more p rfl]
    by_cases hr:r=0
    · subst hr
      have hn:n=0:=by omega
      subst hn
      rfl
    · exact h3 hr
structure Tb (t:SetTable) (n:Nat):Prop where
 size:t.place.size=n
 dm:t.dummies=#[]
 cyc:uB t.mask=true
 room:n≤t.mask
theorem rA (j:Nat):has #[] j=false:=by unfold has; simp
theorem jD {t:SetTable} {n:Nat} (T:Tb t n) (j:Nat):t.slot j=.empty∨∃ i,t.slot j=.live i∧t.place[i]?=some j:=by
 unfold SetTable.slot
 dsimp only
 split
 · rename_i h
   exact .inr ⟨_,rfl,by simpa using h⟩
 · rw [T.dm,rA]
   exact .inl rfl
theorem rB:∀ (m:Nat) (l:List Nat),l.length≤m→∃ j,j≤m∧j ∉ l
 | 0,l,h=>⟨0,j_ _,by
  have:l=[]:=GS.mp (by omega)
  simp [this]⟩
 | m + 1,l,h=>by
  by_cases hm:(m + 1)∈l
  · obtain ⟨j,hj,hn⟩:=rB m (l.erase (m + 1)) (by rw [List.length_erase_of_mem hm]; omega)
    refine ⟨j,by omega,fun hl=>hn ?_⟩
    exact (List.mem_erase_of_ne (by omega)).mpr hl
  · exact ⟨m + 1,j_ _,hm⟩
theorem uC {t:SetTable} {n:Nat} (T:Tb t n):∃ j,j≤t.mask∧t.slot j=.empty:=by
 obtain ⟨j,hj,hn⟩:=rB t.mask t.place.toList (by simp [T.size,T.room])
 refine ⟨j,hj,?_⟩
 rcases jD T j with h | ⟨i,h,e⟩
 · exact h
 · exact absurd (HG.mpr (Array.mem_of_getElem? e)) hn
theorem Dh {t:SetTable} {n:Nat} (T:Tb t n) {p:Probe} (v:Vp t p):∃ N,N < 10 * Md t.mask∧t.slot (advN t N p).j=.empty:=by
 obtain ⟨j,hj,he⟩:=uC T
 obtain ⟨r,hr,e⟩:=rn T.cyc (xb t.mask 1 (p.i,p.perturb) v.i) (by
  show (leap t.mask p.i p.perturb).2 < 2 ^ 64
  exact rq _ _ _ v.pt) hj (pt:=(lp t.mask 1 (p.i,p.perturb)).2)
 obtain ⟨N,h1,h2,h3⟩:=ou t (1 + r) p v
 refine ⟨N,by unfold Md; omega,?_⟩
 rw [h3 (by omega),h2,rk]
 rw [show lp t.mask 1 (p.i,p.perturb)=((lp t.mask 1 (p.i,p.perturb)).1,(lp t.mask 1 (p.i,p.perturb)).2) from rfl,e]
 exact he
theorem first {P:Nat→Prop} [DecidablePred P]:∀ (b:Nat),(∃ n,n < b∧P n)→∃ n,n < b∧P n∧∀ k,k < n→¬ P k
 | 0,⟨n,h,_⟩=>absurd h (IS _)
 | b + 1,⟨n,h,hp⟩=>by
  by_cases q:∃ n,n < b∧P n
  · obtain ⟨n,h1,h2,h3⟩:=first b q
    exact ⟨n,by omega,h2,h3⟩
  · have hn:n=b:=by
     have:¬ n < b:=fun z=>q ⟨n,z,hp⟩
     omega
    subst hn
    exact ⟨n,by omega,hp,fun k hk z=>q ⟨k,hk,z⟩⟩
theorem Aq {t:SetTable} {n:Nat} (T:Tb t n) {p:Probe} (v:Vp t p):∃ N,N < 10 * Md t.mask∧t.slot (advN t N p).j=.empty∧∀ k,k < N→t.slot (advN t k p).j≠.empty :=
 first (P:=fun n=>t.slot (advN t n p).j=.empty) _ (Dh T v)
theorem vH {t:SetTable} {n:Nat} (T:Tb t n) (hashAt:Nat→Int) (h:Int):∀ (N fuel:Nat) (p:Probe),Vp t p→N < fuel→t.slot (advN t N p).j=.empty→(∀ k,k < N→t.slot (advN t k p).j≠.empty) →
 KU t hashAt h fuel p=some (.empty (advN t N p).j none)∨∃ m i,m < N∧t.slot (advN t m p).j=.live i∧t.place[i]?=some (advN t m p).j∧hashAt i=h∧KU t hashAt h fuel p=some (.candidate (advN t m p).j i (advN t (m + 1) p))
 | N,0,p,v,hf,_,_=>absurd hf (IS _)
 | 0,fuel + 1,p,v,hf,he,_=>by
  refine .inl ?_
  unfold KU
  rw [show t.slot p.j=.empty from he]
  show some (Met.empty p.j p.dummy)=_
  rw [v.dm]
  rfl
 | N + 1,fuel + 1,p,v,hf,he,hn=>by
  rcases jD T p.j with h0 | ⟨i,h1,h2⟩
  · exact absurd h0 (hn 0 (by omega))
  · by_cases hh:hashAt i=h
    · refine .inr ⟨0,i,by omega,h1,h2,hh,?_⟩
      unfold KU
      rw [h1]
      dsimp only
      rw [if_pos (by simpa using hh)]
      rfl
    · have hg:KU t hashAt h (fuel + 1) p=KU t hashAt h fuel (t.advance p):=by
       conv=>lhs; unfold KU
       rw [h1]
       dsimp only
       rw [if_neg (by simpa using hh)]
      rcases vH T hashAt h N fuel (t.advance p) v.adv (by omega) he (fun k hk=>hn (k + 1) (by omega)) with q | ⟨m,i',q1,q2,q3,q4,q5⟩
      · exact .inl (by rw [hg,q]; rfl)
      · exact .inr ⟨m + 1,i',by omega,q2,q3,q4,by rw [hg,q5]; rfl⟩
theorem rD {t:SetTable} (h:Int):Vp t (t.probeStart h):=⟨by
 show bits h % (t.mask + 1)≤t.mask
 exact HE (I0 _ (Jv t.mask)),by
 show bits h < 2 ^ 64
 unfold bits
 have h1:=Hx h (show (2 ^ 64:Int)≠0 by decide)
 have h2:=G4 h (show (0:Int) < 2 ^ 64 by decide)
 omega,ln _ _,rfl⟩
theorem ls {m:Nat} {owner:Array (Option Nat)}:∀ (fuel i pt:Nat),i≤m→(∃ r,r < fuel∧(owner.getD (lp m r (i,pt)).1 (some 0)).isNone=true)→∃ j,JO m owner fuel i pt=some j∧(owner.getD j (some 0)).isNone=true
 | 0,i,pt,_,⟨r,h,_⟩=>absurd h (IS _)
 | fuel + 1,i,pt,hi,⟨r,h,e⟩=>by
  unfold JO
  split
  · rename_i k hk
    exact ⟨i + k,rfl,by simpa using List.find?_some hk⟩
  · rename_i hk
    cases r with
    | zero =>
     have hm:0∈f_ (Nt m i + 1 - i):=Gw.mpr (by unfold Nt; split <;> omega)
     have:=List.find?_eq_none.mp hk 0 hm
     exact absurd (show (owner.getD (i + 0) (some 0)).isNone=true from e) this
    | succ r =>
     exact ls fuel _ _ (by
      show (i * 5 + 1 + pt / 32) % (m + 1)≤m
      exact HE (I0 _ (Jv m))) ⟨r,by omega,e⟩
theorem vI:∀ (l:List (Option Nat)) (j k:Nat),l[j]?=some none→((l.set j (some k)).filterMap id).Perm (k :: l.filterMap id)
 | [],j,k,h=>by simp at h
 | x :: l,0,k,h=>by
  have:x=none:=by simpa using h
  subst this
  simp
 | x :: l,j + 1,k,h=>by
  have ih:=vI l j k (by simpa using h)
  cases x with
  | none=>simpa using ih
  | some y =>
   show List.Perm (y :: (l.set j (some k)).filterMap id) (k :: y :: l.filterMap id)
   exact (ih.cons y).trans (LY ..)
theorem rE:∀ (l:List (Option Nat)),(l.filterMap id).length < l.length→∃ j,j < l.length∧l[j]?=some none
 | [],h=>by simp at h
 | none :: l,h=>⟨0,by simp,rfl⟩
 | some y :: l,h=>by
  obtain ⟨j,h1,h2⟩:=rE l (by simpa using h)
  exact ⟨j + 1,by simpa using h1,by simpa using h2⟩
def xf (m:Nat) (acc:Option (Array (Option Nat)×Nat)) (h:Int):Option (Array (Option Nat)×Nat):=do
 let (owner,k) ← acc
 let j ← JO m owner (Md m) (bits h % (m + 1)) (bits h)
 pure (owner.setIfInBounds j (some k),k + 1)
theorem xg (h:Int):bits h < 2 ^ 64:=by
 unfold bits
 have h1:=Hx h (show (2 ^ 64:Int)≠0 by decide)
 have h2:=G4 h (show (0:Int) < 2 ^ 64 by decide)
 omega
theorem getD_none {owner:Array (Option Nat)} {j:Nat} (h:(owner.getD j (some 0)).isNone=true):j < owner.size∧owner.toList[j]?=some none:=by
 rw [Iz] at h
 cases q:owner[j]? with
 | none=>rw [q] at h; simp at h
 | some x =>
  rw [q] at h
  have hx:x=none:=by simpa using h
  subst hx
  refine ⟨(Gm.mp q).1,by rw [JG]; exact q⟩
theorem rF {m:Nat} (c:uB m=true):∀ (hs:List Int) (owner:Array (Option Nat)) (k:Nat),owner.size=m + 1→(owner.toList.filterMap id).Perm (f_ k)→k + hs.length≤m →
 ∃ o2,hs.foldl (xf m) (some (owner,k))=some (o2,k + hs.length)∧o2.size=m + 1∧(o2.toList.filterMap id).Perm (f_ (k + hs.length))
 | [],owner,k,h1,h2,h3=>⟨owner,rfl,h1,h2⟩
 | h :: hs,owner,k,h1,h2,h3=>by
  have hk:k + (hs.length + 1)≤m:=by simpa using h3
  obtain ⟨j0,a1,a2⟩:=rE owner.toList (by rw [h2.length_eq,Ix]; simp only [Gi,h1]; omega)
  have hj0:j0≤m:=by simp only [Gi,h1] at a1; omega
  obtain ⟨r,b1,b2⟩:=rn c (i:=bits h % (m + 1)) (pt:=bits h) (HE (I0 _ (Jv m))) (xg h) hj0
  obtain ⟨j,f1,f2⟩:=ls (m:=m) (owner:=owner) (Md m) (bits h % (m + 1)) (bits h) (HE (I0 _ (Jv m))) ⟨r,by unfold Md; omega,by
   rw [b2,Iz]
   rw [JG] at a2
   rw [a2]; rfl⟩
  obtain ⟨g1,g2⟩:=getD_none f2
  have e:xf m (some (owner,k)) h=some (owner.setIfInBounds j (some k),k + 1):=by
   show (JO m owner (Md m) (bits h % (m + 1)) (bits h)).bind (fun j=>some (owner.setIfInBounds j (some k),k + 1))=_
   rw [f1]; rfl
  rw [Nb,e]
  obtain ⟨o2,c1,c2,c3⟩:=rF c hs (owner.setIfInBounds j (some k)) (k + 1) (by rw [Array.size_setIfInBounds]; exact h1) (by
   rw [Array.toList_setIfInBounds]
   refine (vI _ _ _ g2).trans ((h2.cons k).trans ?_)
   rw [Lq]
   exact (IA k (f_ k)).symm) (by omega)
  refine ⟨o2,?_,c2,?_⟩
  · rw [c1]; simp only [Hh]; congr 2; omega
  · simp only [Hh]; rw [show k + (hs.length + 1)=k + 1 + hs.length by omega]; exact c3
theorem mO {m:Nat} (c:uB m=true) (hs:Array Int) (hl:hs.size≤m):∃ o2,Nu m hs=some o2∧o2.size=m + 1∧(o2.toList.filterMap id).Perm (f_ hs.size):=by
 obtain ⟨o2,c1,c2,c3⟩:=rF c hs.toList (Lr (m + 1) none) 0 (by simp) (by simp [List.filterMap_replicate]) (by simpa using hl)
 refine ⟨o2,?_,c2,by simpa using c3⟩
 unfold Nu
 rw [← Array.foldl_toList]
 have e:(List.foldl (fun acc h=>do
  let (owner,k) ← acc
  let j ← JO m owner (Md m) (bits h % (m + 1)) (bits h)
  pure (owner.setIfInBounds j (some k),k + 1)) (some (Lr (m + 1) none,0)) hs.toList:Option (Array (Option Nat)×Nat))=hs.toList.foldl (xf m) (some (Lr (m + 1) none,0)):=rfl
 rw [e,c1]
 rfl
theorem ov:∀ (l:List (Option Nat)) (base:Nat),((f_ l.length).filterMap fun j=>(l.getD j none).map (fun x=>(base + j,x))).map (·.2)=l.filterMap id
 | [],base=>rfl
 | x :: l,base=>by
  rw [Hh,Lk,IJ,Kx]
  have ih:=ov l (base + 1)
  have e:(f_ l.length).filterMap ((fun j=>((x :: l).getD j none).map (fun x=>(base + j,x))) ∘ Nat.succ)=(f_ l.length).filterMap fun j=>(l.getD j none).map (fun x=>(base + 1 + j,x)):=by
   congr 1
   funext j
   show ((x :: l).getD (j + 1) none).map _=_
   simp only [List.getD_cons_succ]
   rw [show base + (j + 1)=base + 1 + j by omega]
  rw [e]
  cases x with
  | none=>simpa using ih
  | some y =>
   simp only [List.getD_cons_zero,GZ,xy]
   rw [ih]
   rfl
theorem xh {m finger moves:Nat} {led plain:Bool} (c:uB m=true) (hs:Array Int) (hl:hs.size≤m):∃ t order,laid m finger moves led plain hs=some (t,order)∧t.mask=m∧t.moves=moves∧t.led=led∧t.plain=plain∧Tb t hs.size∧order.toList.Perm (f_ hs.size):=by
 obtain ⟨o2,c1,c2,c3⟩:=mO c hs hl
 have e:=ov o2.toList 0
 have hlen:((f_ (m + 1)).filterMap fun j=>(o2.getD j none).map (j,·))=((f_ o2.toList.length).filterMap fun j=>(o2.toList.getD j none).map (fun x=>(0 + j,x))):=by
  rw [Gi,c2]
  congr 1
  funext j
  rw [ID,Iz,Hq,JG]
 refine ⟨_,_,by unfold laid; rw [c1]; rfl,rfl,rfl,rfl,rfl,⟨?_,rfl,c,hl⟩,?_⟩
 · simp only [v_,y_]
   rw [hlen]
   have:=congrArg List.length e
   rw [y_] at this
   rw [this,c3.length_eq,Ix]
 · rw [J9,hlen,e]
   exact c3
theorem fY {α:Type} (xs:Array α) (p:Nat) (x:α) (h:p≤xs.size):(insertAt xs p x).size=xs.size + 1:=by
 unfold insertAt
 simp only [ML,Array.size_push,Array.size_extract]
 omega
theorem ow (xs:Array Nat) (j:Nat):below xs j≤xs.size:=by
 unfold below
 have:∀ (fuel lo hi:Nat),lo≤hi→hi≤xs.size→MC xs j fuel lo hi≤xs.size:=by
  intro fuel
  induction fuel with
  | zero=>intro lo hi h1 h2; unfold MC; omega
  | succ fuel ih =>
   intro lo hi h1 h2
   unfold MC
   split
   · rename_i hlt
     dsimp only
     split
     · exact ih _ _ (by omega) h2
     · exact ih _ _ (by omega) (by omega)
   · omega
 exact this _ _ _ (FN _) (j_ _)
theorem Ar {t:SetTable} {n:Nat} (T:Tb t n) (h:n + 1≤t.mask) (j:Nat):Tb (t.put j).1 (n + 1)∧(t.put j).2≤n∧(t.put j).1.mask=t.mask∧(t.put j).1.led=t.led∧(t.put j).1.moves=t.moves:=by
 unfold SetTable.put
 refine ⟨⟨?_,?_,T.cyc,h⟩,?_,rfl,rfl,rfl⟩
 · show (insertAt t.place (below t.place j) j).size=n + 1
   rw [fY _ _ _ (ow _ _),T.size]
 · show (if has t.dummies j then eraseAt t.dummies (below t.dummies j) else t.dummies)=#[]
   rw [T.dm,rA]
   rfl
 · show below t.place j≤n
   rw [← T.size]
   exact ow _ _
section
variable {prog:Program} {w:uk} {A:q_} {E:Value→Shared→Prop} {s:Shared}
abbrev TK (prog:Program) (w:uk) (h:Heap) (k:List Str) (a:Addr):Prop:=IsTupleKey (strKind prog w) h k a
abbrev hsh (prog:Program) (w:uk) (k:List Str):Int:=tupleKeyHash (strKind prog w) k
theorem lu {k:List Str} {vs:List Value} (h:ItemsAre (strKind prog w) k vs):∀ v∈vs,∃ x t,v=.str x t:=by
 induction h with
 | nil=>intro v hv; simp at hv
 | @cons k' v' ks vs h1 _ ih =>
  intro v hv
  rcases p_.mp hv with rfl | hv
  · obtain ⟨t,rfl⟩:=L6 h1
    exact ⟨_,_,rfl⟩
  · exact ih v hv
theorem rG {k:List Str} {a:Addr} {Q:Bool→Shared→Prop} (hk:TK prog w s.heap k a) (h:Q false s):l_ (o_ prog w) A (ofAClassStatement 8 (.ref a)) Q E s:=by
 have hT:=hk.typeIs
 obtain ⟨o,items,n,ho,_,hd,hi⟩:=hk
 unfold ofAClassStatement
 refine b_ (Hy hT ?_)
 show l_ _ _ ((if ("tuple" == "tuple")=true then pure true else isSubtype (.type "tuple") (.type "tuple")) >>= _) _ _ s
 rw [if_pos (by decide)]
 refine b_ (c_ ?_)
 simp only [IP,on,if_false]
 refine b_ (Kj ho hd ?_)
 refine b_ ?_
 show l_ _ _ (NH items _ _) _ _ s
 rw [← Ja]
 refine JH _ (fun cz r s'=>r.1=none∧s'=s∧∀ v∈cz,∃ x t,v=GG x t) _ ?_ ?_ _ _ ⟨rfl,rfl,lu hi⟩
 · rintro v cz r s' ⟨hr,rfl,hall⟩
   obtain ⟨x,t,rfl⟩:=hall v g_
   refine b_ (c_ ?_)
   simp only [on,if_false]
   exact c_ ⟨rfl,rfl,fun u hu'=>hall u (ge _ hu')⟩
 · rintro ⟨r1,r2⟩ s' ⟨hr,rfl,_⟩
   simp only at hr
   subst hr
   exact c_ h
theorem As {k:List Str} {b:Addr} (hk:TK prog w s.heap k b) {l:List Value} (hl:∀ v∈l,∃ k' a,v=.ref a∧TK prog w s.heap k' a) {Q:Bool→Shared→Prop} (h:Q false s):l_ (o_ prog w) A (searchCouldBeSeen (.ref b) l) Q E s:=by
 unfold searchCouldBeSeen
 refine b_ ?_
 refine JH _ (fun cz r s'=>r.1=none∧s'=s∧∀ v∈cz,∃ k' a,v=s_ a∧TK prog w s.heap k' a) _ ?_ ?_ _ _ ⟨rfl,rfl,hl⟩
 · rintro v cz r s' ⟨hr,rfl,hall⟩
   obtain ⟨k',a,rfl,ha⟩:=hall v g_
   have hrest:∀ v∈cz,∃ k' a,v=s_ a∧TK prog w s'.heap k' a:=fun u hu'=>hall u (ge _ hu')
   dsimp only
   split
   · exact c_ ⟨rfl,rfl,hrest⟩
   · refine b_ (Ls hk ?_)
     simp only [IP,on,if_false]
     refine b_ (Ls ha ?_)
     simp only [IP,on,if_false]
     refine b_ (rG hk ?_)
     simp only [on,if_false]
     refine b_ (rG ha ?_)
     simp only [on,if_false]
     exact c_ ⟨rfl,rfl,hrest⟩
 · rintro ⟨r1,r2⟩ s' ⟨hr,rfl,_⟩
   simp only at hr
   subst hr
   exact c_ h
def Ent (prog:Program) (w:uk) (h:Heap) (ks:List (List Str)) (es:List (Int×Value)):Prop:=∀ e∈es,∃ k a,k∈ks∧e.2=.ref a∧TK prog w h k a
theorem iM {t:SetTable} {n:Nat} (T:Tb t n):t.fits n=true:=by
 unfold NA NB
 rw [T.size,T.dm]
 simp [T.room]
theorem rH {S b:Addr} {o:Obj} {es:Array (Int×Value)} {ep:Nat} {t:SetTable} {ks:List (List Str)} {k:List Str} {h:Int} {adding:Bool} {Q:SetFound→Shared→Prop} (hu:A.units < cLine)
 (ho:s.heap.get? S=some o) (hd:o.data=.set es ep t) (T:Tb t es.size) (hm:t.mask % 2=1) (hE:Ent prog w s.heap ks es.toList) (hx:TK prog w s.heap k b) (hk:k ∉ ks) :
 ∀ (N fuel:Nat) (st:Option Probe),(∀ p,st=some p→Vp t p)→N < fuel→t.slot (advN t N (st.getD (t.probeStart h))).j=.empty→(∀ m,m < N→t.slot (advN t m (st.getD (t.probeStart h))).j≠.empty)→N < 10 * Md t.mask →
  (∀ j,Q (.free j false) s)→l_ (o_ prog w) A (KM S (.ref b) h adding fuel st) Q E s:=by
 intro N
 induction N using Nat.strongRecOn with
 | _ N ih =>
  intro fuel st hv hf he hn hN hQ
  cases fuel with
  | zero=>exact absurd hf (IS _)
  | succ fuel =>
   have hfit:=iM T
   have v:Vp t (st.getD (t.probeStart h)):=by
    cases st with
    | none=>exact rD h
    | some p=>exact hv p rfl
   unfold KM
   refine b_ (F5 ho hd hfit ?_)
   dsimp only
   have hgw:t.gaveWay=false:=by unfold SetTable.gaveWay; rw [hm]; rfl
   rw [hgw]
   simp only [on,if_false]
   unfold SetTable.probe
   rcases vH T _ h N _ (st.getD (t.probeStart h)) v hN he hn with q | ⟨m,i,hmN,q1,q2,q3,q5⟩
   · rw [q]
     dsimp only
     exact c_ (hQ _)
   · rw [q5]
     dsimp only
     have hi:i < es.size:=by
      have:=(Gm.mp q2).1
      rw [T.size] at this
      exact this
     obtain ⟨k',a,hk',ea,ta⟩:=hE es[i] (HG.mpr (Array.getElem_mem hi))
     have hg:es[i]?=some (es[i].1,.ref a):=by rw [Array.getElem?_eq_getElem hi,← ea]
     have cz:l_ (o_ prog w) A (do
      let some (_,y):=es[i]? | Ly "internal:set-entry"
      let equal ← Nf [y] (eqBool y (.ref b))
      let (es',_,t') ← setState S
      if (adding && equal)=true then return SetFound.there none
      let some same:=t'.sameMemory t.moves t.mask | Ly "set.changed-during-lookup:is-the-new-block-at-the-old-address"
      let still ← match (if same then t'.slot (advN t m (st.getD (t.probeStart h))).j else .empty) with
       | .live i'=>match es'[i']? with
        | some (_,y')=>do pure (if ← isSame y' y then some i' else none)
        | none=>pure none
       | _=>pure none
      match still with
      | none=>rule "set.search.anew"; KM S (.ref b) h adding fuel none
      | some i'=>if equal then return .there (some i') else KM S (.ref b) h adding fuel (some (advN t (m + 1) (st.getD (t.probeStart h))))) Q E s:=by
      rw [hg]
      dsimp only
      refine b_ (Gb (wpAny_eqBool_tuple hu ta hx ?_))
      have hne:decide (k'=k)=false:=decide_eq_false fun z=>hk (z ▸ hk')
      rw [hne]
      refine b_ (F5 ho hd hfit ?_)
      dsimp only
      rw [Bool.and_false]
      simp only [on,if_false]
      have hsm:t.sameMemory t.moves t.mask=some true:=by unfold SetTable.sameMemory; simp
      rw [hsm]
      dsimp only
      rw [if_pos rfl,q1]
      dsimp only
      rw [hg]
      dsimp only
      have hsame:isSame (s_ a) (s_ a)=pure true:=by
       unfold isSame
       dsimp only
       rw [if_pos (by simp)]
      rw [hsame]
      refine b_ (b_ (c_ (c_ ?_)))
      rw [if_pos rfl]
      refine ih (N - (m + 1)) (by omega) fuel (some (advN t (m + 1) (st.getD (t.probeStart h)))) (fun p hp=>by cases hp; exact Vp.advN (m + 1) v) (by omega) ?_ ?_ (by omega) hQ
      · show t.slot (advN t (N - (m + 1)) (advN t (m + 1) (st.getD (t.probeStart h)))).j=.empty
        rw [← fX,show m + 1 + (N - (m + 1))=N by omega]
        exact he
      · intro x hx'
        show t.slot (advN t x (advN t (m + 1) (st.getD (t.probeStart h)))).j≠.empty
        rw [← fX]
        exact hn _ (by omega)
     by_cases hled:t.led=true
     · rw [hled]
       simp only [IP,on,if_false]
       exact cz
     · have hled':t.led=false:=by simpa using hled
       rw [hled']
       simp only [JA,if_true]
       refine b_ (As hx (fun v hv=>?_) ?_)
       · obtain ⟨e,he',rfl⟩:=C_.mp hv
         have hem:e∈es.toList:=by
          have:=HG.mp he'
          rw [Array.mem_filter] at this
          exact HG.mpr this.1
         obtain ⟨k2,a2,_,e2,t2⟩:=hE e hem
         exact ⟨k2,a2,e2,t2⟩
       · simp only [on,if_false]
         exact cz
end
section
variable {prog:Program} {w:uk} {A:q_} {E:Value→Shared→Prop} {s:Shared}
abbrev byT (w:uk):Bool:=w.params.followText "set-order"
def SetT (prog:Program) (w:uk) (h:Heap) (S:Addr) (ks:List (List Str)) (vs:List Value) (n:Nat):Prop :=
 ∃ o es ep t,h.get? S=some o∧o.ExactSet∧o.data=.set es ep t∧es.size=n∧Tb t n∧((t.mask=7∧n≤4)∨(t.mask=31∧n≤18))∧Ent prog w h ks es.toList∧(es.toList.map (·.2)).Perm vs∧t.led=(!byT w)∧((∀ k∈ks,k≠[])→n≠0→t.plain=false)
theorem mP {k:List Str} {a:Addr} {Q:Bool→Shared→Prop} (hk:TK prog w s.heap k a) (h:∀ b,(k≠[]→b=false)→Q b s):l_ (o_ prog w) A (hashByValue 8 (.ref a)) Q E s:=by
 have hT:=hk.typeIs
 obtain ⟨o,items,n,ho,_,hd,hi⟩:=hk
 have h0:items.toList=[]→k=[]:=fun e=>by
  rw [e] at hi
  cases hi
  rfl
 unfold hashByValue
 refine b_ (wpAny_specialOf hT F.slot_tuple_hash.lookup ?_)
 dsimp only
 refine b_ (Kj ho hd ?_)
 refine b_ ?_
 show l_ _ _ (NH items _ _) _ _ s
 rw [← Ja]
 refine JH _ (fun cz r s'=>r.1=none∧s'=s∧(∀ v∈cz,∃ x t,v=GG x t)∧(cz=[]→k=[])) _ ?_ ?_ _ _ ⟨rfl,rfl,lu hi,h0⟩
 · rintro v cz r s' ⟨hr,rfl,hall,_⟩
   obtain ⟨x,t,rfl⟩:=hall v g_
   refine b_ (c_ ?_)
   simp only [JA,if_true]
   refine c_ ?_
   exact c_ (h _ fun _=>rfl)
 · rintro ⟨r1,r2⟩ s' ⟨hr,rfl,_,h1⟩
   simp only at hr
   subst hr
   exact c_ (h _ fun z=>absurd (h1 rfl) z)
theorem TK.keeps {h h':Heap} {k:List Str} {a S:Addr} {o:Obj} {es ep t} (x:TK prog w h k a) (ho:h.get? S=some o) (hd:o.data=.set es ep t) (hs:Ib S h h'):TK prog w h' k a:=by
 obtain ⟨o',items,n,ho',hc,hd',hi⟩:=x
 have hne:a≠S:=by
  rintro rfl
  obtain rfl:o'=o:=FU (ho'.symm.trans ho)
  rw [hd] at hd'; exact nomatch hd'
 exact ⟨o',items,n,(hs.2 a hne).trans ho',hc,hd',hi⟩
theorem Ent.keeps {h h':Heap} {ks:List (List Str)} {l:List (Int×Value)} {S:Addr} {o:Obj} {es ep t} (x:Ent prog w h ks l) (ho:h.get? S=some o) (hd:o.data=.set es ep t) (hs:Ib S h h'):Ent prog w h' ks l:=fun e he=>by
 obtain ⟨k,a,h1,h2,h3⟩:=x e he
 exact ⟨k,a,h1,h2,h3.keeps ho hd hs⟩
theorem lv {h:Heap} {S:Addr} {o:Obj} {es es':Array (Int×Value)} {ep:Nat} {t t':SetTable} (ho:h.get? S=some o) (hd:o.data=.set es ep t):(h.update S (HK es' t')).get? S=some { o with data:=.set es' (ep + 1) t' }:=by
 have:=Hs (HK es' t') ho (by rw [KQ es' t' hd]; rfl)
 rw [KQ es' t' hd] at this; exact this
theorem Ent.insert {h:Heap} {ks:List (List Str)} {es:Array (Int×Value)} {k:List Str} {b:Addr} {p:Nat} {x:Int} (hE:Ent prog w h ks es.toList) (hb:TK prog w h k b):Ent prog w h (k :: ks) (A_ es p (x,.ref b)).toList:=fun e he=>by
 have he':=(Ld es p (x,s_ b)).mem_iff.mp he
 rw [JB] at he'
 rcases Gj.mp he' with q | q
 · obtain ⟨k',a,h1,h2,h3⟩:=hE e q
   exact ⟨k',a,ge _ h1,h2,h3⟩
 · rw [Gs] at q
   subst q
   exact ⟨k,b,g_,rfl,hb⟩
theorem rJ {t:SetTable} {n:Nat} (T:Tb t n):t.fill=n:=by unfold NB; rw [T.size,T.dm]; simp
theorem jE {n:Nat} (h:n≤18):n≤sizeLine:=by rw [Jc]; omega
theorem uD {α:Type} (es:Array α):(f_ es.size).filterMap (fun i=>es[i]?)=es.toList:=by
 apply Jy
 intro i
 have:(f_ es.size).filterMap (fun i=>es[i]?)=(f_ es.size).pmap (fun i h=>es[i]) (fun i h=>Gw.mp h):=by
  rw [List.pmap_eq_map_attach,← List.filterMap_eq_map]
  conv=>lhs; rw [← List.attach_map_subtype_val (f_ es.size)]
  rw [Kx]
  congr 1
  funext ⟨i,hi⟩
  simp [Gw.mp hi]
 rw [this]
 simp [List.getElem?_pmap,GX]
 by_cases hi:i < es.size
 · simp [hi]
 · simp [hi]
theorem xi {m finger moves:Nat} {led plain:Bool} {hs:Array Int} {t:SetTable} {order:Array Nat} (e:laid m finger moves led plain hs=some (t,order)):t.led=led∧t.plain=plain:=by
 unfold laid at e
 cases hc:Nu m hs with
 | none=>rw [hc] at e; cases e
 | some o=>rw [hc] at e; cases e; exact ⟨rfl,rfl⟩
theorem At {S b:Addr} {ks:List (List Str)} {vs:List Value} {n:Nat} {k:List Str} {Q:Bool→Shared→Prop} (hu:A.units < cLine) (hS:SetT prog w s.heap S ks vs n) (hx:TK prog w s.heap k b) (hk:k ∉ ks) (hn:n + 1≤18)
 (h:∀ h',Ib S s.heap h'→SetT prog w h' S (k :: ks) (.ref b :: vs) (n + 1)→Q true { s with heap:=h' }):l_ (o_ prog w) A (K9 S (.ref b) (hsh prog w k)) Q E s:=by
 obtain ⟨o,es,ep,t,ho,hex,hd,hsz,T,hm,hE,hpm,hled,hpl0⟩:=hS
 have hfit:=iM T
 have hfit':t.fits es.size=true:=by rw [hsz]; exact hfit
 have hodd:t.mask % 2=1:=by rcases hm with ⟨e,_⟩ | ⟨e,_⟩ <;> rw [e]
 have hroom:n + 1≤t.mask:=by rcases hm with ⟨e,q⟩ | ⟨e,q⟩ <;> omega
 unfold K9 Lz
 refine Gb (b_ (F5 ho hd hfit' ?_))
 dsimp only
 have hbs:byScan (s_ b) es=false:=by unfold byScan; rfl
 rw [hbs]
 simp only [on,if_false]
 unfold setSearch
 obtain ⟨N,h1,h2,h3⟩:=Aq T (rD (t:=t) (hsh prog w k))
 have hmk:t.mask≤31:=by rcases hm with ⟨e,_⟩ | ⟨e,_⟩ <;> omega
 refine b_ (rH (ks:=ks) hu ho hd (by rw [hsz]; exact T) hodd hE hx hk N 100000 none (fun p hp=>by cases hp) (by unfold Md at h1; omega) h2 h3 h1 fun j=>?_)
 dsimp only
 refine b_ (F5 ho hd hfit' ?_)
 dsimp only
 obtain ⟨P1,P2,P3,P4,P5⟩:=Ar T hroom j
 have hpm1:((A_ es (t.put j).2 (hsh prog w k,s_ b)).toList.map (·.2)).Perm (.ref b :: vs):=by
  refine ((Ld es (t.put j).2 (hsh prog w k,s_ b)).map (·.2)).trans ?_
  rw [JB,G0]
  exact (hpm.append_right _).trans (IA _ _)
 have go:∀ bv:Bool,((∀ x∈k :: ks,x≠[])→(if bv then (t.put j).1 else { (t.put j).1 with plain:=false }).plain=false)→l_ (o_ prog w) A (do
  Nk S (A_ es (t.put j).2 (hsh prog w k,.ref b)) (if bv then (t.put j).1 else { (t.put j).1 with plain:=false })
  if (!false && (if bv then (t.put j).1 else { (t.put j).1 with plain:=false }).tooFull)=true then setRelay S (GV (es.size + 1))
  return true) Q E s:=by
  intro bv hbv
  have T2:∃ t2,(if bv then (t.put j).1 else { (t.put j).1 with plain:=false })=t2∧Tb t2 (n + 1)∧t2.mask=t.mask∧t2.led=t.led:=by
   cases bv with
   | true=>exact ⟨_,rfl,P1,P3,rfl⟩
   | false=>exact ⟨_,rfl,⟨P1.size,P1.dm,P1.cyc,P1.room⟩,P3,rfl⟩
  obtain ⟨t2,e2,T2,M2,L2⟩:=T2
  rw [e2] at hbv ⊢
  have hsz2:(A_ es (t.put j).2 (hsh prog w k,s_ b)).size=n + 1:=by
   rw [fY _ _ _ (by rw [hsz]; exact P2),hsz]
  refine b_ (Jk ho hd ?_ (by rw [hsz2]; exact jE hn))
  have hsb:=IH s.heap S (HK (A_ es (t.put j).2 (hsh prog w k,s_ b)) t2)
  have hg:=lv (es':=A_ es (t.put j).2 (hsh prog w k,s_ b)) (t':=t2) ho hd
  have hE2:Ent prog w (s.heap.update S (HK (A_ es (t.put j).2 (hsh prog w k,s_ b)) t2)) (k :: ks) (A_ es (t.put j).2 (hsh prog w k,s_ b)).toList:=(hE.insert hx).keeps ho hd hsb
  by_cases hf:t2.tooFull=true
  · rw [hf]
    simp only [JA,Bool.and_self,if_true]
    have hfl:t2.fill * 5 ≥ t2.mask * 3:=by unfold MS at hf; simpa using hf
    rw [rJ T2,M2] at hfl
    have h5:n + 1=5∧t.mask=7:=by rcases hm with ⟨e,q⟩ | ⟨e,q⟩ <;> rw [e] at hfl <;> omega
    have hn4:n=4:=by omega
    unfold setRelay
    refine b_ (b_ (F5 hg rfl (by rw [hsz2]; exact iM T2) ?_))
    dsimp only
    rw [hsz,hn4]
    rw [if_neg (by rw [Jc]; decide)]
    have hrl:t2.relaid ((A_ es (t.put j).2 (hsh prog w k,s_ b)).map (·.1)) (GV (4 + 1))=laid 31 t2.finger (t2.movedTo 31) t2.led t2.plain ((A_ es (t.put j).2 (hsh prog w k,s_ b)).map (·.1)):=by
     unfold SetTable.relaid
     rw [show sizeAbove (GV (4 + 1)) - 1=31 by decide]
    obtain ⟨t3,order,r1,r2,r3,r4,r5,r6,r7⟩:=xh (finger:=t2.finger) (moves:=t2.movedTo 31) (led:=t2.led) (plain:=t2.plain) Dg ((A_ es (t.put j).2 (hsh prog w k,s_ b)).map (·.1)) (by rw [Hr,hsz2]; omega)
    have r8:t3.led=t2.led∧t3.plain=t2.plain:=xi r1
    rw [hrl,r1]
    rw [Hr,hsz2] at r6 r7
    have hperm:(order.filterMap (fun i=>(A_ es (t.put j).2 (hsh prog w k,s_ b))[i]?)).toList.Perm (A_ es (t.put j).2 (hsh prog w k,s_ b)).toList:=by
     rw [Array.toList_filterMap]
     refine (r7.filterMap _).trans ?_
     rw [← hsz2,uD]
    have hsz3:(order.filterMap (fun i=>(A_ es (t.put j).2 (hsh prog w k,s_ b))[i]?)).size=n + 1:=by
     rw [← Gi,hperm.length_eq,Gi,hsz2]
    show l_ (o_ prog w) A ((if ((order.filterMap (fun i=>(A_ es (t.put j).2 (hsh prog w k,s_ b))[i]?)).size != (A_ es (t.put j).2 (hsh prog w k,s_ b)).size)=true then (Ly "internal:set-table-lost-an-element":Sem _) else pure (order.filterMap (fun i=>(A_ es (t.put j).2 (hsh prog w k,s_ b))[i]?),t3)) >>= fun x=>Nk S x.1 x.2) _ _ _
    rw [if_neg (by rw [hsz3,hsz2]; simp)]
    refine b_ (c_ ?_)
    refine Jk hg rfl ?_ (by rw [hsz3]; exact jE hn)
    have hsb2:=IH (s.heap.update S (HK (A_ es (t.put j).2 (hsh prog w k,s_ b)) t2)) S (HK (order.filterMap (fun i=>(A_ es (t.put j).2 (hsh prog w k,s_ b))[i]?)) t3)
    refine c_ (h _ (hsb.trans hsb2) ⟨_,_,_,t3,lv hg rfl,hex,rfl,hsz3,r6,.inr ⟨r2,hn⟩,?_,(hperm.map (·.2)).trans hpm1,r8.1.trans (L2.trans hled),fun z _=>r8.2.trans (hbv z)⟩)
    have hE3:=hE2.keeps hg rfl hsb2
    exact fun e he=>hE3 e (hperm.mem_iff.mp he)
  · have hf':t2.tooFull=false:=by simpa using hf
    rw [hf']
    simp only [JA,Bool.and_false,on,if_false]
    have hfl:¬ (t2.fill * 5 ≥ t2.mask * 3):=by unfold MS at hf'; simpa using hf'
    rw [rJ T2,M2] at hfl
    refine c_ (h _ hsb ⟨_,_,_,t2,hg,hex,rfl,hsz2,T2,?_,hE2,hpm1,L2.trans hled,fun z _=>hbv z⟩)
    rw [M2]
    rcases hm with ⟨e,q⟩ | ⟨e,q⟩
    · exact .inl ⟨e,by omega⟩
    · exact .inr ⟨e,hn⟩
 cases hpl:(t.put j).1.plain with
 | true =>
  simp only [if_true]
  refine b_ (mP hx fun bv hb=>?_)
  refine go bv fun z=>?_
  rw [hb (z k g_)]
  rfl
 | false =>
  simp only [on,if_false]
  refine b_ (c_ ?_)
  exact go true fun _=>hpl
end
end ST
namespace ST
open PySem PySem.SetTable PyProof.Rows
section
variable {prog:Program} {w:uk} {A:q_} {R:LK→Shared→Prop} {I:Addr} {fp wr:List Addr} {G:Array Kp→Array Kp→Prop} {n:Nat} {P:Nat→Value→Prop} {St:Nat→Shared→Prop}
theorem TK.moved {h h':Heap} {k:List Str} {a:Addr} (x:TK prog w h k a) (hm:∀ o,h.get? a=some o→h'.get? a=some o):TK prog w h' k a:=by
 obtain ⟨o',items,n,ho',hc,hd',hi⟩:=x
 exact ⟨o',items,n,hm _ ho',hc,hd',hi⟩
theorem SetT.moved {h h':Heap} {S:Addr} {ks:List (List Str)} {vs:List Value} {n:Nat} (x:SetT prog w h S ks vs n) (hS:∀ o,h.get? S=some o→h'.get? S=some o) (hm:∀ k∈ks,∀ a,TK prog w h k a→TK prog w h' k a):SetT prog w h' S ks vs n:=by
 obtain ⟨o,es,ep,t,ho,hex,hd,hsz,T,hmk,hE,hr⟩:=x
 exact ⟨o,es,ep,t,hS _ ho,hex,hd,hsz,T,hmk,fun e he=>let ⟨k,a,h1,h2,h3⟩:=hE e he; ⟨k,a,h1,h2,hm k h1 a h3⟩,hr⟩
theorem Di (W:WalksS prog w A.in1 I fp wr G n P St) (S:Addr) (hSf:S ∉ fp) (hu:A.in1.units < cLine) (hwr:wr=[I]) (hI:∀ i s,St i s→∃ o vs,s.heap.get? I=some o∧o.data=.fields vs)
 (adr:Nat→Addr) (key:Nat→List Str) (hval:∀ i v,P i v→v=.ref (adr i)) (hn:n≤18) (hdist:∀ i j,i < n→j < n→key i=key j→i=j) :
 ∀ (k i:Nat) (s:Shared),n - i=k→i≤n→St i s→(∀ j,j < n→TK prog w s.heap (key j) (adr j)) →
  SetT prog w s.heap S (((f_ i).map key).reverse) (((f_ i).map fun j=>s_ (adr j)).reverse) i →
  (∀ s',Moved (S :: wr) G s s'→SetT prog w s'.heap S (((f_ n).map key).reverse) (((f_ n).map fun j=>s_ (adr j)).reverse) n→R (.ok (.ret .none)) s') →
  HZ (o_ prog w) A (.builtin "set.update.loop" ⟨[.ref S,.ref I],[]⟩) R s:=by
 have hSw:S ∉ wr:=fun h=>hSf (W.sub _ h)
 have hsub:∀ b∈wr,b∈S :: wr:=fun b hb=>ge _ hb
 have notI:∀ {i:Nat} {s:Shared} {k:List Str} {a:Addr},St i s→TK prog w s.heap k a→a ∉ wr:=fun {i s k a} hst x hm=>by
  rw [hwr,Gs] at hm
  subst hm
  obtain ⟨o',items,n,ho',hc,hd',hi⟩:=x
  obtain ⟨o,vs,ho,hd⟩:=hI _ _ hst
  rw [ho] at ho'
  cases ho'
  rw [hd] at hd'
  cases hd'
 intro k
 induction k with
 | zero =>
  intro i s hk hi hst hT hS hR
  have hin:i=n:=by omega
  subst hin
  refine Gv HW ?_
  rw [GP GQ _]
  show l_ _ A.in1 (Jn (.ref I) >>= _) _ _ s
  refine b_ (W.done s _ _ hst fun s' hm=>?_)
  show l_ _ A.in1 (ret FB) _ _ s'
  exact c_ (hR s' (hm.mono hsub) (hS.moved (fun o ho=>hm.heap S _ hSw ho) fun k' _ a x=>x.moved fun o ho=>hm.heap a _ (notI hst x) ho))
 | succ k ih =>
  intro i s hk hi hst hT hS hR
  have hlt:i < n:=by omega
  refine Gv HW ?_
  rw [GP GQ _]
  show l_ _ A.in1 (Jn (.ref I) >>= _) _ _ s
  refine b_ (W.item i s _ _ hlt hst fun v s' hP hst' hm=>?_)
  have hv:=hval i v hP
  subst hv
  have hT':∀ j,j < n→TK prog w s'.heap (key j) (adr j):=fun j hj=>(hT j hj).moved fun o ho=>hm.heap _ _ (notI hst (hT j hj)) ho
  have hS':SetT prog w s'.heap S (((f_ i).map key).reverse) (((f_ i).map fun j=>s_ (adr j)).reverse) i:=hS.moved (fun o ho=>hm.heap S _ hSw ho) fun k' _ a x=>x.moved fun o ho=>hm.heap a _ (notI hst x) ho
  show l_ _ A.in1 (Nf [s_ (adr i)] (setAdd S (.ref (adr i))) >>= _) _ _ s'
  refine b_ (Gb ?_)
  unfold setAdd
  refine Gb ?_
  refine b_ (wpAny_pyHash_tuple hu (hT' i hlt) ?_)
  have hnew:key i ∉ ((f_ i).map key).reverse:=fun hm=>by
   rw [MY] at hm
   obtain ⟨j,hj,e⟩:=C_.mp hm
   have hj':=Gw.mp hj
   have:=hdist j i (by omega) hlt e
   omega
  refine At (s:={ s' with toks:=s'.toks + ((key i).length + 1) }) hu hS' (hT' i hlt) hnew (by omega) fun h' hsb hS2=>?_
  obtain ⟨oS,esS,epS,tS,hoS,_,hdS,_⟩:=hS'
  have hS3:SetT prog w h' S (((f_ (i + 1)).map key).reverse) (((f_ (i + 1)).map fun j=>s_ (adr j)).reverse) (i + 1):=by
   rw [Lq,G0,L_,G0,L_]
   exact hS2
  refine c_ ⟨JN GQ _,ih (i + 1) _ (by omega) hlt (W.frame _ s' _ _ hst' (by simp) fun b hb o e=>?_) (fun j hj=>(hT' j hj).keeps hoS hdS hsb) hS3 fun s'' hm'' hS''=>?_⟩
  · rw [hsb.2 b (fun h:b=S=>hSf (by rw [← h]; exact hb))]; exact e
  · refine hR s'' (Moved.trans W.gtrans ((hm.mono hsub).then_heap (by simp) fun b o hb e=>?_) hm'') hS''
    rw [hsb.2 b (fun h:b=S=>hb (by rw [h]; exact g_))]; exact e
end
section
variable {prog:Program} {w:uk} {A:q_} {E:Value→Shared→Prop} {s:Shared}
abbrev dO (led:Bool):Obj:={ cls:=.type "set",dict:=none,data:=.set #[] 0 (.fresh 0 0 led) }
theorem xj {h:Heap} {S:Addr} (e:h.get? S=some (dO (!byT w))):SetT prog w h S [] [] 0 :=
 ⟨_,#[],0,_,e,⟨rfl,rfl,rfl⟩,rfl,rfl,⟨rfl,rfl,EY,FN _⟩,.inl ⟨rfl,by omega⟩,(fun e he=>by simp at he),.refl _,rfl,fun _ z=>absurd rfl z⟩
theorem mQ (a:Value) {Q₁:Value→Shared→Prop} (h:Q₁ (.ref s.heap.objs.size) { s with heap:=s.heap.push (dO (!byT w)) }):HZ (o_ prog w) A (.call (.builtin "set.__new__") ⟨[.type "set",a],[]⟩) (wants Q₁ E) s:=by
 refine JZ ?_; show l_ _ A.in1 (do checkBuiltinCall "set.__new__" ⟨[.type "set",a],[]⟩; Np (.builtin "set.__new__" ⟨[.type "set",a],[]⟩)) _ _ s
 refine b_ (HY (F.newCall_set_1 a) (c_ ⟨JN F.plain_set_new _,Gv F.entry_set_new ?_⟩)); rw [GP F.plain_set_new _]
 unfold GL.«set.__new__» Nw; have hsub:=sub_set_self; obtain ⟨hp,g,d,tk,os⟩:=s
 dsimp only; wp_walk; refine HS (c_ ?_)
 dsimp only; simp only [newObj]; exact b_ (wpAny_alloc (c_ (c_ h)))
theorem Au {l:Addr} {items:Array Value} {key:Nat→List Str} {adr:Nat→Addr} {R:LK→Shared→Prop} (hh:A.handled=none) (hu:A.units + 8 < cLine) (hl:s.heap.IsList l items)
 (hk:∀ i,i < items.size→items[i]?=some (.ref (adr i))∧TK prog w s.heap (key i) (adr i)) (hn:items.size≤18) (hdist:∀ i j,i < items.size→j < items.size→key i=key j→i=j)
 (hR:∀ (h':Heap) (tk:Nat),SetT prog w h' s.heap.objs.size (((f_ items.size).map key).reverse) (((f_ items.size).map fun j=>s_ (adr j)).reverse) items.size→(∀ b o,b < s.heap.objs.size→s.heap.get? b=some o→h'.get? b=some o)→R (.ok (.ret .none)) { s with heap:=h',toks:=tk }) :
 HZ (o_ prog w) A (.call (.builtin "set.__init__") ⟨[.ref s.heap.objs.size,.ref l],[]⟩) R { s with heap:=s.heap.push (dO (!byT w)) }:=by
 have hS:(s.heap.push (dO (!byT w))).get? s.heap.objs.size=some (dO (!byT w)):=h_ _ rfl
 have hT:HI { s with heap:=s.heap.push (dO (!byT w)) } (.ref s.heap.objs.size) "set":=⟨_,hS,rfl⟩
 refine JS FF.init.plain K1 (KT hT ?_)
 obtain ⟨ol,hol,hcl,nl,hdl⟩:=hl
 obtain ⟨ocls,odict,odata,oslots⟩:=ol
 simp only at hcl hdl
 subst hcl; subst hdl
 have hol':(s.heap.push (dO (!byT w))).get? l=some { cls:=.type "list",dict:=odict,data:=.seq items nl,slots:=oslots }:=d_ _ hol
 have s1:=F.sub_list_set
 have s2:=LM
 have s3:(r_ "list" == r_ "dict")=false:=by decide
 have hl1:(s.heap.push (dO (!byT w))).IsList l items:=⟨_,hol',rfl,nl,rfl⟩
 unfold GL.«set.__init__» noKeywords Ik
 generalize hPI:Mj=PI
 wp_walk
 subst hPI
 refine Jm hl1 (b_ (Jl ?_))
 have hlS:l < s.heap.objs.size:=m_ hol
 have hneI:l≠(s.heap.push (dO (!byT w))).objs.size:=by rw [z_]; exact n_ (w_ hlS)
 have hSf:s.heap.objs.size ∉ [(s.heap.push (dO (!byT w))).objs.size,l]:=by
  rw [z_]
  simp only [p_,FP,or_false,not_or]
  exact ⟨n_ (GI _),Jw hlS⟩
 have up:∀ {k:List Str} {a:Addr},TK prog w s.heap k a→TK prog w ((s.heap.push (dO (!byT w))).push { cls:=.type "list_iterator",data:=.fields #[.ref l,.int 0 0] }) k a:=fun x=>x.moved fun o e=>d_ _ (d_ _ e)
 refine Di ((Nq (by simp [hh]) _ l hneI items).toS) s.heap.objs.size hSf (by show A.units + 1 + 1 < cLine; omega) rfl (fun i s' st=>by
  obtain ⟨⟨o,ho,_,hd⟩,_⟩:=st
  exact ⟨o,_,ho,hd⟩) adr key (fun i v hv=>?_) hn hdist (items.size - 0) 0 _ (by omega) (FN _) ⟨⟨_,h_ _ rfl,rfl,rfl⟩,(hl1.push _)⟩ (fun j hj=>up (hk j hj).2) ?_ ?_
 · have hi:i < items.size:=(Gm.mp hv).1
   have:=(hk i hi).1
   rw [this] at hv
   exact (FU hv).symm
 · exact xj (d_ _ hS)
 · intro s' hm hS'
   obtain ⟨h',g',d',tk',os'⟩:=s'
   have eg:g'=s.gens:=hm.gens
   have ed:d'=s.drawn:=hm.drawn
   have eo:os'=s.os:=hm.os
   subst eg; subst ed; subst eo
   show l_ _ _ _ _ _ _
   refine c_ ?_
   show l_ _ _ (ret FB) _ _ _
   refine c_ (hR h' tk' hS' fun b o hb e=>?_)
   have hb1:b≠s.heap.objs.size:=n_ hb
   have hb2:b≠(s.heap.push (dO (!byT w))).objs.size:=by rw [z_]; exact n_ (w_ hb)
   exact hm.heap b o (by simp only [p_,FP,or_false,not_or]; exact ⟨hb1,hb2⟩) (d_ _ (d_ _ e))
theorem call_set_T {l:Addr} {items:Array Value} {key:Nat→List Str} {adr:Nat→Addr} {Q:Value→Shared→Prop} (hh:A.handled=none) (hu:A.units + 16 < cLine) (hl:s.heap.IsList l items)
 (hk:∀ i,i < items.size→items[i]?=some (.ref (adr i))∧TK prog w s.heap (key i) (adr i)) (hn:items.size≤18) (hdist:∀ i j,i < items.size→j < items.size→key i=key j→i=j)
 (h:∀ (h':Heap) (tk:Nat),SetT prog w h' s.heap.objs.size (((f_ items.size).map key).reverse) (((f_ items.size).map fun j=>s_ (adr j)).reverse) items.size→(∀ b o,b < s.heap.objs.size→s.heap.get? b=some o→h'.get? b=some o)→Q (.ref s.heap.objs.size) { s with heap:=h',toks:=tk }) :
 l_ (o_ prog w) A (call (.type "set") [.ref l]) Q E s:=by
 obtain ⟨c,tl,hmro⟩:=FF.mro
 have hmade:=FF.made
 have hsub:=FF.sub
 refine K7 (JZ ?_)
 show l_ _ _ (callAny (.type "set") _) _ _ _
 refine c_ ⟨IY _ (by decide +kernel),Gv KC ?_⟩
 rw [Ku (JD "set" [.ref l] []) rfl]
 have h1:=FF.notType
 have h2:=FF.canCreate
 have hct:=KW (.ref l)
 repeat (any_goals (first | assumption | wp_step))
 refine G5 (mQ (.ref l) (E:=E) (Q₁:=fun obj s₁=>obj=.ref s.heap.objs.size∧s₁={ s with heap:=s.heap.push (dO (!byT w)) }) ⟨rfl,rfl⟩) fun r s₁ hr=>?_
 cases r with
 | error e=>exact hr
 | ok fl =>
  cases fl with
  | ret obj =>
   obtain ⟨rfl,rfl⟩:=hr
   have hT:HI { s with heap:=s.heap.push (dO (!byT w)) } (.ref s.heap.objs.size) "set":=⟨_,h_ _ rfl,rfl⟩
   have hli:=FF.init.lookup
   have hbi:=FF.init.bind (.ref s.heap.objs.size)
   repeat (any_goals (first | assumption | wp_step))
   refine G5 (Au (R:=wants (fun r s₂=>r=.none∧∃ h' tk,s₂={ s with heap:=h',toks:=tk }∧SetT prog w h' s.heap.objs.size (((f_ items.size).map key).reverse) (((f_ items.size).map fun j=>s_ (adr j)).reverse) items.size ∧
    (∀ b o,b < s.heap.objs.size→s.heap.get? b=some o→h'.get? b=some o)) E) (by simp [hh]) (by show A.units + 1 + 8 < cLine; omega) hl hk hn hdist fun h' tk q1 q2=>⟨rfl,h',tk,rfl,q1,q2⟩) fun r₂ s₂ hr₂=>?_
   cases r₂ with
   | error e=>exact hr₂
   | ok fl₂ =>
    cases fl₂ with
    | ret r =>
     obtain ⟨rfl,h',tk,rfl,hS',hk'⟩:=hr₂
     repeat (any_goals (first | assumption | wp_step))
     exact h _ _ hS' hk'
    | _=>exact hr₂.elim
  | _=>exact hr.elim
theorem len_T {S:Addr} {ks:List (List Str)} {vs:List Value} {n:Nat} {Q:Value→Shared→Prop} (hS:SetT prog w s.heap S ks vs n) (hn:n≤18) (h:∀ t tk,Q (.int n t) { s with toks:=tk }):l_ (o_ prog w) A (call (.builtin "len") [.ref S]) Q E s:=by
 obtain ⟨o,es,ep,t,ho,hex,hd,hsz,T,hm,hE,hr⟩:=hS
 subst hsz
 exact call_len_set ho hex hd (iM T) (Int.lt_of_le_of_lt (show ((es.size:Nat):Int)≤18 by omega) (by decide)) (h _ _)
end
end ST
namespace FD
open PySem PySem.Spec PyProof.Rows L2
def bh:List Dv→Option (List Str)
 | []=>some []
 | .str x :: r=>(bh r).map (x :: ·)
 | _=>none
def keysOf:List Dv→Option (List (List Str))
 | []=>some []
 | .tup ds :: r=>match bh ds,keysOf r with
  | some k,some ks=>some (k :: ks)
  | _,_=>none
 | _=>none
def iN:List Dv→Option (Rs Dv)
 | [.lst ds]=>match keysOf ds with
  | some ks=>if ks.Nodup∧ks.length≤18 then some (.ok (.int ks.length)) else none
  | none=>none
 | _=>none
section
variable {X:Cx} {pins:List (Addr×Obj)} {σ:L2.St} {H:Hp} {s:Shared}
theorem jF {prog:Program} {w:uk}:∀ {ds:List Dv} {k:List Str} {ys:List V} {its:List Value},bh ds=some k→Reps X.K H ds ys→Vals ys its→Nv (F1 prog w) k its
 | [],k,ys,its,h,r,v=>by
  cases h
  cases (show ys=[] from r)
  cases v
  exact .nil
 | .str x :: ds,k,ys,its,h,r,v=>by
  obtain ⟨y,us,rfl,r1,r2⟩:∃ v us,ys=v :: us∧Rep X.K H (.str x) v∧Reps X.K H ds us:=r
  cases (show y=.str x from r1)
  obtain ⟨k',h1,rfl⟩:=GH.mp (show (bh ds).map (x :: ·)=some k from h)
  cases v with
  | cons v1 v2 =>
   obtain ⟨t,rfl⟩:=v1
   exact .cons (by show Ir x (.str x t)=true; simp [Ir]) (jF h1 r2 v2)
 | .non :: ds,k,ys,its,h,r,v=>by cases h
 | .bl _ :: ds,k,ys,its,h,r,v=>by cases h
 | .int _ :: ds,k,ys,its,h,r,v=>by cases h
 | .tup _ :: ds,k,ys,its,h,r,v=>by cases h
 | .lst _ :: ds,k,ys,its,h,r,v=>by cases h
 | .scr _ :: ds,k,ys,its,h,r,v=>by cases h
 | .exn _ :: ds,k,ys,its,h,r,v=>by cases h
theorem Dj (I:Inv X pins σ H s) {ds:List Dv} {k:List Str} {v:V} {u:Value} (h:bh ds=some k) (r:Rep X.K H (.tup ds) v) (q:RelV v u):∃ a,u=.ref a∧ST.TK X.prog X.w s.heap k a:=by
 obtain ⟨a,xs,rfl,hH,rs⟩:=r.tupE
 cases (show u=s_ a from q)
 obtain ⟨its,rv,⟨o,e,c,n,d⟩,hz⟩:=I.tuple (SqT.of hH)
 exact ⟨a,rfl,o,its.toArray,_,e,c,d,by simpa using jF h rs rv⟩
theorem mR (I:Inv X pins σ H s):∀ {ds:List Dv} {ks:List (List Str)} {xs:List V} {its:List Value},keysOf ds=some ks→Reps X.K H ds xs→Vals xs its→ks.length=its.length∧∀ i,i < its.length→∃ a,its[i]?=some (.ref a)∧ST.TK X.prog X.w s.heap (ks.getD i []) a
 | [],ks,xs,its,h,r,v=>by
  cases h
  cases (show xs=[] from r)
  cases v
  exact ⟨rfl,fun i hi=>absurd hi (IS _)⟩
 | .tup es :: ds,ks,xs,its,h,r,v=>by
  obtain ⟨y,us,rfl,r1,r2⟩:∃ v us,xs=v :: us∧Rep X.K H (.tup es) v∧Reps X.K H ds us:=r
  unfold keysOf at h
  split at h
  · rename_i k ks' h1 h2
    cases h
    cases v with
    | cons v1 v2 =>
     obtain ⟨a,rfl,ta⟩:=Dj I h1 r1 v1
     obtain ⟨q1,q2⟩:=mR I h2 r2 v2
     refine ⟨by simp [q1],fun i hi=>?_⟩
     cases i with
     | zero=>exact ⟨a,rfl,ta⟩
     | succ i =>
      obtain ⟨a',e1,e2⟩:=q2 i (by simpa using hi)
      exact ⟨a',by simpa using e1,by simpa using e2⟩
  · cases h
 | .non :: ds,ks,xs,its,h,r,v=>by cases h
 | .bl _ :: ds,ks,xs,its,h,r,v=>by cases h
 | .int _ :: ds,ks,xs,its,h,r,v=>by cases h
 | .str _ :: ds,ks,xs,its,h,r,v=>by cases h
 | .lst _ :: ds,ks,xs,its,h,r,v=>by cases h
 | .scr _ :: ds,ks,xs,its,h,r,v=>by cases h
 | .exn _ :: ds,ks,xs,its,h,r,v=>by cases h
theorem jG {α:Type} {ks:List α} {d:α} (h:ks.Nodup) {i j:Nat} (hi:i < ks.length) (hj:j < ks.length) (e:ks.getD i d=ks.getD j d):i=j:=by
 rw [Hq,Hq,i_ hi,i_ hj] at e
 exact (M1 h).mp (by simpa using e)
end
section
variable {X:Cx} {p p2 pos pos2:Pos} {e:Expr} {ga:FnA}
theorem rK (hu:X.A.units + 64 < cLine) (hc:X.calm=true) (hg:Gl X "len") (hm:X.mg "len"=none) (hg2:Gl X "set") (hm2:X.mg "set"=none) (ha:FA X [e] ga)
 (he:e_ [.Call (.Name "set" p2) [e] [] pos2] X.env=(false,eval (.Call (.Name "set" p2) [e] [] pos2) X.env) :: e_ [] X.env:=by kernel_rfl) (hpl:(F0 pos (e_ [] X.env)).any (·.1)=false:=by kernel_rfl)
 (he2:e_ [e] X.env=(false,eval e X.env) :: e_ [] X.env:=by kernel_rfl) (hpl2:(F0 pos2 (e_ [] X.env)).any (·.1)=false:=by kernel_rfl) :
 FE X (.Call (.Name "len" p) [.Call (.Name "set" p2) [e] [] pos2] [] pos) (fB1 iN ga):=⟨fun pins s σ H Q I ⟨ρ,E,o⟩=>by
 refine Gr (cZ I hg hm Nm ?_ (by decide) (by decide))
 refine G3 ?_ he hpl
 rw [he]
 show l_ _ _ (Nd ((false,eval (.Call (.Name "set" p2) [e] [] pos2) X.env) :: F0 pos (e_ [] X.env))) _ _ s
 refine IZ ?_
 refine Gr (cZ I hg2 hm2 (u:=.type "set") (by decide +kernel) ?_ (by decide) (by decide))
 refine Ge (thn (ha.h pos2 pins s σ H _ I ⟨ρ,E,OutA.bind o fun ds vs H1 e1 rs o1=>(show ∃ ds,Reps X.K H1 ds vs∧Out X H1 (iN ds) Q from ⟨ds,rs,o1⟩)⟩) fun us s1 ⟨vs,H1,I1,r1,ds,rs,o1⟩=>?_) he2 hpl2
 unfold iN at o1
 split at o1
 · rename_i es
   obtain ⟨v,rfl,r⟩:=cM rs
   obtain ⟨l,xs,rfl,hl,rx⟩:=r.lstE
   obtain ⟨u,rfl,ru⟩:=dJ r1
   cases (show u=s_ l from ru)
   split at o1
   · rename_i ks hks
     split at o1
     · rename_i hnd
       obtain ⟨z,its,n,rv,hz,eh⟩:=I1.lstM hl
       obtain ⟨q1,q2⟩:=mR I1 hks rx rv
       have hsz:its.toArray.size=ks.length:=by simp [q1]
       refine ST.call_set_T (items:=its.toArray) (key:=fun i=>ks.getD i []) (adr:=fun i=>match its[i]? with | some (.ref a)=>a | _=>0) (I1.ok.hd hc) (by omega) ⟨_,eh,rfl,n,rfl⟩ (fun i hi=>?_) (by rw [hsz]; exact hnd.2) (fun i j hi hj eij=>?_) fun h' tk hS hkp=>?_
       · obtain ⟨a,e1,e2⟩:=q2 i (by simpa using hi)
         simp only [List.getElem?_toArray,e1]
         exact ⟨trivial,e2⟩
       · exact jG hnd.1 (by rw [← hsz]; exact hi) (by rw [← hsz]; exact hj) eij
       · refine Iw ?_
         refine ST.len_T hS (by rw [hsz]; exact hnd.2) fun t tk2=>⟨.int (ks.length:Nat),H1,?_,⟨t,by rw [hsz]⟩,o1 _ H1 (.refl H1) rfl⟩
         exact I1.kept (t':=tk2) fun b u q=>hkp b u (m_ q) q
     · exact o1.elim
   · exact o1.elim
 · exact o1.elim⟩
end
section
variable {X:Cx}
end
def frs {α:Type} (P:α→Bool):Sem α→Bool
 | .pure a=>P a
 | .fresh _=>true
 | .at _ k=>frs P (k ())
 | .rule _ k=>frs P (k ())
 | .point _ k=>frs P (k ())
 | _=>false
structure FE1 (X:Cx) (e:Expr) (f:FnE):Prop where
 h:∀ (pins:List (Addr×Obj)) (s:Shared) (σ:L2.St) (H:Hp) (Q:VK),1≤s.toks→Inv X pins σ H s→tF X f σ H Q→l_ (o_ X.prog X.w) X.A (eval e X.env) (EP X pins σ Q) X.xe s
structure FT1 (X:Cx) (e:Expr) (f:FnB):Prop where
 h:∀ (pins:List (Addr×Obj)) (s:Shared) (σ:L2.St) (H:Hp) (Q:Bool→Hp→Prop),1≤s.toks→Inv X pins σ H s→tT X f σ H Q→l_ (o_ X.prog X.w) X.A (isTrue e X.env (eval e X.env)) (TP X pins σ Q) X.xe s
structure FW1 (X:Cx) (e:Expr) (f:FnB):Prop where
 h:∀ (whole:Sem Value) (pins:List (Addr×Obj)) (s:Shared) (σ:L2.St) (H:Hp) (Q:Bool→Hp→Prop),1≤s.toks→Inv X pins σ H s→tT X f σ H Q→l_ (o_ X.prog X.w) X.A (isTrue e X.env whole) (TP X pins σ Q) X.xe s
structure FS1 (X:Cx) (st:Stmt) (f:FnS):Prop where
 h:∀ (pins:List (Addr×Obj)) (s:Shared) (σ:L2.St) (H:Hp) (D:pZ),1≤s.toks→Inv X pins σ H s→tS X f D σ H→l_ (o_ X.prog X.w) X.A (exec st X.env) (SP X pins D) X.xe s
structure Fw (X:Cx) (st:List Stmt) (f:FnS):Prop where
 h:∀ (pins:List (Addr×Obj)) (s:Shared) (σ:L2.St) (H:Hp) (D:pZ),1≤s.toks→Inv X pins σ H s→tS X f D σ H→l_ (o_ X.prog X.w) X.A (execs st X.env) (SP X pins D) X.xe s
structure FTg (X:Cx) (e:Expr) (f:FnB):Prop where
 h:∀ (pins:List (Addr×Obj)) (s:Shared) (σ:L2.St) (H:Hp) (Q:Bool→Hp→Prop),Inv X pins σ H s→tT X f σ H Q→l_ (o_ X.prog X.w) X.A (isTrue e X.env (eval e X.env)) (fun b s'=>(b=true∨1≤s'.toks)∧TP X pins σ Q b s') X.xe s
structure FWg (X:Cx) (e:Expr) (f:FnB):Prop where
 h:∀ (whole:Sem Value) (pins:List (Addr×Obj)) (s:Shared) (σ:L2.St) (H:Hp) (Q:Bool→Hp→Prop),Inv X pins σ H s→tT X f σ H Q→l_ (o_ X.prog X.w) X.A (isTrue e X.env whole) (fun b s'=>(b=true∨1≤s'.toks)∧TP X pins σ Q b s') X.xe s
def Av:Flow→Bool
 | .next=>true
 | _=>false
structure FSg (X:Cx) (st:Stmt) (f:FnS):Prop where
 h:∀ (pins:List (Addr×Obj)) (s:Shared) (σ:L2.St) (H:Hp) (D:pZ),Inv X pins σ H s→tS X f D σ H→l_ (o_ X.prog X.w) X.A (exec st X.env) (fun fl s'=>(Av fl=false∨1≤s'.toks)∧SP X pins D fl s') X.xe s
section
variable {X:Cx} {a b o e:Expr} {fa fo:FnE} {ga gb:FnB} {f g:FnS} {cz:List Expr} {st:Stmt} {sts as bs:List Stmt} {pos apos cpos:Pos}
theorem FWg.ft (h:FWg X e ga):FTg X e ga:=⟨h.h _⟩
end
section
variable {prog:Program} {w:uk} {A:q_} {E:Value→Shared→Prop} {s:Shared}
end
section
variable {prog:Program} {w:uk} {A:q_} {E:Value→Shared→Prop} {s:Shared}
end
structure ZSt (z TI TO i1 i2 a b:Addr) (i:Nat) (h:Heap):Prop where
 z:IsZip h z TI TO .none
 ti:IsPair h TI (.ref i1) (.ref i2)
 to:∃ p q,IsPair h TO p q
 j1:h.IsTupleIter i1 a i
 j2:h.IsTupleIter i2 b i
structure ZNe (z TI TO i1 i2:Addr):Prop where
 n1:TI≠z
 n2:TO≠z
 n3:i1≠z
 n4:i2≠z
 n5:TI≠TO
 n6:TI≠i1
 n7:TI≠i2
 n8:TO≠i1
 n9:TO≠i2
 n10:i1≠i2
theorem Fx {z TI TO i1 i2 c:Addr} (h:c∈[z,TI,TO,i1,i2]):c=z∨c=TI∨c=TO∨c=i1∨c=i2:=by simpa using h
def ig (b:Dv→Ev→Option Ev) (js:List Nat) (body:FnS):List Dv→Ev→Option Fl
 | [],ρ=>some (.nx (fgt js ρ))
 | d :: ds,ρ=>match b d (fgt js ρ) with
  | none=>none
  | some ρ1=>match body ρ1 with
   | some (.nx ρ')=>ig b js body ds ρ'
   | o=>o
def kb (b:Dv→Ev→Option Ev) (js:List Nat) (src:FnA) (body:FnS):FnS:=fun ρ=>cx (src ρ) fun ds=>ig b js body ds ρ
def tgG (X:Cx) (b:Dv→Ev→Option Ev):TG:=fun v σ H Q=>∃ d ρ ρ',Rep X.K H d v∧Envs X.K H σ ρ∧b d ρ=some ρ'∧∀ σ' H',Same H H'→Envs X.K H' σ' ρ'→Q σ' H'
theorem FG.pg {X:Cx} {tg:Expr} {b:Dv→Ev→Option Ev} (h:FG X tg b):PG X tg (tgG X b):=fun pins s σ H v u Q I r ⟨d,ρ,ρ',rd,E,e,q⟩ =>
 thn (h.h pins s σ H v u d ρ ρ' I r rd E e) fun _ s' ⟨σ',H',I',e1,E'⟩=>⟨σ',H',I',q σ' H' e1 E'⟩
theorem xl {X:Cx} {tg iter:Expr} {body:List Stmt} {pos:Pos} {src:FnA} {fb:FnS} {b:Dv→Ev→Option Ev} (js:List Nat) (hp:Kh (o_ X.prog X.w) X.A X.env X.xe) (hc:X.calm=true) (hi:FIG X tg iter src) (hg:FG X tg b) (hb:FSs X body fb)
 (hs:∀ x,FL iter X.env x=pure x:=by intro _; kernel_rfl):FS X (.For tg iter body [] pos) (kb b js src fb):=by
 refine mJ (qo hp hc hi.h hg.pg hb.h hs) fun D σ H ρ E o=>⟨ρ,E,?_⟩
 unfold kb at o
 match hf:src ρ,o with
 | none,o=>exact o
 | some (.exc c),o=>exact o
 | some (.ok ds),o =>
  intro J H1 e1 wk
  have o1:OutS X H1 (ig b js fb ds ρ) D:=OutS.mono e1 o
  refine ⟨fun n m σ' H'=>m=ds.length - n∧n≤ds.length∧Same H1 H'∧∃ ρ',Envs X.K H' σ' ρ'∧OutS X H' (ig b js fb (ds.drop n) ρ') D,⟨ds.length,by simp,FN _,.refl H1,ρ,E.mono e1,by simpa using o1⟩,?_⟩
  rintro n m σ' H' ⟨rfl,hn,e2,ρ',E',o'⟩
  by_cases hlt:n < ds.length
  · refine .inr ⟨wk.go n H' e2 hlt,fun σ2 H2=>Same H1 H2∧∃ ρ2,Envs X.K H2 σ2 ρ2∧OutS X H2 (ig b js fb (ds.drop (n + 1)) ρ2) D,fun σ2 H2 ⟨e3,ρ2,E2,o2⟩=>⟨ds.length - (n + 1),by omega,rfl,hlt,e3,ρ2,E2,o2⟩,fun x H2 y=>?_⟩
    obtain ⟨e4,d,hd,rd⟩:=wk.yld n H' x H2 e2 hlt y
    rw [fQ hd] at o'
    unfold ig at o'
    match hb0:b d (fgt js ρ') with
    | none=>rw [hb0] at o'; exact o'.elim
    | some ρ1 =>
     rw [hb0] at o'
     refine ⟨d,fgt js ρ',ρ1,rd,(Envs.fgt js E').mono e4,hb0,fun σ3 H3 e5 E3=>?_⟩
     show tS X fb _ _ _
     refine ⟨ρ1,E3,?_⟩
     have o2:=OutS.mono (e4.trans e5) o'
     dsimp only at o2
     match hb':fb ρ1 with
     | none=>rw [hb'] at o2; exact o2
     | some (.exc c)=>rw [hb'] at o2; exact o2
     | some (.rt r)=>rw [hb'] at o2; exact o2
     | some (.nx ρ2)=>rw [hb'] at o2; exact fun σ4 H4 e6 E4=>⟨((e2.trans e4).trans e5).trans e6,ρ2,E4,OutS.mono e6 o2⟩
  · have hn':n=ds.length:=by omega
    subst hn'
    rw [JL] at o'
    exact .inl ⟨wk.stop H' e2,o' σ' H' (.refl H') (Envs.fgt js E')⟩
section
variable {X:Cx} {p pos:Pos} {e:Expr} {es:List Expr} {ga:FnA}
end
theorem Reps.set {K:ck} {H:Hp} {d:Dv} {v:V} (rd:Rep K H d v):∀ {ds:List Dv} {vs:List V} (j:Nat),Reps K H ds vs→Reps K H (ds.set j d) (vs.set j v)
 | [],vs,j,r=>by cases (show vs=[] from r); exact r
 | d0 :: ds,vs,0,r=>by
  obtain ⟨v0,vs',rfl,r0,rt⟩:∃ v us',vs=v :: us'∧Rep K H d0 v∧Reps K H ds us':=r
  exact ⟨v,vs',rfl,rd,rt⟩
 | d0 :: ds,vs,j + 1,r=>by
  obtain ⟨v0,vs',rfl,r0,rt⟩:∃ v us',vs=v :: us'∧Rep K H d0 v∧Reps K H ds us':=r
  exact ⟨v0,vs'.set j v,rfl,r0,Reps.set rd j rt⟩
section
variable {X:Cx} {i:Nat} {e ix:Expr} {fe fi:FnE} {pos ps:Pos}
end
section
variable {X:Cx} {p pos:Pos} {e:Expr} {es:List Expr} {ga:FnA}
end
section
variable {X:Cx}
end
section
variable {X:Cx}
end
end FD
namespace ST
open PySem PySem.SetTable
abbrev Rise (xs:Array Nat):Prop:=xs.toList.Pairwise (· < ·)
theorem Rise.lt {xs:Array Nat} (R:Rise xs) {i k:Nat} (hi:i < xs.size) (hk:k < xs.size) (h:i < k):xs[i] < xs[k]:=by
 have:=Ky.mp R i k (by simpa using hi) (by simpa using hk) h
 simpa using this
theorem Rise.le {xs:Array Nat} (R:Rise xs) {i k:Nat} (hi:i < xs.size) (hk:k < xs.size) (h:i≤k):xs[i]≤xs[k]:=by
 rcases Nat.lt_or_ge i k with h' | h'
 · exact Hd (R.lt hi hk h')
 · have:i=k:=by omega
   subst this
   exact j_ _
def tm (m:Nat):SetTable:={ mask:=m,place:=#[],dummies:=#[],finger:=0,led:=true,moves:=0,plain:=true }
def pos (m:Nat) (h:Int) (n:Nat):Nat:=(advN (tm m) n ((tm m).probeStart h)).j
def Pth (m:Nat) (l:List Nat) (h:Int) (j:Nat):Prop:=∃ N,N < 10 * Md m∧pos m h N=j∧∀ x,x < N→pos m h x∈l
theorem Pth.mono {m:Nat} {l l':List Nat} {h:Int} {j:Nat} (p:Pth m l h j) (hs:∀ x∈l,x∈l'):Pth m l' h j:=by
 obtain ⟨N,h1,h2,h3⟩:=p
 exact ⟨N,h1,h2,fun x hx=>hs _ (h3 x hx)⟩
def asc (t:SetTable) (es:Array (Int×Value)):List (Nat×(Int×Value)):=t.place.toList.zip es.toList
def Pa (t:SetTable) (es:Array (Int×Value)):Prop:=∀ je∈asc t es,Pth t.mask t.place.toList je.2.1 je.1
section
variable {prog:Program} {w:uk} {A:q_} {E:Value→Shared→Prop} {s:Shared}
def SetD (prog:Program) (w:uk) (h:Heap) (S:Addr) (ks:List (List Str)) (n:Nat):Prop :=
 ∃ o es ep t,h.get? S=some o∧o.ExactSet∧o.data=.set es ep t∧es.size=n∧Tb t n∧((t.mask=7∧n≤4)∨(t.mask=31∧n≤18)∨(t.mask=127∧n≤20))∧Ent prog w h ks es.toList∧Rise t.place∧Pa t es∧∀ k∈ks,∃ a,(hsh prog w k,s_ a)∈es.toList∧TK prog w h k a
end
end ST
namespace ST
open PySem PySem.SetTable PyProof.Rows
def addK {α:Type} [DecidableEq α] (acc:List α) (k:α):List α:=if k∈acc then acc else k :: acc
def ddk {α:Type} [DecidableEq α] (ks:List α):List α:=ks.foldl addK []
theorem uE {α:Type} [DecidableEq α] (acc:List α) (k:α):(addK acc k).length≤acc.length + 1:=by unfold addK; split <;> simp
theorem fZ {α:Type} [DecidableEq α]:∀ (ks acc:List α),(ks.foldl addK acc).length≤acc.length + ks.length
 | [],acc=>j_ _
 | k :: ks,acc=>by
  have h1:=fZ ks (addK acc k)
  have h2:=uE acc k
  rw [Nb,Hh]
  omega
theorem ddk_le {α:Type} [DecidableEq α] (ks:List α):(ddk ks).length≤ks.length:=by
 have:=fZ ks []
 unfold ddk
 simpa using this
section
variable {prog:Program} {w:uk} {A:q_} {R:LK→Shared→Prop} {I:Addr} {fp wr:List Addr} {G:Array Kp→Array Kp→Prop} {n:Nat} {P:Nat→Value→Prop} {St:Nat→Shared→Prop}
theorem SetD.moved {h h':Heap} {S:Addr} {ks:List (List Str)} {n:Nat} (x:SetD prog w h S ks n) (hS:∀ o,h.get? S=some o→h'.get? S=some o) (hm:∀ k a,TK prog w h k a→TK prog w h' k a):SetD prog w h' S ks n:=by
 obtain ⟨o,es,ep,t,ho,hex,hd,hsz,T,hmk,hE,R,hP,hA⟩:=x
 exact ⟨o,es,ep,t,hS _ ho,hex,hd,hsz,T,hmk,fun e he=>let ⟨k,a,h1,h2,h3⟩:=hE e he; ⟨k,a,h1,h2,hm k a h3⟩,R,hP,fun k hk=>let ⟨a,q1,q2⟩:=hA k hk; ⟨a,q1,hm k a q2⟩⟩
end
section
variable {prog:Program} {w:uk} {A:q_} {E:Value→Shared→Prop} {s:Shared}
end
end ST
namespace FD
open PySem PySem.Spec PyProof.Rows L2
theorem range_getD {α:Type} (ks:List α) (d:α) (n:Nat) (h:n=ks.length):(f_ n).map (fun i=>ks.getD i d)=ks:=by
 subst h
 apply Jy
 intro i
 by_cases hi:i < ks.length
 · simp [hi]
 · simp [hi]
section
variable {X:Cx} {p p2 pos pos2:Pos} {e:Expr} {ga:FnA}
end
section
variable {prog:Program} {w:uk} {A:q_} {E:Value→Shared→Prop} {s:Shared}
end
section
variable {prog:Program} {w:uk} {A:q_} {E:Value→Shared→Prop} {s:Shared}
end
structure ZMt (z TI TO i1 i2 a b:Addr) (i:Nat) (h:Heap):Prop where
 z:IsZip h z TI TO .none
 ti:IsPair h TI (.ref i1) (.ref i2)
 to:∃ p q,IsPair h TO p q
 j1:h.IsTupleIter i1 a i
 j2:h.IsListIter i2 b i
def tC (X:Cx) (i:Nat) (fc:FnE):TS:=fun D σ H=>∃ ρ,Envs X.K H σ ρ∧match fc ρ with
 | none=>False
 | some (.exc c)=>XW X c H
 | some (.ok d)=>∃ ys,d=.lst ys∧∀ H5 p vs,Same H H5→H5 p=none→Reps X.K H5 ys vs→D.nx (σ.set i (some (.ref p))) (upd H5 p (.lst vs))
section
variable {X:Cx} {i:Nat} {st:Stmt} {sts:List Stmt} {f:jr} {fc:FnE}
theorem lx {n:Nat} {cs:List (Str×Nat)} {src:FnA} {b:Dv→Ev→Option Ev} {tst:Option FnB} {fe:FnE} (ρ:Ev) (d:Dv) (h:aK n cs src b tst fe ρ=some (.ok d)):∃ ys,d=.lst ys:=by
 rcases C5 h with ⟨c,e1,e2⟩ | ⟨ds,ys,e1,e2,l1,l2,e3⟩
 · cases e2
 · cases e3; exact ⟨ys,rfl⟩
end
def gH {α:Type} (le:α→α→Bool) (x:α):List α→List α
 | []=>[x]
 | y :: l=>if le x y then x :: y :: l else y :: gH le x l
def isortB {α:Type} (le:α→α→Bool):List α→List α
 | []=>[]
 | x :: l=>gH le x (isortB le l)
theorem gc {α:Type} (le:α→α→Bool) (x:α):∀ l:List α,(gH le x l).Perm (x :: l)
 | []=>.refl _
 | y :: l=>by
  unfold gH
  split
  · exact .refl _
  · exact ((gc le x l).cons y).trans (LY ..)
theorem isortB_perm {α:Type} (le:α→α→Bool):∀ l:List α,(isortB le l).Perm l
 | []=>.refl _
 | x :: l=>(gc le x _).trans ((isortB_perm le l).cons x)
structure Aw {α:Type} (le:α→α→Bool):Prop where
 t:∀ a b,le a b=false→le b a=true
 tr:∀ a b c,le a b=true→le b c=true→le a c=true
 an:∀ a b,le a b=true→le b a=true→a=b
theorem iO {α:Type} {le:α→α→Bool} (o:Aw le) (x:α):∀ l:List α,l.Pairwise (fun a b=>le a b=true)→(gH le x l).Pairwise (fun a b=>le a b=true)
 | [],_=>by simp [gH]
 | y :: l,h=>by
  unfold gH
  rw [FV] at h
  split
  · rename_i hc
    rw [FV,FV]
    refine ⟨fun z hz=>?_,h⟩
    rcases p_.mp hz with rfl | hz
    · exact hc
    · exact o.tr _ _ _ hc (h.1 z hz)
  · rename_i hc
    rw [FV]
    refine ⟨fun z hz=>?_,iO o x l h.2⟩
    rcases p_.mp ((gc le x l).mem_iff.mp hz) with rfl | hz
    · exact o.t _ _ (by simpa using hc)
    · exact h.1 z hz
theorem isortB_sorted {α:Type} {le:α→α→Bool} (o:Aw le):∀ l:List α,(isortB le l).Pairwise (fun a b=>le a b=true)
 | []=>Jz
 | x :: l=>iO o x _ (isortB_sorted o l)
theorem sorted_uniq {α:Type} {le:α→α→Bool} (o:Aw le):∀ {l m:List α},l.Perm m→l.Pairwise (fun a b=>le a b=true)→m.Pairwise (fun a b=>le a b=true)→l=m
 | [],m,hp,_,_=>(List.Perm.nil_eq hp)
 | x :: l,[],hp,_,_=>by simpa using hp.length_eq
 | x :: l,y :: m,hp,h1,h2=>by
  rw [FV] at h1 h2
  have e:x=y:=by
   have hx:x∈y :: m:=hp.mem_iff.mp g_
   have hy:y∈x :: l:=hp.mem_iff.mpr g_
   rcases p_.mp hx with e | hx
   · exact e
   · rcases p_.mp hy with e | hy
     · exact e.symm
     · exact o.an _ _ (h1.1 y hy) (h2.1 x hx)
  subst e
  rw [sorted_uniq o (hp.cons_inv) h1.2 h2.2]
def leI (a b:Int):Bool:=decide (a≤b)
def leS (a b:Str):Bool:=!decide (b.cps.toList < a.cps.toList)
theorem Er:Aw leI:=⟨fun a b h=>by simp [leI] at *; omega,fun a b c h h'=>by simp [leI] at *; omega,fun a b h h'=>by simp [leI] at *; omega⟩
theorem ordS:Aw leS where
 t:=fun a b h=>by
  simp only [leS,Ms,decide_eq_true_eq] at h
  simp only [leS,Go,decide_eq_false_iff_not]
  exact fun h'=>LW _ (Mg h h')
 tr:=fun a b c h h'=>by
  simp only [leS,Go,decide_eq_false_iff_not,LV] at *
  exact List.le_trans h h'
 an:=fun a b h h'=>by
  simp only [leS,Go,decide_eq_false_iff_not,LV] at *
  have e:a.cps.toList=b.cps.toList:=M0 h h'
  obtain ⟨⟨a⟩⟩:=a; obtain ⟨⟨b⟩⟩:=b
  simp at e
  rw [e]
def hX:List Dv→Option (List Int)
 | []=>some []
 | .int i :: r=>(hX r).map (i :: ·)
 | _=>none
def Ax:List Dv→Option (Rs Dv)
 | [.lst ds]=>match hX ds with
  | some ns=>if ns.length < 64 then some (.ok (.lst ((isortB leI ns).map Dv.int))) else none
  | none=>match bh ds with
   | some ss=>if ss.length < 64 then some (.ok (.lst ((isortB leS ss).map Dv.str))) else none
   | none=>none
 | _=>none
section
variable {X:Cx} {pins:List (Addr×Obj)} {σ:L2.St} {H:Hp} {s:Shared}
theorem kc {K:ck}:∀ {ds:List Dv} {ns:List Int} {ys:List V} {its:List Value},hX ds=some ns→Reps K H ds ys→Vals ys its→KG its ns
 | [],ns,ys,its,h,r,v=>by
  cases h
  cases (show ys=[] from r)
  cases v
  exact .nil
 | .int i :: ds,ns,ys,its,h,r,v=>by
  obtain ⟨y,us,rfl,r1,r2⟩:∃ v us,ys=v :: us∧Rep K H (.int i) v∧Reps K H ds us:=r
  cases (show y=.int i from r1)
  obtain ⟨k',h1,rfl⟩:=GH.mp (show (hX ds).map (i :: ·)=some ns from h)
  cases v with
  | cons v1 v2 =>
   obtain ⟨t,rfl⟩:=v1
   exact .cons i t (kc h1 r2 v2)
 | .non :: ds,_,_,_,h,_,_=>by cases h
 | .bl _ :: ds,_,_,_,h,_,_=>by cases h
 | .str _ :: ds,_,_,_,h,_,_=>by cases h
 | .tup _ :: ds,_,_,_,h,_,_=>by cases h
 | .lst _ :: ds,_,_,_,h,_,_=>by cases h
 | .scr _ :: ds,_,_,_,h,_,_=>by cases h
 | .exn _ :: ds,_,_,_,h,_,_=>by cases h
theorem iu {K:ck}:∀ {ds:List Dv} {ns:List Str} {ys:List V} {its:List Value},bh ds=some ns→Reps K H ds ys→Vals ys its→MI its ns
 | [],ns,ys,its,h,r,v=>by
  cases h
  cases (show ys=[] from r)
  cases v
  exact .nil
 | .str i :: ds,ns,ys,its,h,r,v=>by
  obtain ⟨y,us,rfl,r1,r2⟩:∃ v us,ys=v :: us∧Rep K H (.str i) v∧Reps K H ds us:=r
  cases (show y=.str i from r1)
  obtain ⟨k',h1,rfl⟩:=GH.mp (show (bh ds).map (i :: ·)=some ns from h)
  cases v with
  | cons v1 v2 =>
   obtain ⟨t,rfl⟩:=v1
   exact .cons i t (iu h1 r2 v2)
 | .non :: ds,_,_,_,h,_,_=>by cases h
 | .bl _ :: ds,_,_,_,h,_,_=>by cases h
 | .int _ :: ds,_,_,_,h,_,_=>by cases h
 | .tup _ :: ds,_,_,_,h,_,_=>by cases h
 | .lst _ :: ds,_,_,_,h,_,_=>by cases h
 | .scr _ :: ds,_,_,_,h,_,_=>by cases h
 | .exn _ :: ds,_,_,_,h,_,_=>by cases h
theorem c0:∀ {its:List Value} {ns:List Int},KG its ns→Vals (ns.map V.int) its
 | _,_,.nil=>.nil
 | _,_,.cons n t h=>.cons ⟨t,rfl⟩ (c0 h)
theorem gI:∀ {its:List Value} {ns:List Str},MI its ns→Vals (ns.map V.str) its
 | _,_,.nil=>.nil
 | _,_,.cons n t h=>.cons ⟨t,rfl⟩ (gI h)
theorem ly {K:ck} (H:Hp):∀ ns:List Int,Reps K H (ns.map Dv.int) (ns.map V.int)
 | []=>rfl
 | n :: ns=>⟨_,_,rfl,rfl,ly H ns⟩
theorem gJ {K:ck} (H:Hp):∀ ns:List Str,Reps K H (ns.map Dv.str) (ns.map V.str)
 | []=>rfl
 | n :: ns=>⟨_,_,rfl,rfl,gJ H ns⟩
theorem lz:∀ (p:Str) (l:List Str),risingS p l=true→(p :: l).Pairwise (fun a b=>leS a b=true)
 | p,[],_=>by simp
 | p,x :: r,h=>by
  have h':(!ltCps x.cps.toList p.cps.toList)=true∧risingS x r=true:=by simpa [risingS] using h
  have ih:=lz x r h'.2
  have hx:leS p x=true:=by
   unfold leS
   rw [← ltCps_eq]
   exact h'.1
  rw [FV]
  refine ⟨fun z hz=>?_,ih⟩
  rw [FV] at ih
  rcases p_.mp hz with rfl | hz
  · exact hx
  · exact ordS.tr _ _ _ hx (ih.1 z hz)
theorem sortedS_pw (l:List Str) (h:sortedS l=true):l.Pairwise (fun a b=>leS a b=true):=by
 cases l with
 | nil=>exact .nil
 | cons x r=>exact lz x r h
theorem line64 {n:Nat} (h:n < 64):n≤sizeLine:=by
 have:sizeLine=16777216:=by decide
 omega
theorem rL:CallR X (.builtin "sorted") (fun xs H Q=>∃ a ws ds,xs=[.ref a]∧H a=some (.lst ws)∧Reps X.K H ds ws ∧
 ((∃ ns,hX ds=some ns∧ns.length < 64∧∀ l,H l=none→Q (.ref l) (upd H l (.lst ((isortB leI ns).map V.int)))) ∨
  (∃ ns,bh ds=some ns∧ns.length < 64∧∀ l,H l=none→Q (.ref l) (upd H l (.lst ((isortB leS ns).map V.str)))))):=by
 intro pins s σ H xs us Q I r h
 obtain ⟨a,ws,ds,rfl,h1,h2,h3⟩:=h
 obtain ⟨u,rfl,ru⟩:=dJ r
 cases ru
 obtain ⟨z,its,n,rv,hl,e⟩:=I.lstM h1
 rcases h3 with ⟨ns,hi,hlen,q⟩ | ⟨ns,hi,hlen,q⟩
 · have hI:=kc hi h2 rv
   have hn:=hI.length
   refine sorted_ints ⟨_,e,rfl,n,rfl⟩ hI (by omega) fun out ns' a1 a2 a3=>?_
   have es:ns'=isortB leI ns:=sorted_uniq Er (a2.trans (isortB_perm leI ns).symm) (a3.imp fun h=>by simpa [leI] using h) (isortB_sorted Er ns)
   subst es
   obtain ⟨ep,he⟩:=sortedAll_at s.heap its out
   refine ⟨.ref (s.heap.objs.size + 1),_,I.laid (t':=s.toks) (o:=.lst ((isortB leI ns).map V.int)) (fun b ob q=>sortedAll_old q) (Hg _) ?_,rfl,q _ (I.hok.fresh (Hg _))⟩
   exact ⟨line64 (by rw [y_,(isortB_perm leI ns).length_eq]; exact hlen),out.toList,ep,c0 a1,by simpa [B_] using he⟩
 · have hI:=iu hi h2 rv
   have hn:its.length=ns.length:=by
    have:∀ {vs:List Value} {ss:List Str},MI vs ss→vs.length=ss.length:=fun h=>by
     induction h with
     | nil=>rfl
     | cons _ _ _ ih=>simp [ih]
    exact this hI
   refine sorted_strs ⟨_,e,rfl,n,rfl⟩ hI (by omega) fun out ns' a1 a2 a3=>?_
   have es:ns'=isortB leS ns:=sorted_uniq ordS (a2.trans (isortB_perm leS ns).symm) (sortedS_pw _ a3) (isortB_sorted ordS ns)
   subst es
   obtain ⟨ep,he⟩:=sortedAll_at s.heap its out
   refine ⟨.ref (s.heap.objs.size + 1),_,I.laid (t':=s.toks) (o:=.lst ((isortB leS ns).map V.str)) (fun b ob q=>sortedAll_old q) (Hg _) ?_,rfl,q _ (I.hok.fresh (Hg _))⟩
   exact ⟨line64 (by rw [y_,(isortB_perm leS ns).length_eq]; exact hlen),out.toList,ep,gI a1,by simpa [B_] using he⟩
end
section
variable {X:Cx} {p pos:Pos} {e:Expr} {es:List Expr} {ga:FnA}
end
section
variable {X:Cx} {p pos:Pos} {e:Expr} {es:List Expr} {ga:FnA}
end
section
variable {X:Cx} {p pos:Pos} {e:Expr} {es:List Expr} {ga:FnA}
end
section
variable {prog:Program} {w:uk} {A:q_} {E:Value→Shared→Prop} {s:Shared}
end
section
variable {prog:Program} {w:uk} {A:q_} {E:Value→Shared→Prop} {s:Shared}
end
theorem vJ {tst:Option FnB} {elt:FnE} {cap:Ev}:∀ ds:List Dv,qN tst elt cap ds=eM (gN 0) tst elt cap ds
 | []=>rfl
 | d :: ds=>by
  unfold qN eM
  rw [vJ ds]
  rfl
theorem xm (cs:List (Str×Nat)) (src:FnA) (tst:Option FnB) (fe:FnE):aN cs src tst fe=aK 1 cs src (gN 0) tst fe:=by
 funext ρ
 show bnd (src ρ) _=bnd (src ρ) _
 congr 1
 funext ds
 rw [vJ]
 rfl
theorem rM {X:Cx} {st:Stmt} {i:Nat} {fc:FnE} (h:PS X st (tC X i fc)) (hl:∀ ρ d,fc ρ=some (.ok d)→∃ ys,d=.lst ys):FS X st (bq i fc):=⟨fun pins s σ H D I ⟨ρ,E,o⟩=>by
 refine h pins s σ H D I ⟨ρ,E,?_⟩
 unfold bq at o
 match hf:fc ρ with
 | none=>rw [hf] at o; exact o.elim
 | some (.exc c)=>rw [hf] at o; exact o
 | some (.ok d) =>
  rw [hf] at o
  obtain ⟨ys,rfl⟩:=hl ρ d hf
  exact ⟨ys,rfl,fun H5 p vs e5 hp rs=>o _ _ (e5.trans (ar hp _)) ((E.mono (e5.trans (ar hp _))).set ⟨p,vs,rfl,am,Reps.mono (ar hp _) _ _ rs⟩)⟩⟩
end FD
namespace ST
open PySem PySem.SetTable PyProof.Rows
def SetS (prog:Program) (w:uk) (h:Heap) (S:Addr) (ks:List Str):Prop :=
 ∃ o es ep t,h.get? S=some o∧o.ExactSet∧o.data=.set es ep t∧t.fits es.size=true∧ks.length≤60∧t.led=(!byT w)∧(es.size≠0→t.plain=false)∧ElemsOf (F1 prog w) es.toList∧(∀ e∈es.toList,∃ x t,e.2=.str x t)∧(es.toList.map fun e=>M8 e.2).Perm ks
theorem Ay (t:SetTable) (n:Nat):(t.orStandIn n).led=t.led∧((t.orStandIn n).plain=t.plain∨(t.orStandIn n).plain=false):=by
 unfold SetTable.orStandIn
 split
 · exact ⟨rfl,.inl rfl⟩
 · exact ⟨rfl,.inr rfl⟩
theorem xn (t:SetTable) (es:Array (Int×Value)) (h:Int) (x:Value):(layNew t es h x).2.1.led=t.led:=by
 unfold layNew
 split
 · exact (Ay _ _).1
 · rfl
theorem uF {m finger moves:Nat} {led plain:Bool} {hs:Array Int} {t:SetTable} {order:Array Nat} (e:laid m finger moves led plain hs=some (t,order)):t.led=led∧t.plain=plain:=by
 unfold laid at e
 cases hc:Nu m hs with
 | none=>rw [hc] at e; cases e
 | some o=>rw [hc] at e; cases e; exact ⟨rfl,rfl⟩
theorem rN (t:SetTable) (es:Array (Int×Value)) (n:Nat) (hp:t.plain=false):(KP t es n).2.1.led=t.led∧(KP t es n).2.1.plain=false:=by
 unfold KP
 split
 · rename_i t' order e
   obtain ⟨h1,h2⟩:=uF e
   dsimp only
   split
   · exact ⟨h1,h2.trans hp⟩
   · exact ⟨rfl,rfl⟩
 · exact ⟨rfl,rfl⟩
section
variable {prog:Program} {w:uk} {A:q_} {E:Value→Shared→Prop} {s:Shared}
theorem rO {h:Heap} {S:Addr} {o:Obj} {es:Array (Int×Value)} {ep:Nat} {t:SetTable} (ho:h.get? S=some o) (hex:o.ExactSet) (hd:o.data=.set es ep t) {es':Array (Int×Value)} {t':SetTable} {ks:List Str} (hf:t'.fits es'.size=true) (hk:ks.length≤60) (hl:t'.led=(!byT w)) (hp:t'.plain=false)
 (hel:ElemsOf (F1 prog w) es'.toList) (hs:∀ e∈es'.toList,∃ x t,e.2=.str x t) (hm:(es'.toList.map fun e=>M8 e.2).Perm ks):SetS prog w (h.update S (HK es' t')) S ks:=by
 have hg:=Hs (HK es' t') ho (by rw [KQ es' t' hd]; rfl)
 rw [KQ es' t' hd] at hg
 exact ⟨_,es',ep + 1,t',hg,hex,rfl,hf,hk,hl,fun _=>hp,hel,hs,hm⟩
theorem lA {l l':List (Int×Value)} (p:l'.Perm l) (hs:∀ e∈l,∃ x t,e.2=GG x t) {ks:List Str} (hm:(l.map fun e=>M8 e.2).Perm ks):(∀ e∈l',∃ x t,e.2=GG x t)∧(l'.map fun e=>M8 e.2).Perm ks :=
 ⟨fun e he=>hs e (p.mem_iff.mp he),(p.map _).trans hm⟩
theorem vK {es:Array (Int×Value)} {ks:List Str} {k:Str} (hs:∀ e∈es.toList,∃ x t,e.2=.str x t) (hm:(es.toList.map fun e=>M8 e.2).Perm ks):(∃ e∈es.toList,(F1 prog w).is k e.2=true)↔k∈ks:=by
 rw [← hm.mem_iff,C_]
 constructor
 · rintro ⟨e,he,hk⟩
   obtain ⟨x,t,ex⟩:=hs e he
   refine ⟨e,he,?_⟩
   rw [ex] at hk ⊢
   have:(x == k)=true:=by simpa [F1,Ir] using hk
   show x=k
   simpa using this
 · rintro ⟨e,he,hk⟩
   obtain ⟨x,t,ex⟩:=hs e he
   refine ⟨e,he,?_⟩
   rw [ex] at hk ⊢
   have:x=k:=hk
   rw [this]
   simp [F1,Ir]
theorem EZ {S:Addr} {ks:List Str} {k:Str} {tk:Tok} {Q:Bool→Shared→Prop} (hS:SetS prog w s.heap S ks) (hn:ks.length < 60)
 (h:∀ b h',Ib S s.heap h'→SetS prog w h' S (addK ks k)→Q b { s with heap:=h' }):l_ (o_ prog w) A (K9 S (.str k tk) ((F1 prog w).hash k)) Q E s:=by
 obtain ⟨o,es,ep,t,ho,hex,hd,hf,hk60,hl,hp,hel,hs,hm⟩:=id hS
 have hkey:(F1 prog w).is k (.str k tk)=true:=strKind_is prog w k tk
 have hsc:(GG k tk).scannable=true:=rfl
 have hlen:es.size=ks.length:=by have:=hm.length_eq; simpa using this
 have hb:es.size < scanBound:=by rw [hlen]; unfold scanBound; omega
 unfold K9 Lz
 refine Gb (b_ (F5 ho hd hf ?_))
 dsimp only
 rw [byScan_of hsc hb hel,if_pos rfl]; unfold setAddByScan
 refine b_ (b_ (IU (b_ (wpAny_setScan_of hkey ho hd hf hel ?_))))
 have gv:∀ (b:Bool) {s₁:Shared} {Q':Unit→Shared→Prop},Q' () s₁→l_ (o_ prog w) A (match b with | true=>rule "set.scan.the-table-gave-way" | false=>pure ()) Q' E s₁:=fun b _ _ z=>by
  cases b
  · exact c_ z
  · exact IU z
 cases hr:List.findIdx? (fun e=>(F1 prog w).is k e.2) es.toList with
 | some j =>
  obtain ⟨hj,pj,_⟩:=List.findIdx?_eq_some_iff_getElem.mp hr
  have hin:k∈ks:=(vK (prog:=prog) (w:=w) hs hm).mp ⟨es.toList[j],IE hj,pj⟩
  dsimp only
  refine c_ (c_ ?_)
  have e:s={ s with heap:=s.heap }:=by cases s; rfl
  rw [e]
  refine h _ s.heap (Heap.SameBut.refl S s.heap) ?_
  unfold addK
  rw [if_pos hin]
  exact hS
 | none =>
  have hout:k ∉ ks:=fun z=>by
   obtain ⟨e,he,q⟩:=(vK (prog:=prog) (w:=w) hs hm).mpr z
   have:=List.findIdx?_eq_none_iff.mp hr e he
   rw [q] at this
   cases this
  dsimp only
  have hperm:=layNew_perm t es ((F1 prog w).hash k) (.str k tk)
  have hfits:=layNew_fits t es ((F1 prog w).hash k) (.str k tk)
  have hled:=xn t es ((F1 prog w).hash k) (.str k tk)
  generalize layNew t es ((F1 prog w).hash k) (.str k tk)=L at hperm hfits hled ⊢
  obtain ⟨es1,t1,wd,gave⟩:=L
  dsimp only at hperm hfits hled ⊢
  rw [JB] at hperm
  have el1:ElemsOf (F1 prog w) es1.toList:=(hel.push hkey hsc).perm hperm
  have eK:addK ks k=k :: ks:=by unfold addK; rw [if_neg hout]
  obtain ⟨s1,m1⟩:=lA hperm (ks:=k :: ks) (fun e he=>by
   rcases Gj.mp he with he | he
   · exact hs e he
   · rw [Gs.mp he]; exact ⟨k,tk,rfl⟩) (by
   rw [G0]
   exact (hm.append_right _).trans (IA k ks))
  have z1:es1.size=ks.length + 1:=by have:=m1.length_eq; simpa using this
  have hb1:es1.size < scanBound:=by rw [z1]; unfold scanBound; omega
  refine b_ (gv _ ?_)
  have tail:∀ t2:SetTable,t2.fits es1.size=true→t2.led=(!byT w)→t2.plain=false→l_ (o_ prog w) A (do
   Nk S es1 t2
   if (!wd && t2.tooFull)=true then do
    (match (KP t2 es1 (GV es1.size)).2.2 with | true=>rule "set.scan.the-table-gave-way" | false=>pure ())
    Nk S (KP t2 es1 (GV es1.size)).1 (KP t2 es1 (GV es1.size)).2.1
    pure (some true)
    else pure (some true)) (fun a s'=>l_ (o_ prog w) A (match a with | some added=>pure added | none=>Lz S (.str k tk) ((F1 prog w).hash k) 99999) Q E s') E s:=by
   intro t2 f2 l2 p2
   refine b_ (Jk ho hd ?_ (fits_of_scanBound hb1))
   have S1:SetS prog w (s.heap.update S (HK es1 t2)) S (addK ks k):=by
    rw [eK]
    exact rO ho hex hd f2 (by simp; omega) l2 p2 el1 s1 m1
   have sb1:=IH s.heap S (HK es1 t2)
   split
   · have hp2:=relayAll_perm t2 es1 (GV es1.size)
     have hf2:=relayAll_fits t2 es1 (GV es1.size)
     obtain ⟨q1,q2⟩:=rN t2 es1 (GV es1.size) p2
     generalize KP t2 es1 (GV es1.size)=L2 at hp2 hf2 q1 q2 ⊢
     obtain ⟨es2,t3,g2⟩:=L2
     dsimp only at hp2 hf2 q1 q2 ⊢
     obtain ⟨s2,m2⟩:=lA hp2 s1 m1
     have z2:es2.size=es1.size:=by rw [← Gi,hp2.length_eq,Gi]
     have ho1:=Hs (HK es1 t2) ho (by rw [KQ es1 t2 hd]; rfl)
     rw [KQ es1 t2 hd] at ho1
     refine b_ (gv _ (b_ (Jk ho1 rfl ?_ (fits_of_scanBound (by rw [z2]; exact hb1)))))
     refine c_ (c_ (h _ _ (sb1.trans (IH _ S _)) ?_))
     rw [eK]
     exact rO ho1 hex rfl hf2 (by simp; omega) (q1.trans l2) q2 (el1.perm hp2) s2 m2
   · exact c_ (c_ (h _ _ sb1 S1))
  split
  · rename_i hpl
    refine b_ ?_
    rw [hashByValue_scannable 8 hsc]
    refine c_ ?_
    exact tail _ (SetTable.fits_plain_off hfits) (hled.trans hl) rfl
  · rename_i hpl
    refine b_ (c_ ?_)
    exact tail _ hfits (hled.trans hl) (by simpa using hpl)
end
section
variable {prog:Program} {w:uk} {A:q_} {R:LK→Shared→Prop} {I:Addr} {fp wr:List Addr} {G:Array Kp→Array Kp→Prop} {n:Nat} {P:Nat→Value→Prop} {St:Nat→Shared→Prop}
theorem SetS.moved {h h':Heap} {S:Addr} {ks:List Str} (x:SetS prog w h S ks) (hS:∀ o,h.get? S=some o→h'.get? S=some o):SetS prog w h' S ks:=by
 obtain ⟨o,es,ep,t,ho,r⟩:=x
 exact ⟨o,es,ep,t,hS _ ho,r⟩
theorem Az (W:WalksS prog w A.in1 I fp wr G n P St) (S:Addr) (hSf:S ∉ fp) (key:Nat→Str) (hval:∀ i v,P i v→∃ tk,v=.str (key i) tk) (hn:n≤59) :
 ∀ (k i:Nat) (s:Shared),n - i=k→i≤n→St i s→SetS prog w s.heap S (ddk ((f_ i).map key)) →
  (∀ s',Moved (S :: wr) G s s'→SetS prog w s'.heap S (ddk ((f_ n).map key))→R (.ok (.ret .none)) s') →
  HZ (o_ prog w) A (.builtin "set.update.loop" ⟨[.ref S,.ref I],[]⟩) R s:=by
 have hSw:S ∉ wr:=fun h=>hSf (W.sub _ h)
 have hsub:∀ b∈wr,b∈S :: wr:=fun b hb=>ge _ hb
 intro k
 induction k with
 | zero =>
  intro i s hk hi hst hS hR
  have hin:i=n:=by omega
  subst hin
  refine Gv HW ?_
  rw [GP GQ _]
  show l_ _ A.in1 (Jn (.ref I) >>= _) _ _ s
  refine b_ (W.done s _ _ hst fun s' hm=>?_)
  show l_ _ A.in1 (ret FB) _ _ s'
  exact c_ (hR s' (hm.mono hsub) (hS.moved fun o ho=>hm.heap S _ hSw ho))
 | succ k ih =>
  intro i s hk hi hst hS hR
  have hlt:i < n:=by omega
  refine Gv HW ?_
  rw [GP GQ _]
  show l_ _ A.in1 (Jn (.ref I) >>= _) _ _ s
  refine b_ (W.item i s _ _ hlt hst fun v s' hP hst' hm=>?_)
  obtain ⟨tk,rfl⟩:=hval i v hP
  have hS':SetS prog w s'.heap S (ddk ((f_ i).map key)):=hS.moved fun o ho=>hm.heap S _ hSw ho
  show l_ _ A.in1 (Nf [GG (key i) tk] (setAdd S (.str (key i) tk)) >>= _) _ _ s'
  refine b_ (Gb ?_)
  unfold setAdd
  refine Gb ?_
  refine b_ ((F1 prog w).pyHash (strKind_is prog w (key i) tk) ?_)
  have estep:ddk ((f_ (i + 1)).map key)=addK (ddk ((f_ i).map key)) (key i):=by
   unfold ddk
   rw [Lq,G0,List.foldl_append]
   rfl
  have hle:(ddk ((f_ i).map key)).length≤i:=by
   have:=ddk_le ((f_ i).map key)
   simpa using this
  refine EZ (s:={ s' with toks:=s'.toks + 1 }) hS' (by omega) fun bb h' hsb hS2=>?_
  rw [← estep] at hS2
  refine c_ ⟨JN GQ _,ih (i + 1) _ (by omega) hlt (W.frame _ s' _ _ hst' (by simp) fun b hb o e=>?_) hS2 fun s'' hm'' hS''=>?_⟩
  · rw [hsb.2 b (fun h:b=S=>hSf (by rw [← h]; exact hb))]; exact e
  · refine hR s'' (Moved.trans W.gtrans ((hm.mono hsub).then_heap (by simp) fun b o hb e=>?_) hm'') hS''
    rw [hsb.2 b (fun h:b=S=>hb (by rw [h]; exact g_))]; exact e
end
section
variable {prog:Program} {w:uk} {A:q_} {E:Value→Shared→Prop} {s:Shared}
theorem oy {h:Heap} {S:Addr} (e:h.get? S=some (dO (!byT w))):SetS prog w h S [] :=
 ⟨_,#[],0,_,e,⟨rfl,rfl,rfl⟩,rfl,rfl,by simp,rfl,fun z=>absurd rfl z,fun e he=>by simp at he,fun e he=>by simp at he,.refl _⟩
theorem xo {l:Addr} {items:Array Value} {key:Nat→Str} {R:LK→Shared→Prop} (hh:A.handled=none) (hl:s.heap.IsList l items)
 (hk:∀ (i:Nat) (v:Value),items[i]?=some v→∃ tk,v=GG (key i) tk) (hn:items.size≤59)
 (hR:∀ (h':Heap) (tk:Nat),SetS prog w h' s.heap.objs.size (ddk ((f_ items.size).map key))→(∀ b o,b < s.heap.objs.size→s.heap.get? b=some o→h'.get? b=some o)→R (.ok (.ret .none)) { s with heap:=h',toks:=tk }) :
 HZ (o_ prog w) A (.call (.builtin "set.__init__") ⟨[.ref s.heap.objs.size,.ref l],[]⟩) R { s with heap:=s.heap.push (dO (!byT w)) }:=by
 have hS:(s.heap.push (dO (!byT w))).get? s.heap.objs.size=some (dO (!byT w)):=h_ _ rfl
 have hT:HI { s with heap:=s.heap.push (dO (!byT w)) } (.ref s.heap.objs.size) "set":=⟨_,hS,rfl⟩
 refine JS FF.init.plain K1 (KT hT ?_)
 obtain ⟨ol,hol,hcl,nl,hdl⟩:=hl
 obtain ⟨ocls,odict,odata,oslots⟩:=ol
 simp only at hcl hdl
 subst hcl; subst hdl
 have hol':(s.heap.push (dO (!byT w))).get? l=some { cls:=.type "list",dict:=odict,data:=.seq items nl,slots:=oslots }:=d_ _ hol
 have s1:=F.sub_list_set
 have s2:=LM
 have s3:(r_ "list" == r_ "dict")=false:=by decide
 have hl1:(s.heap.push (dO (!byT w))).IsList l items:=⟨_,hol',rfl,nl,rfl⟩
 unfold GL.«set.__init__» noKeywords Ik
 generalize hPI:Mj=PI
 wp_walk
 subst hPI
 refine Jm hl1 (b_ (Jl ?_))
 have hlS:l < s.heap.objs.size:=m_ hol
 have hneI:l≠(s.heap.push (dO (!byT w))).objs.size:=by rw [z_]; exact n_ (w_ hlS)
 have hSf:s.heap.objs.size ∉ [(s.heap.push (dO (!byT w))).objs.size,l]:=by
  rw [z_]
  simp only [p_,FP,or_false,not_or]
  exact ⟨n_ (GI _),Jw hlS⟩
 refine Az ((Nq (by simp [hh]) _ l hneI items).toS) s.heap.objs.size hSf key hk hn (items.size - 0) 0 _ (by omega) (FN _) ⟨⟨_,h_ _ rfl,rfl,rfl⟩,(hl1.push _)⟩ ?_ ?_
 · exact oy (d_ _ hS)
 · intro s' hm hS'
   obtain ⟨h',g',d',tk',os'⟩:=s'
   have eg:g'=s.gens:=hm.gens
   have ed:d'=s.drawn:=hm.drawn
   have eo:os'=s.os:=hm.os
   subst eg; subst ed; subst eo
   show l_ _ _ _ _ _ _
   refine c_ ?_
   show l_ _ _ (ret FB) _ _ _
   refine c_ (hR h' tk' hS' fun b o hb e=>?_)
   have hb1:b≠s.heap.objs.size:=n_ hb
   have hb2:b≠(s.heap.push (dO (!byT w))).objs.size:=by rw [z_]; exact n_ (w_ hb)
   exact hm.heap b o (by simp only [p_,FP,or_false,not_or]; exact ⟨hb1,hb2⟩) (d_ _ (d_ _ e))
theorem call_set_L2 {l:Addr} {items:Array Value} {key:Nat→Str} {Q:Value→Shared→Prop} (hh:A.handled=none) (hl:s.heap.IsList l items)
 (hk:∀ (i:Nat) (v:Value),items[i]?=some v→∃ tk,v=GG (key i) tk) (hn:items.size≤59)
 (h:∀ (h':Heap) (tk:Nat),SetS prog w h' s.heap.objs.size (ddk ((f_ items.size).map key))→(∀ b o,b < s.heap.objs.size→s.heap.get? b=some o→h'.get? b=some o)→Q (.ref s.heap.objs.size) { s with heap:=h',toks:=tk }) :
 l_ (o_ prog w) A (call (.type "set") [.ref l]) Q E s:=by
 obtain ⟨c,tl,hmro⟩:=FF.mro
 have hmade:=FF.made
 have hsub:=FF.sub
 refine K7 (JZ ?_)
 show l_ _ _ (callAny (.type "set") _) _ _ _
 refine c_ ⟨IY _ (by decide +kernel),Gv KC ?_⟩
 rw [Ku (JD "set" [.ref l] []) rfl]
 have h1:=FF.notType
 have h2:=FF.canCreate
 have hct:=KW (.ref l)
 repeat (any_goals (first | assumption | wp_step))
 refine G5 (mQ (.ref l) (E:=E) (Q₁:=fun obj s₁=>obj=.ref s.heap.objs.size∧s₁={ s with heap:=s.heap.push (dO (!byT w)) }) ⟨rfl,rfl⟩) fun r s₁ hr=>?_
 cases r with
 | error e=>exact hr
 | ok fl =>
  cases fl with
  | ret obj =>
   obtain ⟨rfl,rfl⟩:=hr
   have hT:HI { s with heap:=s.heap.push (dO (!byT w)) } (.ref s.heap.objs.size) "set":=⟨_,h_ _ rfl,rfl⟩
   have hli:=FF.init.lookup
   have hbi:=FF.init.bind (.ref s.heap.objs.size)
   repeat (any_goals (first | assumption | wp_step))
   refine G5 (xo (R:=wants (fun r s₂=>r=.none∧∃ h' tk,s₂={ s with heap:=h',toks:=tk }∧SetS prog w h' s.heap.objs.size (ddk ((f_ items.size).map key)) ∧
    (∀ b o,b < s.heap.objs.size→s.heap.get? b=some o→h'.get? b=some o)) E) (by simp [hh]) hl hk hn fun h' tk q1 q2=>⟨rfl,h',tk,rfl,q1,q2⟩) fun r₂ s₂ hr₂=>?_
   cases r₂ with
   | error e=>exact hr₂
   | ok fl₂ =>
    cases fl₂ with
    | ret r =>
     obtain ⟨rfl,h',tk,rfl,hS',hk'⟩:=hr₂
     repeat (any_goals (first | assumption | wp_step))
     exact h _ _ hS' hk'
    | _=>exact hr₂.elim
  | _=>exact hr.elim
theorem xp {l:Addr} {items:Array Value} {key:Nat→Str} {R:LK→Shared→Prop} (hh:A.handled=none) (hl:s.heap.IsTuple l items)
 (hk:∀ (i:Nat) (v:Value),items[i]?=some v→∃ tk,v=GG (key i) tk) (hn:items.size≤59)
 (hR:∀ (h':Heap) (tk:Nat),SetS prog w h' s.heap.objs.size (ddk ((f_ items.size).map key))→(∀ b o,b < s.heap.objs.size→s.heap.get? b=some o→h'.get? b=some o)→R (.ok (.ret .none)) { s with heap:=h',toks:=tk }) :
 HZ (o_ prog w) A (.call (.builtin "set.__init__") ⟨[.ref s.heap.objs.size,.ref l],[]⟩) R { s with heap:=s.heap.push (dO (!byT w)) }:=by
 have hS:(s.heap.push (dO (!byT w))).get? s.heap.objs.size=some (dO (!byT w)):=h_ _ rfl
 have hT:HI { s with heap:=s.heap.push (dO (!byT w)) } (.ref s.heap.objs.size) "set":=⟨_,hS,rfl⟩
 refine JS FF.init.plain K1 (KT hT ?_)
 obtain ⟨ol,hol,hcl,nl,hdl⟩:=hl
 obtain ⟨ocls,odict,odata,oslots⟩:=ol
 simp only at hcl hdl
 subst hcl; subst hdl
 have hol':(s.heap.push (dO (!byT w))).get? l=some { cls:=.type "tuple",dict:=odict,data:=.seq items nl,slots:=oslots }:=d_ _ hol
 have s1:=F.sub_tuple_set
 have s2:=F.sub_tuple_frozenset
 have s3:(r_ "tuple" == r_ "dict")=false:=by decide
 have hl1:(s.heap.push (dO (!byT w))).IsTuple l items:=⟨_,hol',rfl,nl,rfl⟩
 unfold GL.«set.__init__» noKeywords Ik
 generalize hPI:Mj=PI
 wp_walk
 subst hPI
 refine wpAny_pyIter_tuple hl1 (b_ (Jl ?_))
 have hlS:l < s.heap.objs.size:=m_ hol
 have hneI:l≠(s.heap.push (dO (!byT w))).objs.size:=by rw [z_]; exact n_ (w_ hlS)
 have hSf:s.heap.objs.size ∉ [(s.heap.push (dO (!byT w))).objs.size,l]:=by
  rw [z_]
  simp only [p_,FP,or_false,not_or]
  exact ⟨n_ (GI _),Jw hlS⟩
 refine Az ((Walks.tuple (by simp [hh]) _ l hneI items).toS) s.heap.objs.size hSf key hk hn (items.size - 0) 0 _ (by omega) (FN _) ⟨⟨_,h_ _ rfl,rfl,rfl⟩,(hl1.push _)⟩ ?_ ?_
 · exact oy (d_ _ hS)
 · intro s' hm hS'
   obtain ⟨h',g',d',tk',os'⟩:=s'
   have eg:g'=s.gens:=hm.gens
   have ed:d'=s.drawn:=hm.drawn
   have eo:os'=s.os:=hm.os
   subst eg; subst ed; subst eo
   show l_ _ _ _ _ _ _
   refine c_ ?_
   show l_ _ _ (ret FB) _ _ _
   refine c_ (hR h' tk' hS' fun b o hb e=>?_)
   have hb1:b≠s.heap.objs.size:=n_ hb
   have hb2:b≠(s.heap.push (dO (!byT w))).objs.size:=by rw [z_]; exact n_ (w_ hb)
   exact hm.heap b o (by simp only [p_,FP,or_false,not_or]; exact ⟨hb1,hb2⟩) (d_ _ (d_ _ e))
theorem call_set_T2 {l:Addr} {items:Array Value} {key:Nat→Str} {Q:Value→Shared→Prop} (hh:A.handled=none) (hl:s.heap.IsTuple l items)
 (hk:∀ (i:Nat) (v:Value),items[i]?=some v→∃ tk,v=GG (key i) tk) (hn:items.size≤59)
 (h:∀ (h':Heap) (tk:Nat),SetS prog w h' s.heap.objs.size (ddk ((f_ items.size).map key))→(∀ b o,b < s.heap.objs.size→s.heap.get? b=some o→h'.get? b=some o)→Q (.ref s.heap.objs.size) { s with heap:=h',toks:=tk }) :
 l_ (o_ prog w) A (call (.type "set") [.ref l]) Q E s:=by
 obtain ⟨c,tl,hmro⟩:=FF.mro
 have hmade:=FF.made
 have hsub:=FF.sub
 refine K7 (JZ ?_)
 show l_ _ _ (callAny (.type "set") _) _ _ _
 refine c_ ⟨IY _ (by decide +kernel),Gv KC ?_⟩
 rw [Ku (JD "set" [.ref l] []) rfl]
 have h1:=FF.notType
 have h2:=FF.canCreate
 have hct:=KW (.ref l)
 repeat (any_goals (first | assumption | wp_step))
 refine G5 (mQ (.ref l) (E:=E) (Q₁:=fun obj s₁=>obj=.ref s.heap.objs.size∧s₁={ s with heap:=s.heap.push (dO (!byT w)) }) ⟨rfl,rfl⟩) fun r s₁ hr=>?_
 cases r with
 | error e=>exact hr
 | ok fl =>
  cases fl with
  | ret obj =>
   obtain ⟨rfl,rfl⟩:=hr
   have hT:HI { s with heap:=s.heap.push (dO (!byT w)) } (.ref s.heap.objs.size) "set":=⟨_,h_ _ rfl,rfl⟩
   have hli:=FF.init.lookup
   have hbi:=FF.init.bind (.ref s.heap.objs.size)
   repeat (any_goals (first | assumption | wp_step))
   refine G5 (xp (R:=wants (fun r s₂=>r=.none∧∃ h' tk,s₂={ s with heap:=h',toks:=tk }∧SetS prog w h' s.heap.objs.size (ddk ((f_ items.size).map key)) ∧
    (∀ b o,b < s.heap.objs.size→s.heap.get? b=some o→h'.get? b=some o)) E) (by simp [hh]) hl hk hn fun h' tk q1 q2=>⟨rfl,h',tk,rfl,q1,q2⟩) fun r₂ s₂ hr₂=>?_
   cases r₂ with
   | error e=>exact hr₂
   | ok fl₂ =>
    cases fl₂ with
    | ret r =>
     obtain ⟨rfl,h',tk,rfl,hS',hk'⟩:=hr₂
     repeat (any_goals (first | assumption | wp_step))
     exact h _ _ hS' hk'
    | _=>exact hr₂.elim
  | _=>exact hr.elim
end
theorem sl_sin:Slot "set_iterator" "__next__" "set_iterator.__next__" :=
 .of (n:="__next__") (owner:="set_iterator") (by rw [typeLookup_type,Lu]; kernel_rfl) (by decide +kernel) (by decide +kernel) (by decide +kernel) (by first | exact .inl (by decide +kernel) | exact .inr (by decide +kernel)) (by rw [LC]; kernel_rfl)
theorem oz:entryFor table "set_iterator.__next__"=some GL.«set_iterator.__next__»:=entryFor_of_tree (by kernel_rfl)
theorem oA (a:Value):argsOk "set_iterator.__next__" ⟨[a],[]⟩:=by unfold argsOk; kernel_rfl
theorem Dk:entryFor table "set.__iter__"=some GL.«frozenset.__iter__» :=
 entryFor_alias (id':="frozenset.__iter__") (by kernel_rfl) rfl (by decide +kernel) (by kernel_rfl)
theorem gK {α:Type}:∀ (l:List α) (i:Nat) (h:i < l.length),(l[i] :: l.eraseIdx i).Perm l
 | x :: l,0,_=>.refl _
 | x :: l,i + 1,h=>by
  have ih:=gK l i (by simpa using h)
  exact (LY ..).trans (ih.cons x)
theorem lB {α:Type} (next:Nat→Nat):∀ (n k:Nat) (left:List α) (out:Array α),left.length=n→(Mu next n k left out).toList.Perm (out.toList ++ left)
 | 0,k,left,out,h=>by
  have:left=[]:=GS.mp h
  subst this
  unfold Mu
  simp
 | n + 1,k,left,out,h=>by
  unfold Mu
  have hlt:next k % left.length < left.length:=I0 _ (by omega)
  rw [i_ hlt]
  dsimp only
  refine (lB next n (k + 1) _ _ (by rw [Kw hlt]; omega)).trans ?_
  rw [JB,Iy]
  exact Lx _ (gK _ _ hlt)
section
variable {prog:Program} {w:uk} {A:q_} {E:Value→Shared→Prop}
theorem rP {src:Source} {n:Nat} {s:Shared} {Q:Nat→Shared→Prop} (hn:n≠0) (h:∀ i d,i < n→Q i { s with drawn:=d }):l_ (o_ prog w) A (choose src n) Q E s:=fun _ _ _=>⟨hn,h _ _ (I0 _ (Nat.pos_of_ne_zero hn))⟩
theorem rQ {α:Type}:∀ (n:Nat) (xs:List α) (s:Shared) (Q:List α→Shared→Prop),xs.length=n→(∀ ys d,ys.Perm xs→Q ys { s with drawn:=d })→l_ (o_ prog w) A (drawOrder n xs) Q E s
 | 0,xs,s,Q,hl,h=>by
  have:xs=[]:=GS.mp hl
  subst this
  unfold drawOrder
  have e:s={ s with drawn:=s.drawn }:=by cases s; rfl
  refine c_ ?_
  rw [e]
  exact h [] s.drawn (.refl _)
 | n + 1,[],s,Q,hl,h=>by simp at hl
 | n + 1,x :: xs,s,Q,hl,h=>by
  unfold drawOrder
  refine b_ (rP (by simp) fun i d hi=>?_)
  rw [i_ hi]
  dsimp only
  refine b_ (rQ n ((x :: xs).eraseIdx i) _ _ (by rw [Kw hi]; simp at hl ⊢; omega) fun ys d2 hp=>?_)
  refine c_ (h _ d2 ?_)
  exact (hp.cons _).trans (gK _ _ hi)
variable {s:Shared}
structure Rd (w:uk) (h:Heap) (S:Addr) (es:Array (Int×Value)) (ep:Nat) (t:SetTable):Prop where
 o:∃ o,h.get? S=some o∧o.ExactSet∧o.data=.set es ep t
 f:t.fits es.size=true
 l:t.led=(!byT w)
 p:es.size≠0→t.plain=false
theorem Rd.moved {h h':Heap} {S:Addr} {es:Array (Int×Value)} {ep:Nat} {t:SetTable} (r:Rd w h S es ep t) (k:∀ o,h.get? S=some o→h'.get? S=some o):Rd w h' S es ep t:=by
 obtain ⟨⟨o,ho,hr⟩,h1,h2,h3⟩:=r
 exact ⟨⟨o,k _ ho,hr⟩,h1,h2,h3⟩
abbrev sIt (first:Value) (i:Nat) (S:Addr) (n ep:Nat):Obj:={ cls:=.type "set_iterator",dict:=none,data:=.fields #[first,G2 i,.ref S,G2 n,G2 ep],slots:=#[] }
theorem oB (f:Value) (i:Nat) (S:Addr) (n ep:Nat):sIt f (i + 1) S n ep={ cls:=.type "set_iterator",dict:=none,data:=.fields #[f,.int ((i:Int) + 1) 0,.ref S,.int n 0,.int ep 0],slots:=#[] }:=by simp [G2]
theorem uG {I S:Addr} {es:Array (Int×Value)} {ep i slot:Nat} {t:SetTable} {Q:Option Value→Shared→Prop} (r:Rd w s.heap S es ep t) (hI:s.heap.get? I=some (sIt (G2 slot) i S es.size ep))
 {x:Value} {nx:Nat} (hN:∀ (R:Option (Value×Nat)→Shared→Prop) (E':Value→Shared→Prop),R (some (x,nx)) s→l_ (o_ prog w) A.in1 (K8 S slot i ep) R E' s)
 (hQ:∀ h',h'.get? I=some (sIt (G2 nx) (i + 1) S es.size ep)→Ib I s.heap h'→Q (some x) { s with heap:=h' }):l_ (o_ prog w) A (Jn (.ref I)) Q E s:=by
 have ty:s.TypeIs (.ref I) "set_iterator":=⟨_,hI,rfl⟩
 obtain ⟨o,ho,hex,hd⟩:=r.o
 unfold Jn
 refine b_ (IK (GN (name:=a_ "__next__") ty sl_sin (Gx sl_sin ty oz ?_ (oA _))))
 unfold GL.«set_iterator.__next__»
 refine b_ (m:=Nl _ _ _) (HY (a:=(s_ I,[])) (by rfl) ?_)
 refine b_ (Kl hI rfl ?_)
 dsimp only [G2,JC]
 refine b_ (HP ho hd r.f ?_)
 rw [if_neg (by simp)]
 refine b_ (m:=pure _) (c_ ?_)
 dsimp only
 refine b_ (hN _ _ ?_)
 dsimp only
 refine b_ (Hj hI (by simp) fun h1 g1 b1=>?_)
 refine b_ (Hj g1 (by simp) fun h2 g2 b2=>?_)
 exact c_ ⟨x,rfl,c_ (hQ _ (by rw [oB]; simpa [G2] using g2) (b1.trans b2))⟩
theorem lC {I S:Addr} {es:Array (Int×Value)} {ep i slot:Nat} {t:SetTable} {Q:Option Value→Shared→Prop} (hh:A.handled=none) (r:Rd w s.heap S es ep t) (hI:s.heap.get? I=some (sIt (G2 slot) i S es.size ep))
 (hN:∀ (R:Option (Value×Nat)→Shared→Prop) (E':Value→Shared→Prop),R none s→l_ (o_ prog w) A.in1 (K8 S slot i ep) R E' s)
 (hQ:∀ h',Heap.ExtBut I s.heap h'→Q none { s with heap:=h' }):l_ (o_ prog w) A (Jn (.ref I)) Q E s:=by
 have ty:s.TypeIs (.ref I) "set_iterator":=⟨_,hI,rfl⟩
 obtain ⟨o,ho,hex,hd⟩:=r.o
 unfold Jn
 refine b_ (IK (GN (name:=a_ "__next__") ty sl_sin (Gx sl_sin ty oz ?_ (oA _))))
 unfold GL.«set_iterator.__next__»
 refine b_ (m:=Nl _ _ _) (HY (a:=(s_ I,[])) (by rfl) ?_)
 refine b_ (Kl hI rfl ?_)
 dsimp only [G2,JC]
 refine b_ (HP ho hd r.f ?_)
 rw [if_neg (by simp)]
 refine b_ (m:=pure _) (c_ ?_)
 dsimp only
 refine b_ (hN _ _ ?_)
 dsimp only
 refine b_ (Hj hI (by simp) fun h1 g1 b1=>?_)
 refine b_ ?_
 simp only [newExc,newTuple]
 refine b_ (F6 ?_ (by size_fits))
 refine b_ (m:=Km _ _) (HY (a:=FB) (by first | rfl | (simp only [Km]; rfl)) ?_)
 refine F6 ?_ (by size_fits)
 simp only [raiseNew]
 refine b_ (wpAny_handled ?_)
 rw [show A.in1.handled=none from hh]
 refine b_ (c_ (wpAny_throw ?_))
 refine b_ (KO (T:="StopIteration") (b:=true) ⟨_,h_ _ rfl,rfl⟩ isSubtype_stop ?_)
 exact c_ (hQ _ ((b1.extBut.push _).push _))
theorem uH {I S T:Addr} {es:Array (Int×Value)} {ep i:Nat} {t:SetTable} {pl:Array Value} {Q:Option Value→Shared→Prop} (r:Rd w s.heap S es ep t) (hI:s.heap.get? I=some (sIt (.ref T) i S es.size ep)) (hT:s.heap.IsTuple T pl)
 {k:Nat} {h0:Int} {x:Value} (hp:pl[i]?=some (G2 k)) (hk:es[k]?=some (h0,x))
 (hQ:∀ h',h'.get? I=some (sIt (.ref T) (i + 1) S es.size ep)→Ib I s.heap h'→Q (some x) { s with heap:=h' }):l_ (o_ prog w) A (Jn (.ref I)) Q E s:=by
 have ty:s.TypeIs (.ref I) "set_iterator":=⟨_,hI,rfl⟩
 obtain ⟨o,ho,hex,hd⟩:=r.o
 obtain ⟨oT,hoT,_,nT,hdT⟩:=hT
 unfold Jn
 refine b_ (IK (GN (name:=a_ "__next__") ty sl_sin (Gx sl_sin ty oz ?_ (oA _))))
 unfold GL.«set_iterator.__next__»
 refine b_ (m:=Nl _ _ _) (HY (a:=(s_ I,[])) (by rfl) ?_)
 refine b_ (Kl hI rfl ?_)
 dsimp only [G2,JC]
 refine b_ (HP ho hd r.f ?_)
 rw [if_neg (by simp)]
 refine b_ (m:=pure _) (c_ ?_)
 dsimp only
 refine b_ (Kj hoT hdT ?_)
 dsimp only
 rw [KI,hp]
 dsimp only [G2]
 refine b_ ?_
 unfold setNextDrawn
 refine b_ (F5 ho hd r.f ?_)
 dsimp only
 rw [if_neg (by simp)]
 refine b_ (m:=pure _) (c_ ?_)
 rw [KI,hk]
 dsimp only
 refine c_ ?_
 refine b_ (Hj hI (by simp) fun h1 g1 b1=>?_)
 exact c_ ⟨x,rfl,c_ (hQ _ (by rw [oB]; simpa [G2] using g1) b1)⟩
theorem lD {I S T:Addr} {es:Array (Int×Value)} {ep i:Nat} {t:SetTable} {pl:Array Value} {Q:Option Value→Shared→Prop} (hh:A.handled=none) (r:Rd w s.heap S es ep t) (hI:s.heap.get? I=some (sIt (.ref T) i S es.size ep)) (hT:s.heap.IsTuple T pl)
 (hp:pl[i]?=none) (hQ:∀ h',Heap.ExtBut I s.heap h'→Q none { s with heap:=h' }):l_ (o_ prog w) A (Jn (.ref I)) Q E s:=by
 have ty:s.TypeIs (.ref I) "set_iterator":=⟨_,hI,rfl⟩
 obtain ⟨o,ho,hex,hd⟩:=r.o
 obtain ⟨oT,hoT,_,nT,hdT⟩:=hT
 unfold Jn
 refine b_ (IK (GN (name:=a_ "__next__") ty sl_sin (Gx sl_sin ty oz ?_ (oA _))))
 unfold GL.«set_iterator.__next__»
 refine b_ (m:=Nl _ _ _) (HY (a:=(s_ I,[])) (by rfl) ?_)
 refine b_ (Kl hI rfl ?_)
 dsimp only [G2,JC]
 refine b_ (HP ho hd r.f ?_)
 rw [if_neg (by simp)]
 refine b_ (m:=pure _) (c_ ?_)
 dsimp only
 refine b_ (Kj hoT hdT ?_)
 dsimp only
 rw [KI,hp]
 dsimp only
 refine b_ (Hj hI (by simp) fun h1 g1 b1=>?_)
 refine b_ (Hj g1 (by simp) fun h2 g2 b2=>?_)
 refine b_ ?_
 simp only [newExc,newTuple]
 refine b_ (F6 ?_ (by size_fits))
 refine b_ (m:=Km _ _) (HY (a:=FB) (by first | rfl | (simp only [Km]; rfl)) ?_)
 refine F6 ?_ (by size_fits)
 simp only [raiseNew]
 refine b_ (wpAny_handled ?_)
 rw [show A.in1.handled=none from hh]
 refine b_ (c_ (wpAny_throw ?_))
 refine b_ (KO (T:="StopIteration") (b:=true) ⟨_,h_ _ rfl,rfl⟩ isSubtype_stop ?_)
 exact c_ (hQ _ (((b1.trans b2).extBut.push _).push _))
theorem vL {S:Addr} {es:Array (Int×Value)} {ep i slot:Nat} {t:SetTable} {R:Option (Value×Nat)→Shared→Prop} (r:Rd w s.heap S es ep t) (hb:byT w=true)
 (hR:R (((Kg (w.params.setOrder S ep) es)[i]?).map fun e=>(e.2,slot)) s):l_ (o_ prog w) A (K8 S slot i ep) R E s:=by
 obtain ⟨o,ho,hex,hd⟩:=r.o
 unfold K8 Mi setWalk Mi
 refine b_ (F5 ho hd r.f ?_)
 dsimp only
 refine b_ (b_ (HS (c_ ?_)))
 dsimp only
 rw [if_pos (show (o_ prog w).w.params.followText "set-order"=true from hb),if_neg (by simp)]
 refine b_ (b_ (F5 ho hd r.f ?_))
 dsimp only
 refine b_ (b_ (HS (c_ ?_)))
 dsimp only
 rw [if_pos (show (o_ prog w).w.params.followText "set-order"=true from hb)]
 refine b_ (HS (c_ ?_))
 exact c_ hR
theorem vM {S:Addr} {es:Array (Int×Value)} {ep i slot:Nat} {t:SetTable} {R:Option (Value×Nat)→Shared→Prop} (r:Rd w s.heap S es ep t) (hb:byT w=false) (hn:es.size≤1)
 (hR:R (match es[SetTable.below t.place slot]?,t.place[SetTable.below t.place slot]? with | some (_,x),some j=>some (x,j + 1) | _,_=>none) s):l_ (o_ prog w) A (K8 S slot i ep) R E s:=by
 obtain ⟨o,ho,hex,hd⟩:=r.o
 have hl:t.led=true:=by rw [r.l,hb]; rfl
 unfold K8 Mi
 refine b_ (F5 ho hd r.f ?_)
 dsimp only
 refine b_ (b_ (HS (c_ ?_)))
 dsimp only
 rw [if_neg (show ¬ ((o_ prog w).w.params.followText "set-order"=true) from by rw [show (o_ prog w).w.params.followText "set-order"=false from hb]; simp)]
 split
 · rename_i hc
   have hc':(!t.plain && decide (es.size > 1))=true:=hc
   simp at hc'
   omega
 · refine b_ (HY (a:=()) ?_ (c_ hR))
   show (if (!t.led && !es.isEmpty)=true then _ else pure ())=pure ()
   rw [hl]
   rfl
end
theorem vN:Slot "set_iterator" "__iter__" "set_iterator.__iter__" :=
 .of (n:="__iter__") (owner:="set_iterator") (by rw [typeLookup_type,Lu]; kernel_rfl) (by decide +kernel) (by decide +kernel) (by decide +kernel) (by first | exact .inl (by decide +kernel) | exact .inr (by decide +kernel)) (by rw [LC]; kernel_rfl)
theorem AA:entryFor table "set_iterator.__iter__"=some GL.«dict_keyiterator.__iter__» :=
 entryFor_alias (id':="dict_keyiterator.__iter__") (by kernel_rfl) (by first | rfl | decide +kernel | (unfold String.splitOn; simp +decide [String.splitOnAux])) (by decide +kernel) (by kernel_rfl)
theorem AB (a:Value):argsOk "set_iterator.__iter__" ⟨[a],[]⟩:=by unfold argsOk; kernel_rfl
theorem rR {α:Type} {xs:Array α} (h:xs.size=1):∃ a,xs=#[a]:=by
 obtain ⟨l⟩:=xs
 match l,h with
 | [a],_=>exact ⟨a,rfl⟩
section
variable {prog:Program} {w:uk} {A:q_} {E:Value→Shared→Prop} {s:Shared}
theorem lE {I:Addr} {Q:Value→Shared→Prop} (hT:s.TypeIs (.ref I) "set_iterator") (h:Q (.ref I) s):l_ (o_ prog w) A (Mj (.ref I)) Q E s:=by
 refine wpAny_pyIter_slot hT vN (Gx vN hT AA ?_ (AB _))
 show l_ _ _ (ret (.ref I)) _ _ s
 exact c_ ⟨_,rfl,"set_iterator",_,hT,sl_sin.lookup,h⟩
theorem lF (hh:A.handled=none) (I S:Addr) (hne:S≠I) (es:Array (Int×Value)) (ep:Nat) (t:SetTable) (vs:List Value) (sl:Nat→Nat) (hl:vs.length=es.size)
 (hN:∀ (i:Nat) (v:Value) (s:Shared) (R:Option (Value×Nat)→Shared→Prop) (E':Value→Shared→Prop),Rd w s.heap S es ep t→vs[i]?=some v→R (some (v,sl (i + 1))) s→l_ (o_ prog w) A.in1 (K8 S (sl i) i ep) R E' s)
 (hE:∀ (s:Shared) (R:Option (Value×Nat)→Shared→Prop) (E':Value→Shared→Prop),Rd w s.heap S es ep t→R none s→l_ (o_ prog w) A.in1 (K8 S (sl vs.length) vs.length ep) R E' s) :
 Walks prog w A I [I,S] [I] vs.length (fun i v=>vs[i]?=some v) (fun i h=>h.get? I=some (sIt (G2 (sl i)) i S es.size ep)∧Rd w h S es ep t) where
 sub:=fun b hb=>by simp at hb; simp [hb]
 frame:=fun _ _ _ st hk=>⟨hk I (by simp) _ st.1,st.2.moved fun o e=>hk S (by simp) o e⟩
 item:=fun i s Q E hi st hQ=>by
  have hv:vs[i]?=some vs[i]:=by simp [hi]
  refine uG st.2 st.1 (x:=vs[i]) (nx:=sl (i + 1)) (fun R E' hR=>hN i _ s R E' st.2 hv hR) fun h' g b=>?_
  exact hQ _ h' s.toks hv ⟨g,st.2.moved fun o e=>b.extBut S o hne e⟩ fun b' o hb e=>b.extBut b' o (fun h=>hb (by simp [h])) e
 done:=fun s Q E st hQ=>lC hh st.2 st.1 (fun R E' hR=>hE s R E' st.2 hR) fun h' he'=>hQ h' s.toks fun b o hb e=>he' b o (fun h=>hb (by simp [h])) e
 self:=fun _ _ _ _ st hQ=>lE ⟨_,st.1,rfl⟩ hQ
theorem rS (hh:A.handled=none) (I S T:Addr) (hne:S≠I) (hT:T≠I) (es:Array (Int×Value)) (ep:Nat) (t:SetTable) (ks:List Nat) (vs:List Value) (hl:vs.length=ks.length)
 (hk:∀ (i:Nat) (k:Nat) (v:Value),ks[i]?=some k→vs[i]?=some v→∃ h0,es[k]?=some (h0,v)) :
 Walks prog w A I [I,S,T] [I] vs.length (fun i v=>vs[i]?=some v) (fun i h=>h.get? I=some (sIt (.ref T) i S es.size ep)∧Rd w h S es ep t∧h.IsTuple T (ks.map fun (i:Nat)=>G2 i).toArray) where
 sub:=fun b hb=>by simp at hb; simp [hb]
 frame:=fun _ _ _ st hk=>⟨hk I (by simp) _ st.1,st.2.1.moved fun o e=>hk S (by simp) o e,st.2.2.at fun o e=>hk T (by simp) o e⟩
 item:=fun i s Q E hi st hQ=>by
  have hv:vs[i]?=some vs[i]:=by simp [hi]
  have hki:ks[i]?=some (ks[i]'(by omega)):=by simp [show i < ks.length by omega]
  obtain ⟨h0,e0⟩:=hk i _ _ hki hv
  refine uH st.2.1 st.1 st.2.2 (x:=vs[i]) (k:=ks[i]'(by omega)) (h0:=h0) (by simp [show i < ks.length by omega]) e0 fun h' g b=>?_
  exact hQ _ h' s.toks hv ⟨g,st.2.1.moved fun o e=>b.extBut S o hne e,st.2.2.extBut b.extBut hT⟩ fun b' o hb e=>b.extBut b' o (fun h=>hb (by simp [h])) e
 done:=fun s Q E st hQ=>lD hh st.2.1 st.1 st.2.2 (by simp [hl]) fun h' he'=>hQ h' s.toks fun b o hb e=>he' b o (fun h=>hb (by simp [h])) e
 self:=fun _ _ _ _ st hQ=>lE ⟨_,st.1,rfl⟩ hQ
structure Wk (prog:Program) (w:uk) (S I:Addr) (h:Heap) (h':Heap) (es:Array (Int×Value)) (vs:List Value) (fp:List Addr) (St:Nat→Heap→Prop):Prop where
 W:∀ A:q_,A.handled=none→Walks prog w A I fp [I] vs.length (fun i v=>vs[i]?=some v) St
 st:St 0 h'
 pm:vs.Perm (es.toList.map (·.2))
 up:∀ b o,h.get? b=some o→h'.get? b=some o
 nw:h.objs.size≤I
 fp:∀ b∈fp,(b=S∨h.objs.size≤b)∧b < h'.objs.size
theorem uI {S:Addr} {es:Array (Int×Value)} {ep:Nat} {t:SetTable} {Q:Value→Shared→Prop} (r:Rd w s.heap S es ep t) (hn60:es.size≤60)
 (hQ:∀ (I:Addr) (h':Heap) (d:NE) (vs:List Value) (fp:List Addr) (St:Nat→Heap→Prop),Wk prog w S I s.heap h' es vs fp St→Q (.ref I) { s with heap:=h',drawn:=d }):l_ (o_ prog w) A (Mj (.ref S)) Q E s:=by
 obtain ⟨o,ho,hex,hd⟩:=id r.o
 have hT:s.TypeIs (.ref S) "set":=⟨o,ho,hex.1⟩
 have hS:S < s.heap.objs.size:=m_ ho
 have hsz:t.place.size=es.size:=by have:=r.f; unfold NA at this; simp at this; exact this.1
 refine wpAny_pyIter_slot hT F.slot_set_iter (Gx F.slot_set_iter hT Dk ?_ (F.args_set_iter_1 _))
 unfold GL.«frozenset.__iter__»
 refine b_ (m:=NF _ _) (HY (a:=S) (by rfl) ?_)
 refine b_ ?_
 unfold NC
 refine b_ (HP ho hd r.f (c_ ?_))
 refine b_ ?_
 unfold setDrawn Mi
 refine b_ (F5 ho hd r.f ?_)
 dsimp only
 refine b_ (b_ (HS (c_ (c_ ?_))))
 dsimp only
 split
 · rename_i hc
   have hc':(!byT w && (!t.plain && decide (es.size > 1)))=true:=hc
   simp at hc'
   refine b_ (rQ _ _ _ _ (by simp) fun ks d hp=>?_)
   have z:ks.length≤sizeLine:=by
    have h1:=hp.length_eq
    rw [Ix] at h1
    have:sizeLine=16777216:=by decide
    omega
   unfold newTuple
   refine b_ (F6 ?_ (by simpa [sizeOk] using z))
   have ho1:(s.heap.push { cls:=.type "tuple",data:=.seq (ks.map fun (i:Nat)=>G2 i).toArray }).get? S=some o:=d_ _ ho
   refine b_ ?_
   unfold setEpoch
   refine b_ (F5 ho1 hd r.f (c_ ?_))
   refine b_ (F6 (c_ ⟨_,rfl,"set_iterator",_,⟨_,h_ _ rfl,rfl⟩,sl_sin.lookup,?_⟩))
   have hlt:∀ k∈ks,k < es.size:=fun k hk=>by simpa using hp.mem_iff.mp hk
   refine hQ _ _ d (ks.map fun k=>(es.toList.map (·.2)).getD k .none) [(s.heap.push { cls:=.type "tuple",data:=.seq (ks.map fun (i:Nat)=>G2 i).toArray }).objs.size,S,s.heap.objs.size] _
    ⟨fun A' h'=>rS h' _ S s.heap.objs.size (by rw [z_]; exact n_ (w_ hS)) (by rw [z_]; exact n_ (GI _)) es ep t ks _ (by simp) (fun i k v e1 e2=>?_),⟨h_ _ rfl,r.moved (fun o' e=>d_ _ (d_ _ e)),?_⟩,?_,fun b o' e=>d_ _ (d_ _ e),by rw [z_]; exact Hg _,?_⟩
   · have hk:=hlt k (GR e1)
     simp [e1] at e2
     refine ⟨es[k].1,?_⟩
     rw [← e2]
     simp [hk]
   · exact ⟨_,d_ _ (h_ _ rfl),rfl,0,rfl⟩
   · have e:(f_ es.size).map (fun k=>(es.toList.map (·.2)).getD k .none)=es.toList.map (·.2):=FD.range_getD _ _ _ (by simp)
     exact (hp.map _).trans (by rw [e])
   · intro b hb
     rw [z_,z_]
     rw [z_] at hb
     simp only [p_,FP,or_false] at hb
     rcases hb with hb | hb | hb
     · subst hb
       exact ⟨.inr (Hg _),GI _⟩
     · subst hb
       exact ⟨.inl rfl,w_ (w_ hS)⟩
     · subst hb
       exact ⟨.inr (j_ _),w_ (GI _)⟩
 · rename_i hc
   have hc':¬ ((!byT w && (!t.plain && decide (es.size > 1)))=true):=hc
   refine b_ (c_ ?_)
   refine b_ ?_
   unfold setEpoch
   refine b_ (F5 ho hd r.f (c_ ?_))
   refine b_ (F6 (c_ ⟨_,rfl,"set_iterator",_,⟨_,h_ _ rfl,rfl⟩,sl_sin.lookup,?_⟩))
   have fin:∀ (vs:List Value) (sl:Nat→Nat),sl 0=0→vs.Perm (es.toList.map (·.2))→(∀ A:q_,A.handled=none→Walks prog w A s.heap.objs.size [s.heap.objs.size,S] [s.heap.objs.size] vs.length (fun i v=>vs[i]?=some v) (fun i h=>h.get? s.heap.objs.size=some (sIt (G2 (sl i)) i S es.size ep)∧Rd w h S es ep t)) →
    Q (.ref s.heap.objs.size) { s with heap:=s.heap.push (sIt (G2 0) 0 S es.size ep) }:=by
    intro vs sl h0 hp hW
    have e:({ s with heap:=s.heap.push (sIt (G2 0) 0 S es.size ep) }:Shared)={ s with heap:=s.heap.push (sIt (G2 0) 0 S es.size ep),drawn:=s.drawn }:=rfl
    rw [e]
    refine hQ _ _ s.drawn vs _ _ ⟨hW,⟨by rw [h0]; exact h_ _ rfl,r.moved (fun o' e=>d_ _ e)⟩,hp,fun b o' e=>d_ _ e,j_ _,fun b hb=>?_⟩
    rw [z_]
    simp only [p_,FP,or_false] at hb
    rcases hb with hb | hb
    · subst hb
      exact ⟨.inr (j_ _),GI _⟩
    · subst hb
      exact ⟨.inl rfl,w_ hS⟩
   by_cases hb:byT w=true
   · have hpm:(Kg (w.params.setOrder S ep) es).toList.Perm es.toList:=by
      have:=lB (w.params.setOrder S ep) es.size 0 es.toList #[] (by simp)
      simpa [Kg] using this
     have hlen:(Kg (w.params.setOrder S ep) es).size=es.size:=by simpa using hpm.length_eq
     refine fin ((Kg (w.params.setOrder S ep) es).toList.map (·.2)) (fun _=>0) rfl (hpm.map _) fun A' h'=>lF h' _ S (n_ hS) es ep t _ _ (by simp [hlen]) (fun i v s1 R E' r1 e1 hR=>vL r1 hb ?_) (fun s1 R E' r1 hR=>vL r1 hb ?_)
     · simp at e1
       obtain ⟨a,e1⟩:=e1
       rw [e1]
       exact hR
     · rw [show (Kg (w.params.setOrder S ep) es)[(Nz (·.2) (Kg (w.params.setOrder S ep) es).toList).length]?=none by simp]
       exact hR
   · have hb':byT w=false:=by simpa using hb
     have hn1:es.size≤1:=by
      rw [hb'] at hc'
      by_cases z:es.size=0
      · omega
      · rw [r.p z] at hc'
        simp at hc'
        exact hc'
     refine fin (es.toList.map (·.2)) (fun i=>if i=0 then 0 else t.place.getD 0 0 + 1) rfl (.refl _) fun A' h'=>lF h' _ S (n_ hS) es ep t _ _ (by simp) (fun i v s1 R E' r1 e1 hR=>vM r1 hb' hn1 ?_) (fun s1 R E' r1 hR=>vM r1 hb' hn1 ?_)
     · have hi:i=0:=by
        have:=u_.mp e1
        obtain ⟨q,_⟩:=this
        simp at q
        omega
       subst hi
       obtain ⟨a,ea⟩:∃ a,es=#[a]:=by
        obtain ⟨l⟩:=es
        have:=(u_.mp e1).1
        match l,this,hn1 with
        | [a],_,_=>exact ⟨a,rfl⟩
        | _ :: _ :: _,_,h=>simp at h
       subst ea
       obtain ⟨j,ej⟩:∃ j,t.place=#[j]:=rR hsz
       simp at e1
       subst e1
       rw [ej] at hR ⊢
       simpa [below,MC] using hR
     · by_cases z:es.size=0
       · have e0:es=#[]:=Array.eq_empty_of_size_eq_zero z
         subst e0
         simpa using hR
       · obtain ⟨a,ea⟩:=rR (xs:=es) (by omega:es.size=1)
         subst ea
         obtain ⟨j,ej⟩:∃ j,t.place=#[j]:=rR hsz
         rw [ej]
         simpa [below,MC] using hR
end
section
variable {prog:Program} {w:uk} {A:q_} {E:Value→Shared→Prop} {s:Shared}
theorem iP {S:Addr} {es:Array (Int×Value)} {ep:Nat} {t:SetTable} {Q:List Value→Shared→Prop} (hh:A.handled=none) (r:Rd w s.heap S es ep t) (hn60:es.size≤60)
 (hQ:∀ (h':Heap) (d:NE) (tk:Nat) (vs:List Value),vs.Perm (es.toList.map (·.2))→s.heap.objs.size < h'.objs.size→(∀ b o,s.heap.get? b=some o→h'.get? b=some o)→Q vs { s with heap:=h',drawn:=d,toks:=tk }):l_ (o_ prog w) A (Ng (.ref S)) Q E s:=by
 obtain ⟨o,ho,hex,hd⟩:=id r.o
 have hS:S < s.heap.objs.size:=m_ ho
 unfold Ng
 refine b_ (Jl (Gv F.entry_proto_collect ?_))
 rw [GP F.plain_proto_collect _]
 show l_ _ A.in1 (newList [] >>= fun l=>Np (.builtin "list.__iadd__" ⟨[l,.ref S],[]⟩)) _ _ s
 refine b_ (F6 ?_)
 refine c_ ⟨JN F.plain_list_iadd _,Gv F.entry_list_iadd ?_⟩
 rw [GP F.plain_list_iadd _]
 show l_ _ A.in1 (Hb (.ref s.heap.objs.size) (.ref S) (.ref s.heap.objs.size)) _ _ _
 unfold Hb
 generalize hH:s.heap.push { cls:=.type "list",data:=.seq ([]:List Value).toArray }=H
 have hHs:H.objs.size=s.heap.objs.size + 1:=by rw [← hH,z_]
 have up0:∀ b ob,s.heap.get? b=some ob→H.get? b=some ob:=fun b ob e=>hH ▸ d_ _ e
 have hL:H.get? s.heap.objs.size=some { cls:=.type "list",data:=.seq ([]:List Value).toArray }:=hH ▸ h_ _ rfl
 have ty:HI { s with heap:=H } (.ref S) "set":=⟨o,up0 _ _ ho,hex.1⟩
 refine b_ (Hy (T:="set") ty ?_)
 have h1:KN (.ref s.heap.objs.size) (.ref S)=false:=by simp [KN]; exact (n_ hS).symm
 have h2:(r_ "set" == r_ "list")=false:=by decide
 have h3:(r_ "set" == r_ "tuple")=false:=by decide
 simp only [h1,h2,h3,Bool.or_false,on,if_false]
 refine b_ (uI (s:={ s with heap:=H }) (r.moved fun o e=>up0 _ _ e) hn60 fun I h' d vs fp St K=>?_)
 have ty':HI { s with heap:=h',drawn:=d } (.ref S) "set":=⟨o,K.up _ _ (up0 _ _ ho),hex.1⟩
 refine b_ (Gb ?_)
 unfold Builtin.List.listLengthHint
 refine b_ (wpAny_specialOf ty' F.slot_set_len.lookup ?_)
 wp_delta
 refine b_ (KO (T:="set") (b:=true) ty' (by rw [LC]; kernel_rfl) ?_)
 show l_ _ A.in1 (Nj (s_ S) >>= _) _ _ _
 refine b_ (Hy (T:="set") ty' ?_)
 refine c_ ?_
 show l_ _ A.in1 (rule "list.extend.makes-room" >>= fun _=>Builtin.List.listTouch (.ref s.heap.objs.size) >>= fun _ =>
  Np (.builtin "list.extend.loop" ⟨[.ref s.heap.objs.size,.ref I,.ref s.heap.objs.size],[]⟩)) _ _ _
 refine b_ (IU ?_)
 have hS1:h'.get? s.heap.objs.size=some { cls:=.type "list",data:=.seq ([]:List Value).toArray }:=K.up _ _ hL
 refine b_ ?_
 show l_ _ A.in1 (updateSeq s.heap.objs.size (·.push .none) >>= fun _=>updateSeq s.heap.objs.size (·.pop)) _ _ _
 refine b_ (wpAny_updateSeq hS1 rfl ?_)
 have hS2:=Hs (Fy (·.push FB)) hS1 rfl
 refine wpAny_updateSeq hS2 rfl ?_
 have hS3:=Hs (Fy (·.pop)) hS2 rfl
 have oth:∀ b ob,b≠s.heap.objs.size→h'.get? b=some ob→((h'.update s.heap.objs.size (Fy (·.push FB))).update s.heap.objs.size (Fy (·.pop))).get? b=some ob :=
  fun b ob hb e=>(Ia _ _ (IC hb)).trans ((Ia _ _ (IC hb)).trans e)
 have hSf:s.heap.objs.size ∉ fp:=fun hm=>by
  rcases (K.fp _ hm).1 with e | e
  · exact absurd e (n_ hS).symm
  · rw [hHs] at e
    exact absurd e (Nat.not_le.mpr (GI _))
 have W:=K.W A.in1 hh
 have hvn:vs.length≤sizeLine:=by
  have h1:=K.pm.length_eq
  simp at h1
  have:sizeLine=16777216:=by decide
  omega
 refine c_ ⟨JN F.plain_extend_loop _,codeAny_extend_loopS W.toS hvn _ hSf _ vs.length 0 _ _ _ rfl (FN _)
  (W.frame 0 h' _ K.st fun b hb ob e=>oth b ob (fun h=>hSf (h ▸ hb)) e) hS3 (ItemsOf.nil _) fun s' acc' c' hm hS' hacc=>?_⟩
 show l_ _ A (load s.heap.objs.size >>= _) _ _ s'
 refine b_ (wpAny_load hS' ?_)
 have eacc:acc'.toList=vs:=by
  apply M4
  · simpa using hacc.1
  · intro i h1 h2
    have:vs[i]?=some acc'[i]:=hacc.2 i acc'[i] (by simp)
    rw [i_ h2] at this
    simpa using this.symm
 show l_ _ A (pure acc'.toList) _ _ s'
 rw [eacc]
 obtain ⟨h2',g',d',tk',os'⟩:=s'
 have eg:g'=s.gens:=hm.gens
 have ed:d'=d:=hm.drawn
 have eo:os'=s.os:=hm.os
 subst eg; subst ed; subst eo
 refine c_ (hQ h2' d' tk' vs K.pm (m_ hS') fun b ob e=>hm.heap b ob (fun hb=>?_) (oth b ob (n_ (m_ e)) (K.up _ _ (up0 _ _ e))))
 have hlt:=m_ e
 rcases p_.mp hb with h | h
 · exact absurd hlt (h ▸ Gy _)
 · rw [Gs.mp h] at hlt
   have:=K.nw
   rw [hHs] at this
   exact absurd (Li hlt this) (Gy _)
theorem SetS.rd {h:Heap} {S:Addr} {ks:List Str} (x:SetS prog w h S ks):∃ es ep t,Rd w h S es ep t∧es.size≤60∧(∀ e∈es.toList,∃ x t,e.2=.str x t)∧(es.toList.map fun e=>M8 e.2).Perm ks:=by
 obtain ⟨o,es,ep,t,ho,hex,hd,hf,hk,hl,hp,hel,hs,hm⟩:=x
 refine ⟨es,ep,t,⟨⟨o,ho,hex,hd⟩,hf,hl,hp⟩,?_,hs,hm⟩
 have:=hm.length_eq
 simp at this
 omega
theorem rT:∀ {vs:List Value},(∀ v∈vs,∃ x t,v=.str x t)→MI vs (vs.map M8)
 | [],_=>.nil
 | v :: vs,h=>by
  obtain ⟨x,t,rfl⟩:=h v g_
  exact .cons x t (rT fun v hv=>h v (ge _ hv))
theorem sorted_set {S:Addr} {ks:List Str} {Q:Value→Shared→Prop} (hh:A.handled=none) (x:SetS prog w s.heap S ks)
 (h:∀ (l:Addr) (h':Heap) (d:NE) (tk:Nat) (out:List Value) (e:Nat),MI out (FD.isortB FD.leS ks)→h'.get? l=some (B_ "list" out.toArray e)→s.heap.objs.size≤l→(∀ b o,s.heap.get? b=some o→h'.get? b=some o)→Q (.ref l) { s with heap:=h',drawn:=d,toks:=tk }) :
 l_ (o_ prog w) A (call (.builtin "sorted") [.ref S]) Q E s:=by
 obtain ⟨es,ep,t,r,h60,hs,hm⟩:=x.rd
 refine IF LQ Lg Lh (MH _) ?_
 unfold GL.«sorted»
 refine b_ (m:=Ml "sorted" 1 1 _) (c_ ?_)
 refine b_ (iP hh r h60 fun h1 d tk vs hp hgr up=>?_)
 have hvs:∀ v∈vs,∃ x t,v=GG x t:=fun v hv=>by
  obtain ⟨e,he,rfl⟩:=C_.mp (hp.mem_iff.mp hv)
  exact hs e he
 have hS:=rT hvs
 have hlen:vs.length < 64:=by
  have:=hp.length_eq
  simp at this
  omega
 have hpk:(vs.map M8).Perm ks:=by
  have:=hp.map M8
  rw [GC] at this
  exact this.trans hm
 refine b_ (Io ?_ (FD.line64 hlen))
 have hoL:(h1.push (B_ "list" vs.toArray 0)).get? h1.objs.size=some (B_ "list" vs.toArray 0):=h_ _ rfl
 refine b_ (Gb (Gx Kv ⟨_,hoL,rfl⟩ J6 (list_sort_treeK strKind_oneLt hoL hS.keysOf (fun v₁ v₂ cz e=>keyKind_strs (by rw [← e]; exact hS)) hlen fun st' hp' hs'=>⟨_,rfl,?_⟩) (LS _)))
 obtain ⟨ss',a1,a2,a3⟩:=sorted_out_str hS hp' hs'
 have es':ss'=FD.isortB FD.leS ks:=FD.sorted_uniq FD.ordS ((a2.trans hpk).trans (FD.isortB_perm FD.leS ks).symm) (FD.sortedS_pw _ a3) (FD.isortB_sorted FD.ordS ks)
 subst es'
 obtain ⟨e,he⟩:=Mf (out:=(JE st').map (·.2)) hoL
 refine c_ ⟨_,rfl,h _ _ d tk _ e a1 (by rw [JW]; exact he) (Hd hgr) fun b ob q=>?_⟩
 · have q1:=up _ _ q
   have hlt:=m_ q1
   rw [LP (n_ hlt) (by rw [z_]; exact w_ hlt),F7 _ _ _ (n_ hlt)]
   exact q1
end
end ST
namespace FD
open PySem PySem.Spec PyProof.Rows L2
def iQ:List Dv→Option (Rs Dv)
 | [.lst ds]=>match bh ds with
  | some ks=>if ks.length≤59 then some (.ok (.lst ((isortB leS (ST.ddk ks)).map Dv.str))) else none
  | none=>none
 | [.tup ds]=>match bh ds with
  | some ks=>if ks.length≤59 then some (.ok (.lst ((isortB leS (ST.ddk ks)).map Dv.str))) else none
  | none=>none
 | _=>none
theorem lG {X:Cx} {pins:List (Addr×Obj)} {σ:List (Option V)} {H:Hp} {s:Shared} (I:Inv X pins σ H s) (d:NE):Inv X pins σ H { s with drawn:=d }:=⟨I.ok,I.os,I.bare,I.base,I.loc,I.cell,I.free,I.freeC,I.pin,I.hok,I.len⟩
theorem ke:∀ {vs:List Value} {ss:List Str},MI vs ss→vs.length=ss.length∧∀ (i:Nat) (v:Value),vs[i]?=some v→∃ tk,v=GG (ss.getD i "") tk
 | _,_,.nil=>⟨rfl,fun i v h=>by simp at h⟩
 | _,_,.cons x t h=>by
  obtain ⟨h1,h2⟩:=ke h
  refine ⟨by simp [h1],fun i v e=>?_⟩
  cases i with
  | zero=>simp at e; exact ⟨t,by simp [← e]⟩
  | succ i=>obtain ⟨tk,q⟩:=h2 i v (by simpa using e); exact ⟨tk,by simpa using q⟩
section
variable {X:Cx} {p p2 pos pos2:Pos} {e:Expr} {ga:FnA}
theorem pH (hc:X.calm=true) (hg:Gl X "sorted") (hm:X.mg "sorted"=none) (hg2:Gl X "set") (hm2:X.mg "set"=none) (ha:FA X [e] ga)
 (he:e_ [.Call (.Name "set" p2) [e] [] pos2] X.env=(false,eval (.Call (.Name "set" p2) [e] [] pos2) X.env) :: e_ [] X.env:=by kernel_rfl) (hpl:(F0 pos (e_ [] X.env)).any (·.1)=false:=by kernel_rfl)
 (he2:e_ [e] X.env=(false,eval e X.env) :: e_ [] X.env:=by kernel_rfl) (hpl2:(F0 pos2 (e_ [] X.env)).any (·.1)=false:=by kernel_rfl) :
 FE X (.Call (.Name "sorted" p) [.Call (.Name "set" p2) [e] [] pos2] [] pos) (fB1 iQ ga):=⟨fun pins s σ H Q I ⟨ρ,E,o⟩=>by
 refine Gr (cZ I hg hm (u:=.builtin "sorted") (by decide +kernel) ?_ (by decide) (by decide))
 refine G3 ?_ he hpl
 rw [he]
 show l_ _ _ (Nd ((false,eval (.Call (.Name "set" p2) [e] [] pos2) X.env) :: F0 pos (e_ [] X.env))) _ _ s
 refine IZ ?_
 refine Gr (cZ I hg2 hm2 (u:=.type "set") (by decide +kernel) ?_ (by decide) (by decide))
 refine Ge (thn (ha.h pos2 pins s σ H _ I ⟨ρ,E,OutA.bind o fun ds vs H1 e1 rs o1=>(show ∃ ds,Reps X.K H1 ds vs∧Out X H1 (iQ ds) Q from ⟨ds,rs,o1⟩)⟩) fun us s1 ⟨vs,H1,I1,r1,ds,rs,o1⟩=>?_) he2 hpl2
 have fin:∀ (ks:List Str) (h':Heap) (tk:Nat),ks.length≤59→Out X H1 (some (.ok (.lst ((isortB leS (ST.ddk ks)).map Dv.str)))) Q→ST.SetS X.prog X.w h' s1.heap.objs.size (ST.ddk ks)→(∀ b o,b < s1.heap.objs.size→s1.heap.get? b=some o→h'.get? b=some o)→l_ (o_ X.prog X.w) X.A (call (.builtin "sorted") [.ref s1.heap.objs.size]) (EP X pins σ Q) X.xe { s1 with heap:=h',toks:=tk }:=by
  intro ks h' tk hk o1 hS hkp
  refine ST.sorted_set (I1.ok.hd hc) hS fun l h2 d tk2 out e0 a1 a2 a3 a4=>?_
  have hlt:s1.heap.objs.size≤l:=by
   obtain ⟨_,_,_,_,q,_⟩:=hS
   exact Hd (x_ (m_ q) a3)
  refine ⟨.ref l,_,lG (I1.laid (h':=h2) (t':=tk2) (o:=.lst ((isortB leS (ST.ddk ks)).map V.str)) (fun b ob q=>a4 _ _ (hkp b ob (m_ q) q)) hlt ?_) d,rfl,o1 _ _ (ar (I1.hok.fresh hlt) _) ⟨l,_,rfl,am,gJ _ _⟩⟩
  exact ⟨line64 (by rw [y_,(isortB_perm leS _).length_eq]; have:=ST.ddk_le ks; omega),out,e0,gI a1,by simpa [B_] using a2⟩
 unfold iQ at o1
 split at o1
 · rename_i es
   obtain ⟨v,rfl,r⟩:=cM rs
   obtain ⟨l,xs,rfl,hl,rx⟩:=r.lstE
   obtain ⟨u,rfl,ru⟩:=dJ r1
   cases (show u=s_ l from ru)
   split at o1
   · rename_i ks hks
     split at o1
     · rename_i hnd
       obtain ⟨z,its,n,rv,hz,eh⟩:=I1.lstM hl
       obtain ⟨q1,q2⟩:=ke (iu hks rx rv)
       have hsz:its.toArray.size=ks.length:=by simp [q1]
       refine ST.call_set_L2 (items:=its.toArray) (key:=fun i=>ks.getD i "") (I1.ok.hd hc) ⟨_,eh,rfl,n,rfl⟩ (fun i v hi=>q2 i v (by simpa using hi)) (by rw [hsz]; exact hnd) fun h' tk hS hkp=>?_
       refine Iw ?_
       rw [range_getD ks "" _ hsz] at hS
       exact fin ks h' tk hnd o1 hS hkp
     · exact o1.elim
   · exact o1.elim
 · rename_i es
   obtain ⟨v,rfl,r⟩:=cM rs
   obtain ⟨l,xs,rfl,hl,rx⟩:=r.tupE
   obtain ⟨u,rfl,ru⟩:=dJ r1
   cases (show u=s_ l from ru)
   split at o1
   · rename_i ks hks
     split at o1
     · rename_i hnd
       obtain ⟨its,rv,pl,hz⟩:=I1.tuple (SqT.of hl)
       obtain ⟨q1,q2⟩:=ke (iu hks rx rv)
       have hsz:its.toArray.size=ks.length:=by simp [q1]
       refine ST.call_set_T2 (items:=its.toArray) (key:=fun i=>ks.getD i "") (I1.ok.hd hc) pl (fun i v hi=>q2 i v (by simpa using hi)) (by rw [hsz]; exact hnd) fun h' tk hS hkp=>?_
       refine Iw ?_
       rw [range_getD ks "" _ hsz] at hS
       exact fin ks h' tk hnd o1 hS hkp
     · exact o1.elim
   · exact o1.elim
 · exact o1.elim⟩
end
end FD
namespace TS
open PySem PyProof.Rows
section logic
variable {M:LL} {A:q_} {E:Value→Shared→Prop} {J:Shared→Prop} {σ α β:Type}
def wpJ (M:LL) (A:q_) (E:Value→Shared→Prop) (J:Shared→Prop) (m:StateT σ Sem α) (Q:α→σ→Prop) (st:σ):Prop :=
 ∀ s,J s→l_ M A (m.run st) (fun r s'=>J s'∧Q r.1 r.2) E s
theorem bu {a:α} {Q:α→σ→Prop} {st:σ} (h:Q a st):wpJ M A E J (pure a:StateT σ Sem α) Q st:=fun s hs=>by
 rw [Ln]
 exact c_ ⟨hs,h⟩
theorem aL {m:StateT σ Sem α} {f:α→StateT σ Sem β} {Q:β→σ→Prop} {st:σ} (h:wpJ M A E J m (fun a st'=>wpJ M A E J (f a) Q st') st):wpJ M A E J (m >>= f) Q st:=fun s hs=>by
 rw [StateT.run_bind]
 exact b_ (FQ (h s hs) (fun r s' h'=>h'.2 s' h'.1) fun _ _ e=>e)
theorem lH {m:StateT σ Sem α} {Q Q':α→σ→Prop} {st:σ} (h:wpJ M A E J m Q st) (hq:∀ a st',Q a st'→Q' a st'):wpJ M A E J m Q' st:=fun s hs =>
 FQ (h s hs) (fun r _ h'=>⟨h'.1,hq _ _ h'.2⟩) fun _ _ e=>e
theorem pI {Q:σ→σ→Prop} {st:σ} (h:Q st st):wpJ M A E J (get:StateT σ Sem σ) Q st:=fun s hs=>by
 rw [StateT.run_get]
 exact c_ ⟨hs,h⟩
theorem iv {f:σ→σ} {Q:PUnit→σ→Prop} {st:σ} (h:Q ⟨⟩ (f st)):wpJ M A E J (modify f:StateT σ Sem PUnit) Q st:=fun s hs=>by
 rw [StateT.run_modify]
 exact c_ ⟨hs,h⟩
theorem rV {m:Sem α} {Q:α→σ→Prop} {st:σ} (h:∀ s,J s→l_ M A m (fun a s'=>J s'∧Q a st) E s):wpJ M A E J (liftM m:StateT σ Sem α) Q st:=fun s hs=>by
 show l_ M A ((StateT.lift m:StateT σ Sem α).run st) _ E s
 rw [StateT.run_lift]
 exact b_ (FQ (h s hs) (fun a s' h'=>c_ h') fun _ _ e=>e)
theorem AC (f:Nat→β→StateT σ Sem (ForInStep β)) (I:Nat→β→σ→Prop) (Q:β→σ→Prop) (b:Nat)
 (step:∀ i c st,i < b→I i c st→wpJ M A E J (f i c) (fun r st'=>match r with | .done c'=>Q c' st' | .yield c'=>I (i + 1) c' st') st)
 (fin:∀ c st,I b c st→Q c st):∀ (n a:Nat) (c:β) (st:σ),a + n=b→I a c st→wpJ M A E J (NH (List.range' a n 1) c f) Q st
 | 0,a,c,st,e,h=>by
  rw [List.range'_zero,LX]
  have:a=b:=by omega
  subst this
  exact bu (fin c st h)
 | n + 1,a,c,st,e,h=>by
  rw [List.range'_succ,Na]
  refine aL (lH (step a c st (by omega) h) fun r st' h'=>?_)
  cases r with
  | done c'=>exact bu h'
  | yield c'=>exact AC f I Q b step fin n (a + 1) c' st' (by omega) h'
theorem gL {a b:Nat} {f:Nat→β→StateT σ Sem (ForInStep β)} (I:Nat→β→σ→Prop) {Q:β→σ→Prop} (hab:a≤b)
 (step:∀ i c st,i < b→I i c st→wpJ M A E J (f i c) (fun r st'=>match r with | .done c'=>Q c' st' | .yield c'=>I (i + 1) c' st') st)
 (fin:∀ c st,I b c st→Q c st) {c:β} {st:σ} (h:I a c st):wpJ M A E J (NH [a:b] c f) Q st:=by
 rw [Std.Legacy.Range.forIn_eq_forIn_range']
 have hsz:([a:b]:MM).size=b - a:=by simp [Std.Legacy.Range.size]
 show wpJ M A E J (NH (List.range' a ([a:b]:MM).size 1) c f) Q st
 rw [hsz]
 exact AC f I Q b step fin (b - a) a c st (by omega) h
end logic
structure Od (blt:Nat→Nat→Bool):Prop where
 ir:∀ a,blt a a=false
 tr:∀ a b c,blt a b=true→blt b c=true→blt a c=true
 nt:∀ a b c,blt a c=true→blt a b=true∨blt b c=true
def Lex (blt:Nat→Nat→Bool) (a b:Nat):Prop:=blt a b=true∨(blt b a=false∧a < b)
section order
variable {blt:Nat→Nat→Bool}
theorem Od.le (O:Od blt) {a b c:Nat} (h1:blt b a=false) (h2:blt c b=false):blt c a=false:=by
 cases h:blt c a with
 | false=>rfl
 | true =>
  rcases O.nt _ b _ h with q | q
  · rw [q] at h2; cases h2
  · rw [q] at h1; cases h1
theorem Od.lt_le (O:Od blt) {a b c:Nat} (h1:blt a b=true) (h2:blt c b=false):blt a c=true:=by
 rcases O.nt _ c _ h1 with q | q
 · exact q
 · rw [q] at h2; cases h2
theorem Od.le_lt (O:Od blt) {a b c:Nat} (h1:blt b a=false) (h2:blt b c=true):blt a c=true:=by
 rcases O.nt _ a _ h2 with q | q
 · rw [q] at h1; cases h1
 · exact q
theorem Od.as (O:Od blt) {a b:Nat} (h:blt a b=true):blt b a=false:=by
 cases h':blt b a with
 | false=>rfl
 | true=>have:=O.tr _ _ _ h h'; rw [O.ir] at this; cases this
theorem Lex.tr (O:Od blt) {a b c:Nat} (h1:Lex blt a b) (h2:Lex blt b c):Lex blt a c:=by
 rcases h1 with h1 | ⟨h1,i1⟩
 · rcases h2 with h2 | ⟨h2,i2⟩
   · exact .inl (O.tr _ _ _ h1 h2)
   · exact .inl (O.lt_le h1 h2)
 · rcases h2 with h2 | ⟨h2,i2⟩
   · exact .inl (O.le_lt h1 h2)
   · exact .inr ⟨O.le h1 h2,by omega⟩
theorem Lex.of_le {a b:Nat} (h:blt b a=false) (i:a < b):Lex blt a b:=.inr ⟨h,i⟩
end order
structure SB (a₀:Array LU) (kd:K3) (p:Nat→Nat) (st:Jt):Prop where
 sz:(JE st).size=a₀.size
 at':∀ k,k < a₀.size→(JE st)[k]?=a₀[p k]?
 lt:∀ k,k < a₀.size→p k < a₀.size
 inj:∀ a b,a < a₀.size→b < a₀.size→p a=p b→a=b
 kind:kindOf st=kd
 failed:LR st=none
 pend:K2 st=#[]
def mir (p:Nat→Nat) (i j k:Nat):Nat:=if i≤k∧k < j then p (i + j - 1 - k) else p k
def bub (p:Nat→Nat) (src dst k:Nat):Nat:=if k=dst then p src else if dst < k∧k≤src then p (k - 1) else p k
section state
variable {a₀:Array LU} {kd:K3} {p:Nat→Nat} {st:Jt}
theorem SB.mirror (B:SB a₀ kd p st) {i j:Nat} (hj:j≤a₀.size):SB a₀ kd (mir p i j) (setArr st (mirror (JE st) i j ((j - i) / 2))) where
 sz:=(mirror_size _ _ _ _).trans B.sz
 at':=fun k hk=>by
  show (PyProof.Rows.mirror (JE st) i j ((j - i) / 2))[k]?=_
  rw [getElem?_mirror_all (by rw [B.sz]; exact hj)]
  unfold mir
  split
  · exact B.at' _ (by omega)
  · exact B.at' _ hk
 lt:=fun k hk=>by
  unfold mir
  split
  · exact B.lt _ (by omega)
  · exact B.lt _ hk
 inj:=fun a b ha hb e=>by
  unfold mir at e
  split at e <;> split at e
  · have:=B.inj _ _ (by omega) (by omega) e; omega
  · have:=B.inj _ _ (by omega) hb e; omega
  · have:=B.inj _ _ ha (by omega) e; omega
  · exact B.inj _ _ ha hb e
 kind:=B.kind
 failed:=B.failed
 pend:=B.pend
theorem SB.bubble (B:SB a₀ kd p st) {src dst:Nat} (hs:src < a₀.size) (hd:dst≤src):SB a₀ kd (bub p src dst) (setArr st (bubble (JE st) src (src - dst))) where
 sz:=(bubble_size _ _ _).trans B.sz
 at':=fun k hk=>by
  show (PyProof.Rows.bubble (JE st) src (src - dst))[k]?=_
  rw [getElem?_bubble (by rw [B.sz]; exact hs) _ (by omega),show src - (src - dst)=dst by omega]
  unfold bub
  split
  · exact B.at' _ hs
  · split
    · exact B.at' _ (by omega)
    · exact B.at' _ hk
 lt:=fun k hk=>by
  unfold bub
  split
  · exact B.lt _ hs
  · split
    · exact B.lt _ (by omega)
    · exact B.lt _ hk
 inj:=fun a b ha hb e=>by
  unfold bub at e
  repeat' split at e
  all_goals first
   | omega
   | (have:=B.inj _ _ (by omega) (by omega) e; omega)
 kind:=B.kind
 failed:=B.failed
 pend:=B.pend
end state
def Cm (M:LL) (A:q_) (J:Shared→Prop) (a₀:Array LU) (kd:K3) (blt:Nat→Nat→Bool):Prop :=
 ∀ (i j:Nat) (x y:LU) (s:Shared) (E':Value→Shared→Prop),a₀[i]?=some x→a₀[j]?=some y→J s→l_ M A (keyLt' kd x.1 y.1) (fun b s'=>J s'∧b=blt i j) E' s
section
variable {M:LL} {A:q_} {E:Value→Shared→Prop} {J:Shared→Prop} {a₀:Array LU} {kd:K3} {blt:Nat→Nat→Bool} {p:Nat→Nat} {st:Jt}
theorem AD {i j:Nat} {Q:Option Bool→Jt→Prop} (C:Cm M A J a₀ kd blt) (B:SB a₀ kd p st) (hi:i < a₀.size) (hj:j < a₀.size) (h:Q (some (blt (p i) (p j))) st):wpJ M A E J (ltAt' i j) Q st:=by
 have e1:(JE st)[i]?=some (a₀[p i]'(B.lt i hi)):=by rw [B.at' i hi]; simp [B.lt i hi]
 have e2:(JE st)[j]?=some (a₀[p j]'(B.lt j hj)):=by rw [B.at' j hj]; simp [B.lt j hj]
 rw [ltAt'_eq]
 refine aL (pI ?_)
 show wpJ M A E J (do let x ← elem' (JE st) i; let y ← elem' (JE st) j; lt' x y) Q st
 rw [elem'_eq,elem'_eq,e1,e2]
 refine aL (bu (aL (bu ?_)))
 rw [lt'_eq]
 refine aL (pI ?_)
 rw [B.kind]
 refine aL (rV fun s hs=>IK (FQ (C (p i) (p j) _ _ s _ (by simp [B.lt i hi]) (by simp [B.lt j hj]) hs) (fun b s' h'=>?_) fun _ _ e=>e))
 obtain ⟨h1,rfl⟩:=h'
 exact ⟨h1,bu h⟩
theorem uJ {i j:Nat} {Q:Unit→Jt→Prop} (h:Q () (setArr st (mirror (JE st) i j ((j - i) / 2)))):wpJ M A E J (reverseSlice' i j) Q st:=by
 rw [reverseSlice'_eq]; exact iv h
structure Up (blt:Nat→Nat→Bool) (p:Nat→Nat) (n N:Nat):Prop where
 so:∀ a b,a < b→b < n→Lex blt (p a) (p b)
 lo:∀ a,a < n→p a < n
 re:∀ a,n≤a→a < N→p a=a
theorem Up.next (O:Od blt) {n N:Nat} (U:Up blt p n N) (h1:1≤n) (hn:n < N) (h:blt (p n) (p (n - 1))=false):Up blt p (n + 1) N where
 so:=fun a b hab hb=>by
  by_cases hbn:b < n
  · exact U.so a b hab hbn
  · have hb':b=n:=by omega
    subst hb'
    have last:Lex blt (p (b - 1)) (p b):=.of_le h (by rw [U.re b (j_ _) hn]; exact U.lo _ (by omega))
    by_cases ha:a=b - 1
    · subst ha; exact last
    · exact (U.so a (b - 1) (by omega) (by omega)).tr O last
 lo:=fun a ha=>by
  by_cases han:a < n
  · have:=U.lo a han; omega
  · have:a=n:=by omega
    subst this
    rw [U.re a (j_ _) hn]
    omega
 re:=fun a ha hN=>U.re a (by omega) hN
theorem AE {a nrem:Nat} {Q:AscSt→Jt→Prop} (O:Od blt) (C:Cm M A J a₀ kd blt) (B:SB a₀ kd p st) (ha:1≤a) (han:a≤nrem) (hn:nrem≤a₀.size) (U:Up blt p a a₀.size)
 (h:∀ n,a≤n→n≤nrem→Up blt p n a₀.size→(n=nrem∨blt (p n) (p (n - 1))=true)→Q (none,n) st):wpJ M A E J (ascLoop a nrem) Q st:=by
 unfold ascLoop
 refine gL (I:=fun x c st'=>st'=st∧c=(none,x)∧a≤x∧Up blt p x a₀.size) han ?_ ?_ ⟨rfl,rfl,j_ _,U⟩
 · rintro x c st' hx ⟨rfl,rfl,hax,U'⟩
   dsimp only
   refine aL (AD C B (by omega) (by omega) ?_)
   cases hl:blt (p x) (p (x - 1)) with
   | true =>
    simp only [if_true]
    exact bu (h x hax (by omega) U' (.inr hl))
   | false =>
    simp only [on,if_false]
    exact bu ⟨rfl,rfl,by omega,U'.next O (by omega) (by omega) hl⟩
 · rintro c st' ⟨rfl,rfl,hax,U'⟩
   exact h nrem hax (j_ _) U' (.inl rfl)
structure Dn (blt:Nat→Nat→Bool) (p:Nat→Nat) (n N:Nat):Prop where
 so:∀ a b,a < b→b < n→Lex blt (p b) (p a)
 lo:∀ a,a < n→p a < n
 re:∀ a,n≤a→a < N→p a=a
structure Dq (blt:Nat→Nat→Bool) (p:Nat→Nat) (c n N:Nat):Prop where
 cn:c < n
 d1:∀ a b,a < b→b < c→Lex blt (p b) (p a)
 d2:∀ a b,a < c→c≤b→b < n→blt (p b) (p a)=true
 d3:∀ a b,c≤a→a < b→b < n→blt (p a) (p b)=false∧blt (p b) (p a)=false∧p a < p b
 lo:∀ a,a < n→p a < n
 re:∀ a,n≤a→a < N→p a=a
theorem Dq.turn {c n N:Nat} (D:Dq blt p c n N):Dn blt (mir p c n) n N where
 so:=fun a b hab hb=>by
  unfold mir
  by_cases hbc:c≤b
  · rw [if_pos ⟨hbc,hb⟩]
    by_cases hac:c≤a
    · rw [if_pos ⟨hac,by omega⟩]
      have:=D.d3 (c + n - 1 - b) (c + n - 1 - a) (by omega) (by omega) (by omega)
      exact .inr ⟨this.2.1,this.2.2⟩
    · rw [if_neg (by omega)]
      exact .inl (D.d2 a _ (by omega) (by omega) (by omega))
  · rw [if_neg (by omega),if_neg (by omega)]
    exact D.d1 a b hab (by omega)
 lo:=fun a ha=>by
  unfold mir
  split
  · exact D.lo _ (by omega)
  · exact D.lo _ ha
 re:=fun a ha hN=>by
  unfold mir
  rw [if_neg (by omega)]
  exact D.re a ha hN
theorem Dq.one {n N:Nat} (D:Dq blt p (n - 1) n N):Dn blt p n N where
 so:=fun a b hab hb=>by
  by_cases hbc:b < n - 1
  · exact D.d1 a b hab hbc
  · exact .inl (D.d2 a b (by omega) (by omega) hb)
 lo:=D.lo
 re:=D.re
theorem Dn.turn {n N:Nat} (D:Dn blt p n N):Up blt (mir p 0 n) n N where
 so:=fun a b hab hb=>by
  unfold mir
  rw [if_pos ⟨FN _,by omega⟩,if_pos ⟨FN _,hb⟩]
  exact D.so _ _ (by omega) (by omega)
 lo:=fun a ha=>by
  unfold mir
  rw [if_pos ⟨FN _,ha⟩]
  exact D.lo _ (by omega)
 re:=fun a ha hN=>by
  unfold mir
  rw [if_neg (by omega)]
  exact D.re a ha hN
theorem Dn.next (O:Od blt) {n N:Nat} (D:Dn blt p n N) (h1:1≤n) (hn:n < N) (h:blt (p n) (p (n - 1))=true):Dq blt p n (n + 1) N where
 cn:=by omega
 d1:=D.so
 d2:=fun a b ha hb hb'=>by
  have:b=n:=by omega
  subst this
  by_cases e:a=b - 1
  · subst e; exact h
  · rcases D.so a (b - 1) (by omega) (by omega) with q | ⟨q,_⟩
    · exact O.tr _ _ _ h q
    · exact O.lt_le h q
 d3:=fun a b ha hab hb=>by omega
 lo:=fun a ha=>by
  by_cases han:a < n
  · have:=D.lo a han; omega
  · have:a=n:=by omega
    subst this
    rw [D.re a (j_ _) hn]
    omega
 re:=fun a ha hN=>D.re a (by omega) hN
theorem Dq.next (O:Od blt) {c n N:Nat} (D:Dq blt p c n N) (hn:n < N) (h1:blt (p n) (p (n - 1))=false) (h2:blt (p (n - 1)) (p n)=false):Dq blt p c (n + 1) N where
 cn:=by have:=D.cn; omega
 d1:=D.d1
 d2:=fun a b ha hb hb'=>by
  by_cases hbn:b < n
  · exact D.d2 a b ha hb hbn
  · have:b=n:=by omega
    subst this
    exact O.le_lt h2 (D.d2 a (b - 1) ha (by have:=D.cn; omega) (by omega))
 d3:=fun a b ha hab hb=>by
  by_cases hbn:b < n
  · exact D.d3 a b ha hab hbn
  · have:b=n:=by omega
    subst this
    have hlt:p a < p b:=by
     have:=D.lo a (by omega)
     rw [D.re b (j_ _) hn]
     exact this
    by_cases e:a=b - 1
    · subst e; exact ⟨h2,h1,hlt⟩
    · obtain ⟨q1,q2,_⟩:=D.d3 a (b - 1) ha (by omega) (by omega)
      exact ⟨O.le h2 q1,O.le q2 h1,hlt⟩
 lo:=fun a ha=>by
  by_cases han:a < n
  · have:=D.lo a han; omega
  · have:a=n:=by omega
    subst this
    rw [D.re a (j_ _) hn]
    omega
 re:=fun a ha hN=>D.re a (by omega) hN
theorem rW {n nrem:Nat} {Q:Option Nat→Jt→Prop} (O:Od blt) (C:Cm M A J a₀ kd blt) (B:SB a₀ kd p st) (h1:1≤n) (hnn:n≤nrem) (hn:nrem≤a₀.size) (D:Dn blt p n a₀.size)
 (h:∀ m p' st',SB a₀ kd p' st'→1≤m→m≤nrem→Up blt p' m a₀.size→Q (some m) st'):wpJ M A E J (tail3 n nrem) Q st:=by
 unfold tail3
 refine aL (uJ ?_)
 have B':=B.mirror (i:=0) (j:=n) (by omega)
 exact aL (AE O C B' h1 hnn hn D.turn fun m hm1 hm2 U _=>bu (h m _ _ B' (by omega) hm2 U))
theorem AF {n nrem:Nat} {Q:DescSt→Jt→Prop} (O:Od blt) (C:Cm M A J a₀ kd blt) (B:SB a₀ kd p st) (h1:2≤n) (hnn:n≤nrem) (hn:nrem≤a₀.size) (D:Dq blt p (n - 1) n a₀.size)
 (h:∀ m neq p' st',SB a₀ kd p' st'→n≤m→m≤nrem→neq + 1≤m→Dq blt p' (m - (neq + 1)) m a₀.size→Q (none,m,neq) st'):wpJ M A E J (descLoop n nrem) Q st:=by
 unfold descLoop
 refine gL (I:=fun x c st'=>∃ neq p',c=(none,x,neq)∧SB a₀ kd p' st'∧n≤x∧neq + 1≤x∧Dq blt p' (x - (neq + 1)) x a₀.size) hnn ?_ ?_ ⟨0,p,rfl,B,j_ _,by omega,D⟩
 · rintro x c st' hx ⟨neq,p',rfl,B',hax,hq,D'⟩
   dsimp only
   refine aL (AD C B' (by omega) (by omega) ?_)
   cases hl:blt (p' x) (p' (x - 1)) with
   | true =>
    simp only [if_true]
    by_cases hneq:neq > 0
    · rw [if_pos hneq]
      refine aL (uJ (bu ?_))
      have B2:=B'.mirror (i:=x - (neq + 1)) (j:=x) (by omega)
      refine ⟨0,_,rfl,B2,by omega,by omega,?_⟩
      have D2:=D'.turn
      have hc:=D'.cn
      refine D2.next O (by omega) (by omega) ?_
      have e1:mir p' (x - (neq + 1)) x x=p' x:=by unfold mir; rw [if_neg (by omega)]
      have e2:mir p' (x - (neq + 1)) x (x - 1)=p' (x - (neq + 1)):=by unfold mir; rw [if_pos (by omega)]; congr 1; omega
      rw [e1,e2]
      by_cases e:x - (neq + 1)=x - 1
      · rw [e]; exact hl
      · exact O.lt_le hl (D'.d3 (x - (neq + 1)) (x - 1) (j_ _) (by omega) (by omega)).1
    · rw [if_neg hneq]
      have e:neq=0:=by omega
      subst e
      exact bu ⟨0,p',rfl,B',by omega,by omega,D'.one.next O (by omega) (by omega) hl⟩
   | false =>
    simp only [on,if_false]
    refine aL (AD C B' (by omega) (by omega) ?_)
    cases hg:blt (p' (x - 1)) (p' x) with
    | true =>
     simp only [if_true]
     exact bu (h x neq p' st' B' hax (by omega) hq D')
    | false =>
     simp only [on,if_false]
     refine bu ⟨neq + 1,p',rfl,B',by omega,by omega,?_⟩
     have:=D'.next O (by omega) hl hg
     rwa [show x + 1 - (neq + 1 + 1)=x - (neq + 1) by omega]
 · rintro c st' ⟨neq,p',rfl,B',hax,hq,D'⟩
   exact h nrem neq p' st' B' hax (j_ _) hq D'
theorem jH {n nrem:Nat} {Q:Option Nat→Jt→Prop} (O:Od blt) (C:Cm M A J a₀ kd blt) (B:SB a₀ kd p st) (h1:1≤n) (hnn:n + 1≤nrem) (hn:nrem≤a₀.size) (D:Dq blt p n (n + 1) a₀.size)
 (h:∀ m p' st',SB a₀ kd p' st'→1≤m→m≤nrem→Up blt p' m a₀.size→Q (some m) st'):wpJ M A E J (descPart n nrem) Q st:=by
 unfold descPart
 refine aL (rV fun s hs=>IU ⟨hs,?_⟩)
 refine aL (AF O C B (by omega) hnn hn D fun m neq p' st' B' hm1 hm2 hq D'=>?_)
 dsimp only
 by_cases hneq:neq > 0
 · rw [if_pos hneq]
   exact aL (uJ (rW O C (B'.mirror (by omega)) (by omega) hm2 hn D'.turn h))
 · rw [if_neg hneq]
   have e:neq=0:=by omega
   subst e
   exact rW O C B' (by omega) hm2 hn D'.one h
theorem xq {nrem:Nat} {Q:Option Nat→Jt→Prop} (O:Od blt) (C:Cm M A J a₀ kd blt) (B:SB a₀ kd p st) (h1:1≤nrem) (hn:nrem≤a₀.size) (hp:∀ k,k < a₀.size→p k=k)
 (h:∀ m p' st',SB a₀ kd p' st'→1≤m→m≤nrem→Up blt p' m a₀.size→Q (some m) st'):wpJ M A E J (countRun' 0 nrem) Q st:=by
 rw [countRun0_eq]
 refine aL (AE O C B (j_ 1) h1 hn ⟨fun a b hab hb=>by omega,fun a ha=>by rw [hp a (by omega)]; exact ha,fun a _ hN=>hp a hN⟩ fun n hn1 hn2 U hor=>?_)
 dsimp only
 by_cases hnn:n=nrem
 · rw [if_pos (by simpa using hnn)]
   exact bu (h n p st B hn1 hn2 U)
 · rw [if_neg (by simpa using hnn)]
   have hlt:blt (p n) (p (n - 1))=true:=hor.resolve_left hnn
   by_cases hgt:n > 1
   · rw [if_pos hgt]
     refine aL (AD C B (by omega) (by omega) ?_)
     cases hr:blt (p 0) (p (n - 1)) with
     | true =>
      simp only [if_true]
      exact bu (h n p st B hn1 hn2 U)
     | false =>
      simp only [on,if_false]
      have B':=B.mirror (i:=0) (j:=n) (by omega)
      have le0:∀ a,a < n→blt (p a) (p 0)=false:=fun a ha=>by
       by_cases e:a=0
       · subst e; exact O.ir _
       · rcases U.so 0 a (by omega) ha with q | q
         · exact O.as q
         · exact q.1
      have leN:∀ a,a < n→blt (p (n - 1)) (p a)=false:=fun a ha=>by
       by_cases e:a=n - 1
       · subst e; exact O.ir _
       · rcases U.so a (n - 1) (by omega) (by omega) with q | q
         · exact O.as q
         · exact q.1
      have eq:∀ a b,a < n→b < n→blt (p a) (p b)=false:=fun a b ha hb=>O.le (leN b hb) (O.le hr (le0 a ha))
      have D:Dq blt (mir p 0 n) n (n + 1) a₀.size:=by
       have Dm:Dn blt (mir p 0 n) n a₀.size:=⟨fun a b hab hb=>by
        unfold mir
        rw [if_pos ⟨FN _,hb⟩,if_pos ⟨FN _,by omega⟩]
        refine .of_le (eq _ _ (by omega) (by omega)) ?_
        rw [hp _ (by omega),hp _ (by omega)]
        omega,fun a ha=>by
        unfold mir
        rw [if_pos ⟨FN _,ha⟩,hp _ (by omega)]
        omega,fun a ha hN=>by
        unfold mir
        rw [if_neg (by omega),hp _ hN]⟩
       refine Dm.next O (by omega) (by omega) ?_
       have e1:mir p 0 n n=p n:=by unfold mir; rw [if_neg (by omega)]
       have e2:mir p 0 n (n - 1)=p 0:=by unfold mir; rw [if_pos (by omega)]; congr 1; omega
       rw [e1,e2]
       exact O.lt_le hlt (eq 0 (n - 1) (by omega) (by omega))
      exact aL (uJ (jH O C B' (by omega) (by omega) hn D h))
   · rw [if_neg hgt]
     have hn1':n=1:=by omega
     subst hn1'
     refine jH O C B (by omega) (by omega) hn ?_ h
     have Dm:Dn blt p 1 a₀.size:=⟨fun a b hab hb=>by omega,U.lo,U.re⟩
     exact Dm.next O (by omega) (by omega) hlt
theorem Dl {n ok:Nat} {Q:Bool→Jt→Prop} (O:Od blt) (C:Cm M A J a₀ kd blt) (B:SB a₀ kd p st) (hok:1≤ok) (hon:ok≤n) (hn:n≤a₀.size) (U:Up blt p ok a₀.size)
 (h:∀ p' st',SB a₀ kd p' st'→Up blt p' n a₀.size→Q true st'):wpJ M A E J (binarySort' 0 n ok) Q st:=by
 rw [binarySort'_eq]
 simp only [ID]
 rw [show max ok 1=ok by omega]
 refine aL (lH (gL (I:=fun k c st'=>∃ p',c=(none,())∧ok≤k∧SB a₀ kd p' st'∧Up blt p' k a₀.size) (Q:=fun c st'=>∃ p',c=(none,())∧SB a₀ kd p' st'∧Up blt p' n a₀.size) hon ?_ ?_ ⟨p,rfl,j_ _,B,U⟩) ?_)
 · rintro k c st' hk ⟨p',rfl,hok',B',U'⟩
   have hpk:p' k=k:=U'.re k (j_ _) (by omega)
   refine aL (lH (gL (I:=fun x c st''=>st''=st'∧∃ l r,c=(none,l,r)∧l≤r∧r≤k∧r - l≤k - x∧(∀ i,i < l→blt (p' k) (p' i)=false)∧(∀ i,r≤i→i < k→blt (p' k) (p' i)=true))
    (Q:=fun c st''=>st''=st'∧∃ l r,c=(none,l,r)∧l≤k∧(∀ i,i < l→blt (p' k) (p' i)=false)∧(∀ i,l≤i→i < k→blt (p' k) (p' i)=true)) (FN k) ?_ ?_ ⟨rfl,0,k,rfl,by omega,by omega,by omega,fun i hi=>by omega,fun i h1 h2=>by omega⟩) ?_)
   · rintro x c st'' hx ⟨rfl,l,r,rfl,hlr,hrk,hm,hlo,hhi⟩
     dsimp only
     by_cases hge:l ≥ r
     · rw [if_pos hge]
       have:l=r:=by omega
       subst this
       exact bu ⟨rfl,l,l,rfl,hrk,hlo,hhi⟩
     · rw [if_neg hge]
       refine aL (AD C B' (by omega) (by omega) ?_)
       cases hless:blt (p' k) (p' ((l + r) / 2)) with
       | true =>
        simp only [if_true]
        refine bu ⟨rfl,l,(l + r) / 2,rfl,by omega,by omega,by omega,hlo,fun i i1 i2=>?_⟩
        by_cases e:i=(l + r) / 2
        · subst e; exact hless
        · rcases U'.so ((l + r) / 2) i (by omega) i2 with q | q
          · exact O.tr _ _ _ hless q
          · exact O.lt_le hless q.1
       | false =>
        simp only [on,if_false]
        refine bu ⟨rfl,(l + r) / 2 + 1,r,rfl,by omega,by omega,by omega,fun i i1=>?_,hhi⟩
        by_cases e:i=(l + r) / 2
        · subst e; exact hless
        · rcases U'.so i ((l + r) / 2) (by omega) (by omega) with q | q
          · exact O.le (O.as q) hless
          · exact O.le q.1 hless
   · rintro c st'' ⟨rfl,l,r,rfl,hlr,hrk,hm,hlo,hhi⟩
     have:l=r:=by omega
     subst this
     exact ⟨rfl,l,l,rfl,hrk,hlo,hhi⟩
   · rintro c st'' ⟨rfl,l,r,rfl,hlk,hlo,hhi⟩
     show wpJ M A E J (do moveDown' k l; pure (J8 (none,()))) _ _
     rw [moveDown'_eq]
     refine aL (iv (bu ⟨bub p' k l,rfl,by omega,B'.bubble (by omega) hlk,?_⟩))
     refine ⟨fun a b hab hb=>?_,fun a ha=>?_,fun a ha hN=>?_⟩
     · have c1:bub p' k l l=p' k:=by unfold bub; rw [if_pos rfl]
       have c2:∀ x,l < x→x≤k→bub p' k l x=p' (x - 1):=fun x h1 h2=>by unfold bub; rw [if_neg (by omega),if_pos ⟨h1,h2⟩]
       have c3:∀ x,x < l→bub p' k l x=p' x:=fun x h1=>by unfold bub; rw [if_neg (by omega),if_neg (by omega)]
       by_cases hbl:b=l
       · subst hbl
         rw [c1,c3 a hab]
         exact .of_le (hlo a (by omega)) (by rw [hpk]; exact U'.lo a (by omega))
       · by_cases hbg:l < b
         · rw [c2 b hbg (by omega)]
           by_cases hal:a=l
           · subst hal
             rw [c1]
             exact .inl (hhi (b - 1) (by omega) (by omega))
           · by_cases hag:l < a
             · rw [c2 a hag (by omega)]
               exact U'.so (a - 1) (b - 1) (by omega) (by omega)
             · rw [c3 a (by omega)]
               exact U'.so a (b - 1) (by omega) (by omega)
         · rw [c3 a (by omega),c3 b (by omega)]
           exact U'.so a b hab (by omega)
     · unfold bub
       split
       · rw [hpk]; omega
       · split
         · have:=U'.lo (a - 1) (by omega); omega
         · have:=U'.lo a (by omega); omega
     · unfold bub
       rw [if_neg (by omega),if_neg (by omega)]
       exact U'.re a (by omega) hN
 · rintro c st' ⟨p',rfl,_,B',U'⟩
   exact ⟨p',rfl,B',U'⟩
 · rintro c st' ⟨p',rfl,B',U'⟩
   exact bu (h p' st' B' U')
end
section
variable {M:LL} {A:q_} {E:Value→Shared→Prop} {J:Shared→Prop} {a₀:Array LU} {kd:K3} {blt:Nat→Nat→Bool} {p:Nat→Nat} {st:Jt}
structure BX (a₀:Array LU) (blt:Nat→Nat→Bool) (p:Nat→Nat) (xs:Array LU):Prop where
 sz:xs.size=a₀.size
 at':∀ k,k < a₀.size→xs[k]?=a₀[p k]?
 lt:∀ k,k < a₀.size→p k < a₀.size
 inj:∀ a b,a < a₀.size→b < a₀.size→p a=p b→a=b
 so:∀ a b,a < b→b < a₀.size→Lex blt (p a) (p b)
def Dne (a₀:Array LU) (blt:Nat→Nat→Bool) (st:Jt):Prop:=∃ p,BX a₀ blt p (JE st)∧LR st=none∧K2 st=#[(0,a₀.size,0)]
theorem SB.done (B:SB a₀ kd p st) (U:Up blt p a₀.size a₀.size):Dne a₀ blt (setPending st ((K2 st).push (0,a₀.size,0))) :=
 ⟨p,⟨B.sz,B.at',B.lt,B.inj,U.so⟩,B.failed,by show (K2 st).push _=_; rw [B.pend]; rfl⟩
theorem vO {Q:Unit→Jt→Prop} (O:Od blt) (C:Cm M A J a₀ kd blt) (B:SB a₀ kd p st) (hp:∀ k,k < a₀.size→p k=k) (h2:2≤a₀.size) (h64:a₀.size < 64)
 (h:∀ p' st',BX a₀ blt p' (JE st')→LR st'=none→Q () st'):wpJ M A E J sortRuns' Q st:=by
 rw [sortRuns'_eq]
 refine aL (pI ?_)
 dsimp only
 have hmr:minRun' a₀.size a₀.size 0=a₀.size:=by
  obtain ⟨f,hf⟩:∃ f,a₀.size=f + 1:=⟨a₀.size - 1,by omega⟩
  have:minRun' (f + 1) a₀.size 0=a₀.size:=by rw [minRun'_succ,if_pos h64]; rfl
  rwa [← hf] at this
 simp only [B.sz,hmr]
 refine aL (lH (gL (I:=fun x c st'=>(x=0∧c=(none,0)∧SB a₀ kd p st')∨(1≤x∧c=(none,a₀.size)∧Dne a₀ blt st')) (Q:=fun c st'=>c=(none,a₀.size)∧Dne a₀ blt st') (FN _) ?_ ?_ (.inl ⟨rfl,rfl,B⟩)) ?_)
 · rintro x c st' hx (⟨rfl,rfl,B'⟩ | ⟨hx1,rfl,D⟩)
   · dsimp only
     rw [if_neg (by omega)]
     simp only [Nat.sub_zero,Nat.min_self,ID]
     refine aL (xq O C B' (by omega) (j_ _) hp fun m p2 st2 B2 hm1 hm2 U2=>?_)
     dsimp only
     by_cases hlt:m < a₀.size
     · rw [if_pos hlt]
       refine aL (rV fun s hs=>IU ⟨hs,?_⟩)
       refine aL (Dl O C B2 hm1 hm2 (j_ _) U2 fun p3 st3 B3 U3=>?_)
       simp only [IP,on,if_false]
       refine aL (pI ?_)
       have hb:(K2 st3).back?=none:=by rw [B3.pend]; rfl
       rw [hb]
       dsimp only
       exact aL (iv (bu (.inr ⟨by omega,rfl,B3.done U3⟩)))
     · rw [if_neg hlt]
       have hm:m=a₀.size:=by omega
       subst hm
       refine aL (pI ?_)
       have hb:(K2 st2).back?=none:=by rw [B2.pend]; rfl
       rw [hb]
       dsimp only
       exact aL (iv (bu (.inr ⟨by omega,rfl,B2.done U2⟩)))
   · dsimp only
     rw [if_pos (j_ _)]
     exact bu ⟨rfl,D⟩
 · rintro c st' (⟨hx,_,_⟩ | ⟨_,hc,D⟩)
   · omega
   · exact ⟨hc,D⟩
 · rintro c st' ⟨rfl,pd,D1,D2,D3⟩
   dsimp only
   refine aL (lH (gL (I:=fun _ c st''=>st''=st'∧c=(none,())) (Q:=fun c st''=>st''=st'∧c=(none,())) (FN _) ?_ (fun _ _ hh=>hh) ⟨rfl,rfl⟩) ?_)
   · rintro x c st'' _ ⟨rfl,rfl⟩
     refine aL (pI ?_)
     rw [if_pos (by rw [D3]; exact j_ 1)]
     exact bu ⟨rfl,rfl⟩
   · rintro c st'' ⟨rfl,rfl⟩
     exact bu (h pd _ D1 D2)
end
abbrev db (h:Heap) (a:Addr) (vs:List Value):Heap:=((h.update a (Fy fun _=>#[])).push (B_ "tuple" vs.toArray 0)).push (B_ "list" #[] 0)
section
variable {prog:Program} {w:uk} {A:q_} {E:Value→Shared→Prop} {s:Shared} {blt:Nat→Nat→Bool} {Kd:K3→Prop}
def JT (s:Shared) (H:Heap):Shared→Prop:=fun s'=>∃ tk,s.toks≤tk∧s'={ s with heap:=H,toks:=tk }
theorem vP {a:Addr} {vs:List Value} {n:Nat} {P:L3→Shared→Prop} (ho:s.heap.get? a=some (B_ "list" vs.toArray n)) (h64:vs.length < 64) (O:Od blt)
 (hkk:2≤vs.length→∀ s1,JT s (db s.heap a vs) s1→l_ (o_ prog w) A (keyKind' vs.toArray) (fun k s'=>JT s (db s.heap a vs) s'∧Kd k) E s1)
 (C:∀ kd,Kd kd→Cm (o_ prog w) A (JT s (db s.heap a vs)) (JP vs) kd blt)
 (h:∀ (p:Nat→Nat) (out:Array Value) (tk:Nat),out.size=vs.length→(∀ k,k < vs.length→out[k]?=vs[p k]?)→(∀ k,k < vs.length→p k < vs.length)→(∀ x y,x < vs.length→y < vs.length→p x=p y→x=y)→(∀ x y,x < y→y < vs.length→Lex blt (p x) (p y)) →
   P (.done (.ret .none)) { s with heap:=sortedHeap s.heap a vs out,toks:=tk }) :
 l_ (o_ prog w) A (GL.«list.sort» ⟨[.ref a],[]⟩) P E s:=by
 rw [list_sort_plain]
 have ha:a < s.heap.objs.size:=m_ ho
 refine b_ (Ie ho rfl ?_)
 refine b_ (HM ho rfl ?_ (FD.line64 (by simpa using h64)))
 obtain ⟨e1,ho1⟩:∃ e1,(s.heap.update a (Fy fun _=>#[])).get? a=some (B_ "list" #[] e1):=⟨_,Il ho (fun _=>#[])⟩
 refine b_ (KF ho1 rfl ?_)
 refine b_ (wpAny_newTuple ?_ (FD.line64 (by simpa using h64)))
 refine b_ (Io ?_)
 refine Gb ?_
 have ho6:(db s.heap a vs).get? a=some (B_ "list" #[] e1):=by
  rw [F7 _ _ _ (by rw [Hl,GO]; exact n_ (w_ ha)),F7 _ _ _ (by rw [GO]; exact n_ ha)]
  exact ho1
 show l_ (o_ prog w) A _ P E { s with heap:=db s.heap a vs }
 dsimp only
 have hsz:vs.toArray.size=vs.length:=by simp
 have pz:(JP vs).size=vs.length:=Kf vs
 have pat:∀ k,k < vs.length→(JP vs)[k]?=(vs[k]?).map fun v=>(v,v):=fun k hk=>by
  unfold JP
  simp [hk]
 by_cases h2:vs.toArray.size < 2
 · rw [if_pos h2,if_pos h2]
   refine b_ (c_ ?_)
   rw [Ln]
   refine b_ (c_ ?_)
   dsimp only
   refine b_ (KF ho6 rfl ?_)
   refine b_ (HM ho6 rfl ?_ (hsz2:=by rw [Hr]; show (JP vs).size≤_; rw [Kf,Jc]; omega))
   simp only [bne_self_eq_false,on,if_false]
   refine c_ (h id ((JP vs).map Prod.snd) s.toks (by simp [pz]) (fun k hk=>?_) (fun k hk=>hk) (fun x y _ _ e=>e) (fun x y hxy hy=>by rw [hsz] at h2; omega))
   rw [I_,pat k hk]
   simp [hk]
 · rw [if_neg h2,if_neg h2]
   rw [hsz] at h2
   refine b_ (FQ (hkk (by omega) { s with heap:=db s.heap a vs } ⟨s.toks,j_ _,rfl⟩) (fun k s1 hk1=>?_) fun _ _ e=>e)
   obtain ⟨J1,hkd⟩:=hk1
   refine b_ (FQ (vO (E:=E) (Q:=fun _ st'=>∃ p',BX (JP vs) blt p' (JE st')∧LR st'=none) (p:=id) O (C k hkd)
    (st:=Nx k (vs.toArray.zip vs.toArray) #[] 7 none) ⟨rfl,fun _ _=>rfl,fun _ h=>h,fun _ _ _ _ e=>e,rfl,rfl,rfl⟩ (fun _ _=>rfl) (by rw [pz]; omega) (by rw [pz]; exact h64) (fun p' st' a1 a2=>⟨p',a1,a2⟩) s1 J1) ?_ fun _ _ e=>e)
   rintro ⟨⟨⟩,st'⟩ s' ⟨⟨tk,_,rfl⟩,p',F,hf⟩
   dsimp only
   refine b_ (KF (s:={ s with heap:=db s.heap a vs,toks:=tk }) ho6 rfl ?_)
   refine b_ (HM (s:={ s with heap:=db s.heap a vs,toks:=tk }) ho6 rfl ?_ (hsz2:=by refine FH (Ig ((Hr ..).trans (F.sz.trans (Kf _)))) ?_; rw [Jc]; omega))
   rw [hf]
   simp only [bne_self_eq_false,on,if_false]
   have Fl:=F.lt
   have Fi:=F.inj
   have Fs:=F.so
   rw [pz] at Fl Fi Fs
   refine c_ (h p' _ tk (by rw [Hr,F.sz,pz]) (fun k hk=>?_) Fl Fi Fs)
   rw [I_,F.at' k (by rw [pz]; exact hk),pat _ (Fl k hk)]
   simp [Fl k hk]
end
end TS
namespace TS
open PySem PySem.Spec PyProof.Rows L2
theorem pJ (b:Bool) (x y:Value):keyLt' (Ni b) x y=(do
 let xs ← Js x; let ys ← Js y
 for ((p,q),i) in (xs.toList.zip ys.toList).zipIdx do
  if !(← eqBool p q) then return ← oneLt' (b && i == 0) p q
 return decide (xs.size < ys.size)):=rfl
theorem pK (v:Value):firstOfTuple' v=(do
 if (← Nj v) != .type "tuple" then return none
 return (← Js v)[0]?):=rfl
def jI (h:Heap) (A:q_) (z:Bool) (p q:Value) (e l:Bool):Prop:=∀ (prog:Program) (w:uk) (E:Value→Shared→Prop) (s:Shared),s.heap=h →
 (∀ Q:Bool→Shared→Prop,Q e s→l_ (o_ prog w) A (eqBool p q) Q E s)∧(∀ (b:Bool) (Q:Bool→Shared→Prop),(b=true→z=true)→Q l s→l_ (o_ prog w) A (oneLt' b p q) Q E s)
theorem lI (x:Bool) {M:LL} {A:q_} {E:Value→Shared→Prop} {s:Shared} {Q:Bool→Shared→Prop} (h:Q x s):l_ M A (truthOfDropped (.bool x)) Q E s:=G7 h
theorem oD (h0:Heap) (A:q_) (z:Bool) (a b:Str) (t u:Tok):jI h0 A z (.str a t) (.str b u) (decide (a=b)) (decide (a.cps.toList < b.cps.toList)):=fun prog w E s _ =>
 ⟨fun Q h=>wpAny_eqBool_str h,fun b' Q _ h=>by
  cases b' with
  | true=>exact oneLt_str h
  | false =>
   rw [L4]
   simp only [on,if_false]
   exact b_ (L9 (lI _ h):l_ (o_ prog w) A (FJ .Lt (.str a t) (.str b u)) _ E s)⟩
theorem uK (h0:Heap) (A:q_) (z:Bool) (a b:Int) (t u:Tok):jI h0 A z (.int a t) (.int b u) (a == b) (decide (a < b)):=fun prog w E s _ =>
 ⟨fun Q h=>wpAny_eqBool_int h,fun b' Q _ h=>by
  cases b' with
  | true=>exact oneLt_int h
  | false =>
   rw [L4]
   simp only [on,if_false]
   exact b_ (PyProof.Rows.lt_int (lI _ h):l_ (o_ prog w) A (FJ .Lt (.int a t) (.int b u)) _ E s)⟩
theorem xr (h0:Heap) (A:q_) (z:Bool) (a b:Bool):jI h0 A z (.bool a) (.bool b) (a == b) (decide (b2i a < b2i b)):=fun prog w E s _ =>
 ⟨fun Q h=>LJ a b prog w E Q h,fun b' Q _ h=>by
  cases b' with
  | true =>
   rw [L4]
   simp only [if_true]
   refine b_ (wpAny_cRoomFor_byValue rfl ?_)
   refine b_ (wpAny_callSpecialIfBound?_slot (MG s a) F.slot_bool_lt (call_gives F.slot_bool_lt (MG s a) F.entry_int_lt (F.args_int_lt_2 _ _) (gives_int_lt_bools a b) ?_))
   exact lI _ h
  | false =>
   rw [L4]
   simp only [on,if_false]
   exact b_ (PyProof.Rows.lt_bool (lI _ h):l_ (o_ prog w) A (FJ .Lt (.bool a) (.bool b)) _ E s)⟩
def cy:List (Bool×Bool)→Option Bool
 | []=>none
 | (true,_) :: r=>cy r
 | (false,l) :: _=>some l
theorem fD (k l:Bool) (rs:List (Bool×Bool)):(cy ((k,l) :: rs)).getD false=if k=true then (cy rs).getD false else l:=by cases k <;> rfl
inductive jt (h:Heap) (A:q_):Bool→List (Value×Value)→List (Bool×Bool)→Prop
 | nil {z:Bool}:jt h A z [] []
 | cons {z:Bool} {p q:Value} {e l:Bool} {ps:List (Value×Value)} {rs:List (Bool×Bool)}:jI h A z p q e l→jt h A false ps rs→jt h A z ((p,q) :: ps) ((e,l) :: rs)
section
variable {prog:Program} {w:uk} {A:q_} {E:Value→Shared→Prop} {s:Shared}
theorem rX (b:Bool) {R:Option Bool×Unit→Shared→Prop}:∀ {z:Bool} {l:List (Value×Value)} {rs:List (Bool×Bool)} (k:Nat),jt s.heap A z l rs→(k=0→z=true)→R (cy rs,()) s →
 l_ (o_ prog w) A (NH (l.zipIdx k) ((none,()):Option Bool×Unit) fun x __s=>match x with
  | ((p,q),i)=>do
   let __do_lift ← eqBool p q
   if (!__do_lift)=true then do
    let __do_lift ← oneLt' (b && i == 0) p q
    pure (ForInStep.done (some __do_lift,()))
    else pure (J8 (none,()))) R E s
 | _,_,_,k,.nil,_,h=>by
  rw [List.zipIdx_nil,LX]
  exact c_ h
 | _,_,_,k,.cons (p:=p) (q:=q) (e:=e) (l:=l) i r,hz,h=>by
  rw [MW,Na]
  refine b_ ?_
  dsimp only
  refine b_ ((i prog w E s rfl).1 _ ?_)
  cases e with
  | true =>
   simp only [IP,on,if_false]
   exact c_ (rX b (k + 1) r (fun z=>absurd z (Nat.succ_ne_zero k)) h)
  | false =>
   simp only [JA,if_true]
   exact b_ ((i prog w E s rfl).2 _ _ (fun hb=>hz (by simp at hb; exact hb.2)) (c_ (c_ h)))
theorem lJ (b:Bool) {a c:Addr} {xs ys:Array Value} {rs:List (Bool×Bool)} {Q:Bool→Shared→Prop} (h1:s.heap.IsTuple a xs) (h2:s.heap.IsTuple c ys) (hi:jt s.heap A true (xs.toList.zip ys.toList) rs) (h:Q ((cy rs).getD (decide (xs.size < ys.size))) s) :
 l_ (o_ prog w) A (keyLt' (Ni b) (.ref a) (.ref c)) Q E s:=by
 rw [pJ]
 obtain ⟨o1,g1,_,n1,d1⟩:=h1
 obtain ⟨o2,g2,_,n2,d2⟩:=h2
 refine b_ (Ie g1 d1 (b_ (Ie g2 d2 ?_)))
 refine b_ (rX b 0 hi (fun _=>rfl) ?_)
 dsimp only
 cases hf:cy rs with
 | none=>rw [hf] at h; exact c_ h
 | some r=>rw [hf] at h; exact c_ h
inductive dH (h:Heap):List Value→List Value→Prop
 | nil:dH h [] []
 | cons {a:Addr} {xs:Array Value} {f:Value} {vs fs:List Value}:h.IsTuple a xs→xs[0]?=some f→dH h vs fs→dH h (.ref a :: vs) (f :: fs)
theorem lK {R:List (Option Value)→Shared→Prop}:∀ {vs:List Value} {fs:List Value},dH s.heap vs fs→R (fs.map some) s→l_ (o_ prog w) A (vs.mapM firstOfTuple') R E s
 | _,_,.nil,h=>by rw [List.mapM_nil]; exact c_ h
 | _,_,.cons e2 e3 r,h=>by
  rw [List.mapM_cons,pK]
  obtain ⟨o,g,c,n,d⟩:=e2
  refine b_ (b_ (Hy (T:="tuple") ⟨o,g,c⟩ ?_))
  rw [if_neg (by decide)]
  refine b_ (Ie g d (c_ ?_))
  rw [e3]
  refine b_ (lK r ?_)
  exact c_ h
end
def AG (p q:Value) (e l:Bool):Prop:=∀ (prog:Program) (w:uk) (A:q_) (E:Value→Shared→Prop) (s:Shared),
 (∀ Q:Bool→Shared→Prop,Q e s→l_ (o_ prog w) A (eqBool p q) Q E s)∧(∀ Q:Value→Shared→Prop,Q (.bool l) s→l_ (o_ prog w) A (richCompare .Lt p q) Q E s)
inductive jJ:List (Value×Value)→List (Bool×Bool)→Prop
 | nil:jJ [] []
 | cons {p q:Value} {e l:Bool} {ps:List (Value×Value)} {rs:List (Bool×Bool)}:AG p q e l→jJ ps rs→jJ ((p,q) :: ps) ((e,l) :: rs)
section
open PySem.SeqAt
open PySem.AutoSeq1 (wpAny_loadPart')
open PySem.MeetsSeq PySem.MeetsSeq2 PySem.MeetsSeq3
theorem rY (l b:Addr) (items items2:Array Value) (n n2:Nat) (dd dd2:Option Addr) (sl sl2:Array (Option Value)) (rs:List (Bool×Bool)) (hi:jJ (items.toList.zip items2.toList) rs) (hz:items.size=items2.size) :
 Meets (GL.«tuple.__lt__» ⟨[.ref l,.ref b],[]⟩)
  (fun _ R s=>s.heap.get? l=some { cls:=.type "tuple",dict:=dd,data:=.seq items n,slots:=sl }∧s.heap.get? b=some { cls:=.type "tuple",dict:=dd2,data:=.seq items2 n2,slots:=sl2 } ∧
    R (.ok (.ret (.bool ((cy rs).getD false)))) s) :=
 .of_wp fun prog w A R s h=>by
  obtain ⟨hp,g,d,tk,os⟩:=s; obtain ⟨hl,hb,h⟩:=h
  have f2:=AutoSeq1.sub_tuple_tuple
  wp_walk using wpAny_loadPart' hl,wpAny_loadPart' hb,JH _ (fun cz b s'=>b.1=none∧s'=⟨hp,g,d,tk,os⟩∧∃ rs',jJ cz rs'∧R (.ok (.ret (.bool ((cy rs').getD false)))) ⟨hp,g,d,tk,os⟩) _
  case turn =>
   rintro ⟨y,x⟩ cz b s' ⟨hb',rfl,rs',hI,hR⟩
   cases hI with
   | cons i r =>
    rename_i e lw rs''
    rw [fD] at hR
    refine b_ ((i prog w _ _ _).1 _ ?_)
    cases e with
    | true =>
     wp_walk
     exact ⟨rfl,rfl,_,r,by simpa using hR⟩
    | false =>
     have hri:=fun Q h=>(i prog w A.in1 (fun e s'=>R (.error e) s') ⟨hp,g,d,tk,os⟩).2 Q h
     wp_walk using hri
     exact ⟨_,rfl,by simpa using hR⟩
  case fin =>
   rintro ⟨b1,b2⟩ s' ⟨hb',rfl,rs',hI,hR⟩
   simp only at hb'
   subst hb'
   cases hI
   wp_walk
   exact ⟨_,rfl,by simpa [Builtin.Tuple.tupleCompareSizes,hz,cy] using hR⟩
  case h =>
   exact ⟨rfl,rfl,rs,hi,h⟩
end
def lL:List Str→List Str→Bool
 | x :: xs,y :: ys=>if x=y then lL xs ys else decide (x.cps.toList < y.cps.toList)
 | _,_=>false
theorem jK:∀ {ks js:List Str} {xs ys:List Value},ks.length=js.length→Vals (ks.map V.str) xs→Vals (js.map V.str) ys→∃ rs,jJ (xs.zip ys) rs∧(cy rs).getD false=lL ks js
 | [],[],xs,ys,_,v,v'=>by
  cases v
  exact ⟨[],.nil,rfl⟩
 | k :: ks,j :: js,xs,ys,hl,v,v'=>by
  cases v with
  | cons v1 v2 =>
   cases v' with
   | cons v1' v2' =>
    obtain ⟨rs,i1,i2⟩:=jK (by simpa using hl) v2 v2'
    obtain ⟨t,rfl⟩:=v1
    obtain ⟨t',rfl⟩:=v1'
    refine ⟨(decide (k=j),decide (k.cps.toList < j.cps.toList)) :: rs,.cons (fun prog w A E s=>⟨(oD s.heap A false k j t t' prog w E s rfl).1,fun Q h=>(L9 h:l_ (o_ prog w) A (FJ .Lt (.str k t) (.str j t')) Q E s)⟩) i1,?_⟩
    rw [fD,i2]
    simp [lL]
 | [],_ :: _,_,_,h,_,_=>by simp at h
 | _ :: _,[],_,_,h,_,_=>by simp at h
theorem mS {prog:Program} {w:uk}:∀ {ks:List Str} {xs:List Value},Vals (ks.map V.str) xs→Nv (F1 prog w) ks xs
 | [],xs,v=>by cases v; exact .nil
 | k :: ks,xs,v=>by
  cases v with
  | cons v1 v2 =>
   obtain ⟨t,rfl⟩:=v1
   exact .cons (by show Ir k (.str k t)=true; simp [Ir]) (mS v2)
theorem uL {h0:Heap} {A:q_} {a c:Addr} {ks js:List Str} {xs ys:List Value} (hu:A.units + 8 < cLine) (h1:h0.IsTuple a xs.toArray) (h2:h0.IsTuple c ys.toArray) (hl:ks.length=js.length) (v1:Vals (ks.map V.str) xs) (v2:Vals (js.map V.str) ys) :
 jI h0 A false (.ref a) (.ref c) (decide (ks=js)) (lL ks js):=fun prog w E s hs=>by
 subst hs
 obtain ⟨⟨cls,dd,data,sl⟩,ho,hc,n,hd⟩:=id h1
 obtain ⟨⟨cls2,dd2,data2,sl2⟩,ho2,hc2,n2,hd2⟩:=id h2
 simp only at hc hd hc2 hd2
 subst hc hd hc2 hd2
 refine ⟨fun Q h=>PySem.wpAny_eqBool_tuple (knd:=F1 prog w) (by omega) ⟨_,_,_,ho,rfl,rfl,by simpa using mS v1⟩ ⟨_,_,_,ho2,rfl,rfl,by simpa using mS v2⟩ h,fun b Q hb h=>?_⟩
 cases b with
 | true=>exact absurd (hb rfl) (by decide)
 | false =>
  rw [L4]
  simp only [on,if_false]
  obtain ⟨rs,i1,i2⟩:=jK hl v1 v2
  rw [← i2] at h
  have hz:xs.toArray.size=ys.toArray.size:=by
   have e1:=v1.length
   have e2:=v2.length
   simp at e1 e2 ⊢
   omega
  refine b_ ?_
  exact richCompare_meets_room (op:=.Lt) ⟨_,ho,rfl⟩ ⟨_,ho2,rfl⟩ PySem.F.slot_tuple_lt PySem.F.entry_tuple_lt (PySem.F.args_tuple_lt_2 _ _) (rY a c xs.toArray ys.toArray n n2 dd dd2 sl sl2 rs i1 hz)
   ⟨ho,ho2,show GA ((cy rs).getD false)≠Value.notImplemented∧_ from ⟨(fun x=>nomatch x),lI _ h⟩⟩ (by omega)
end TS
namespace TS
open PySem PyProof.Rows FD
def kdI:Dv→Nat
 | .str _=>1
 | .int _=>2
 | .bl _=>3
 | .tup ds=>(match bh ds with | some ks=>4 + ks.length | none=>0)
 | _=>0
def eqI:Dv→Dv→Bool
 | .str a,.str b=>decide (a=b)
 | .int a,.int b=>a == b
 | .bl a,.bl b=>a == b
 | .tup a,.tup b=>(match bh a,bh b with | some x,some y=>decide (x=y) | _,_=>false)
 | _,_=>false
def ltI:Dv→Dv→Bool
 | .str a,.str b=>decide (a.cps.toList < b.cps.toList)
 | .int a,.int b=>decide (a < b)
 | .bl a,.bl b=>decide (b2i a < b2i b)
 | .tup a,.tup b=>(match bh a,bh b with | some x,some y=>lL x y | _,_=>false)
 | _,_=>false
def ltL:List Dv→List Dv→Bool
 | x :: xs,y :: ys=>if eqI x y then ltL xs ys else ltI x y
 | _,_=>false
def sig (ds:List Dv):List Nat:=ds.map kdI
def dP (ks:List Nat):Bool:=ks.all fun k=>k != 0
theorem dw:∀ {ds:List Dv} {ks:List Str},bh ds=some ks→ds=ks.map Dv.str
 | [],ks,h=>by cases h; rfl
 | .str x :: r,ks,h=>by
  obtain ⟨rs,h1,rfl⟩:=GH.mp (show (bh r).map (x :: ·)=some ks from h)
  rw [dw h1]
  rfl
 | .non :: _,_,h=>by cases h
 | .bl _ :: _,_,h=>by cases h
 | .int _ :: _,_,h=>by cases h
 | .tup _ :: _,_,h=>by cases h
 | .lst _ :: _,_,h=>by cases h
 | .scr _ :: _,_,h=>by cases h
 | .exn _ :: _,_,h=>by cases h
theorem fg {ds:List Dv} (h:kdI (.tup ds)≠0):∃ ks,bh ds=some ks∧kdI (.tup ds)=4 + ks.length:=by
 simp only [kdI] at h ⊢
 split at h
 · rename_i ks e
   exact ⟨ks,e,rfl⟩
 · exact absurd rfl h
theorem jL {x y:Dv} (h:eqI x y=true):x=y:=by
 cases x <;> cases y <;> simp only [eqI,on,decide_eq_true_eq,beq_iff_eq] at h <;> try (rw [h]; done)
 split at h
 · rename_i e1 e2
   rw [dw e1,dw e2,of_decide_eq_true h]
 · cases h
theorem oE {x:Dv} (h:kdI x≠0):eqI x x=true:=by
 cases x <;> try (simp [kdI] at h; done)
 all_goals try (simp [eqI]; done)
 obtain ⟨ks,e,_⟩:=fg h
 simp [eqI,e]
theorem vQ:∀ xs:List Str,lL xs xs=false
 | []=>rfl
 | x :: xs=>by rw [lL,if_pos rfl]; exact vQ xs
theorem vR:∀ {xs ys zs:List Str},lL xs ys=true→lL ys zs=true→lL xs zs=true
 | x :: xs,y :: ys,z :: zs,h1,h2=>by
  unfold lL at h1 h2 ⊢
  by_cases e1:x=y
  · subst e1
    rw [if_pos rfl] at h1
    by_cases e2:x=z
    · rw [if_pos e2] at h2 ⊢
      exact vR h1 h2
    · rw [if_neg e2] at h2 ⊢
      exact h2
  · rw [if_neg e1] at h1
    by_cases e2:y=z
    · subst e2
      rw [if_neg e1]
      exact h1
    · rw [if_neg e2] at h2
      have:=Mg (of_decide_eq_true h1) (of_decide_eq_true h2)
      rw [if_neg fun e=>by subst e; exact LW _ this]
      exact decide_eq_true this
 | [],_,_,h1,_=>by simp [lL] at h1
 | _ :: _,[],_,h1,_=>by simp [lL] at h1
 | _ :: _,_ :: _,[],_,h2=>by simp [lL] at h2
theorem rZ (a b:Str) (h:¬ a.cps.toList < b.cps.toList) (h':¬ b.cps.toList < a.cps.toList):a=b:=by
 have e:a.cps.toList=b.cps.toList:=M0 (LV.mp h') (LV.mp h)
 obtain ⟨⟨a⟩⟩:=a; obtain ⟨⟨b⟩⟩:=b
 simp at e
 rw [e]
theorem r9:∀ {xs ys:List Str},xs.length=ys.length→lL xs ys=false→lL ys xs=false→xs=ys
 | [],[],_,_,_=>rfl
 | x :: xs,y :: ys,hl,h1,h2=>by
  unfold lL at h1 h2
  by_cases e:x=y
  · subst e
    rw [if_pos rfl] at h1 h2
    rw [r9 (by simpa using hl) h1 h2]
  · rw [if_neg e] at h1
    rw [if_neg (IC e)] at h2
    exact absurd (rZ _ _ (of_decide_eq_false h1) (of_decide_eq_false h2)) e
 | [],_ :: _,h,_,_=>by simp at h
 | _ :: _,[],h,_,_=>by simp at h
theorem oF (x:Dv):ltI x x=false:=by
 cases x with
 | str a=>simp only [ltI,decide_eq_false_iff_not]; exact LW _
 | int a=>simp [ltI]
 | bl a=>cases a <;> rfl
 | tup ds =>
  simp only [ltI]
  split
  · rename_i x y e1 e2
    rw [e1] at e2
    cases e2
    exact vQ x
  · rfl
 | _=>rfl
theorem oG {x y z:Dv} (h1:ltI x y=true) (h2:ltI y z=true):ltI x z=true:=by
 cases x <;> cases y <;> simp only [ltI,on,decide_eq_true_eq] at h1 <;> cases z <;> simp only [ltI,on,decide_eq_true_eq] at h2 ⊢
 · omega
 · omega
 · exact Mg h1 h2
 · split at h1
   · rename_i x1 y1 e1 e2
     split at h2
     · rename_i y2 z2 e3 e4
       rw [e2] at e3
       cases e3
       rw [e1,e4]
       exact vR h1 h2
     · cases h2
   · cases h1
theorem sd {x y:Dv} (hk:kdI x=kdI y) (h0:kdI x≠0) (h1:ltI x y=false) (h2:ltI y x=false):x=y:=by
 cases x with
 | str a =>
  cases y with
  | str b =>
   simp only [ltI,decide_eq_false_iff_not] at h1 h2
   rw [rZ _ _ h1 h2]
  | tup b=>obtain ⟨_,_,e⟩:=fg (show kdI (.tup b)≠0 by rw [← hk]; exact h0); simp only [kdI] at hk e; rw [e] at hk; omega
  | _=>simp [kdI] at hk
 | int a =>
  cases y with
  | int b=>simp [ltI] at h1 h2; rw [show a=b by omega]
  | tup b=>obtain ⟨_,_,e⟩:=fg (show kdI (.tup b)≠0 by rw [← hk]; exact h0); simp only [kdI] at hk e; rw [e] at hk; omega
  | _=>simp [kdI] at hk
 | bl a =>
  cases y with
  | bl b=>cases a <;> cases b <;> simp [ltI,b2i] at h1 h2 ⊢
  | tup b=>obtain ⟨_,_,e⟩:=fg (show kdI (.tup b)≠0 by rw [← hk]; exact h0); simp only [kdI] at hk e; rw [e] at hk; omega
  | _=>simp [kdI] at hk
 | tup a =>
  obtain ⟨ks,e1,e2⟩:=fg h0
  cases y with
  | tup b =>
   obtain ⟨js,e3,e4⟩:=fg (show kdI (.tup b)≠0 by rw [← hk]; exact h0)
   simp only [ltI,e1,e3] at h1 h2
   rw [dw e1,dw e3,r9 (by omega) h1 h2]
  | _=>simp only [kdI] at hk e2; rw [e2] at hk; omega
 | _=>exact absurd rfl h0
theorem sg:∀ xs:List Dv,ltL xs xs=false
 | []=>rfl
 | x :: xs=>by
  unfold ltL
  split
  · exact sg xs
  · exact oF x
theorem sh:∀ {xs ys zs:List Dv},ltL xs ys=true→ltL ys zs=true→ltL xs zs=true
 | x :: xs,y :: ys,z :: zs,h1,h2=>by
  unfold ltL at h1 h2 ⊢
  by_cases e1:eqI x y=true
  · have:=jL e1
    subst this
    rw [if_pos e1] at h1
    by_cases e2:eqI x z=true
    · rw [if_pos e2] at h2 ⊢
      exact sh h1 h2
    · rw [if_neg e2] at h2 ⊢
      exact h2
  · rw [if_neg e1] at h1
    by_cases e2:eqI y z=true
    · have:=jL e2
      subst this
      rw [if_neg e1]
      exact h1
    · rw [if_neg e2] at h2
      have:=oG h1 h2
      rw [if_neg fun e=>by
       have:=jL e
       subst this
       have:=oG h1 h2
       rw [oF] at this
       cases this]
      exact this
 | [],_,_,h1,_=>by simp [ltL] at h1
 | _ :: _,[],_,h1,_=>by simp [ltL] at h1
 | _ :: _,_ :: _,[],_,h2=>by simp [ltL] at h2
theorem si:∀ {xs ys zs:List Dv},sig xs=sig ys→sig ys=sig zs→dP (sig xs)=true→ltL xs zs=true→ltL xs ys=true∨ltL ys zs=true
 | x :: xs,y :: ys,z :: zs,s1,s2,hk,h=>by
  simp only [sig,xy,Nc] at s1 s2
  simp only [sig,dP,xy,GK,k_,bne_iff_ne,ne_eq] at hk
  have hx:=hk.1
  unfold ltL at h ⊢
  by_cases e1:eqI x y=true
  · have:=jL e1
    subst this
    rw [if_pos e1]
    by_cases e2:eqI x z=true
    · rw [if_pos e2] at h ⊢
      exact si s1.2 s2.2 (by simpa [dP,sig] using hk.2) h
    · rw [if_neg e2] at h ⊢
      exact .inr h
  · rw [if_neg e1]
    by_cases e2:eqI y z=true
    · have:=jL e2
      subst this
      rw [if_neg e1] at h
      exact .inl h
    · rw [if_neg e2]
      cases hl:ltI x y with
      | true=>exact .inl rfl
      | false =>
       cases hr:ltI y z with
       | true=>exact .inr rfl
       | false =>
        exfalso
        have g1:ltI y x=true:=by
         cases q:ltI y x with
         | true=>rfl
         | false =>
          have:=sd s1.1 hx hl q
          subst this
          exact absurd (oE hx) e1
        have g2:ltI z y=true:=by
         cases q:ltI z y with
         | true=>rfl
         | false =>
          have:=sd s2.1 (by rw [← s1.1]; exact hx) hr q
          subst this
          exact absurd (oE (by rw [← s1.1]; exact hx)) e2
        have g3:=oG g2 g1
        by_cases e3:eqI x z=true
        · have:=jL e3
          subst this
          rw [oF] at g3
          cases g3
        · rw [if_neg e3] at h
          have:=oG h g3
          rw [oF] at this
          cases this
 | [],_,_,_,_,_,h=>by simp [ltL] at h
 | _ :: _,[],_,s1,_,_,_=>by simp [sig] at s1
 | _ :: _,_ :: _,[],_,s2,_,_=>by simp [sig] at s2
theorem sj {R:Nat→Nat→Prop} (as:∀ a b,R a b→R b a→False):∀ {l m:List Nat},l.Perm m→l.Pairwise R→m.Pairwise R→l=m
 | [],m,hp,_,_=>hp.nil_eq
 | x :: l,[],hp,_,_=>by simpa using hp.length_eq
 | x :: l,y :: m,hp,h1,h2=>by
  rw [FV] at h1 h2
  have e:x=y:=by
   rcases p_.mp (hp.mem_iff.mp (g_ (a:=x))) with e | hx
   · exact e
   · rcases p_.mp (hp.mem_iff.mpr (g_ (a:=y))) with e | hy
     · exact e.symm
     · exact (as _ _ (h1.1 y hy) (h2.1 x hx)).elim
  subst e
  rw [sj as hp.cons_inv h1.2 h2.2]
theorem Lex.as {blt:Nat→Nat→Bool} (O:Od blt) {a b:Nat} (h:Lex blt a b) (h':Lex blt b a):False:=by
 have:=h.tr O h'
 rcases this with q | q
 · rw [O.ir] at q; cases q
 · omega
theorem sn {blt:Nat→Nat→Bool} (O:Od blt) (x:Nat):∀ l:List Nat,(∀ y∈l,x < y)→l.Pairwise (Lex blt)→(gH (fun i j=>!blt j i) x l).Pairwise (Lex blt)
 | [],_,_=>by simp [gH]
 | y :: l,hx,h=>by
  unfold gH
  rw [FV] at h
  split
  · rename_i hc
    have hxy:Lex blt x y:=.of_le (by simpa using hc) (hx y g_)
    rw [FV,FV]
    refine ⟨fun z hz=>?_,h⟩
    rcases p_.mp hz with rfl | hz
    · exact hxy
    · exact hxy.tr O (h.1 z hz)
  · rename_i hc
    rw [FV]
    refine ⟨fun z hz=>?_,sn O x l (fun z hz=>hx z (ge _ hz)) h.2⟩
    rcases p_.mp ((gc _ x l).mem_iff.mp hz) with rfl | hz
    · exact .inl (by simpa using hc)
    · exact h.1 z hz
theorem oH {blt:Nat→Nat→Bool} (O:Od blt):∀ l:List Nat,l.Pairwise (· < ·)→(isortB (fun i j=>!blt j i) l).Pairwise (Lex blt)
 | [],_=>.nil
 | x :: l,h=>by
  rw [FV] at h
  exact sn O x _ (fun y hy=>h.1 y ((isortB_perm _ l).mem_iff.mp hy)) (oH O l h.2)
theorem su {α β:Type} {le:α→α→Bool} {le':β→β→Bool} (f:α→β) (x:α):∀ l:List α,(∀ y∈l,le x y=le' (f x) (f y))→(gH le x l).map f=gH le' (f x) (l.map f)
 | [],_=>rfl
 | y :: l,h=>by
  have e:=h y g_
  simp only [gH,xy]
  rw [← e]
  split
  · rfl
  · rw [xy,su f x l fun z hz=>h z (ge _ hz)]
theorem gd {α β:Type} {le:α→α→Bool} {le':β→β→Bool} (f:α→β):∀ l:List α,(∀ x∈l,∀ y∈l,le x y=le' (f x) (f y))→(isortB le l).map f=isortB le' (l.map f)
 | [],_=>rfl
 | x :: l,h=>by
  simp only [isortB,xy]
  rw [su (le':=le') f x _ fun y hy=>h x g_ y (ge _ ((isortB_perm _ l).mem_iff.mp hy)),gd f l fun a ha b hb=>h a (ge _ ha) b (ge _ hb)]
theorem iR:∀ (l m:List Nat),l.Nodup→(∀ x∈l,x∈m)→m.length≤l.length→l.Perm m
 | [],m,_,_,h=>by
  have:m=[]:=GS.mp (by simpa using h)
  subst this
  exact .refl _
 | x :: l,m,nd,hs,h=>by
  rw [Ha] at nd
  obtain ⟨m1,m2,rfl⟩:=List.append_of_mem (hs x g_)
  refine ((iR l (m1 ++ m2) nd.2 (fun y hy=>?_) (by simp at h ⊢; omega)).cons x).trans MX.symm
  have:=hs y (ge _ hy)
  simp only [Gj,p_] at this ⊢
  rcases this with q | rfl | q
  · exact .inl q
  · exact (nd.1 hy).elim
  · exact .inr q
theorem mT {n:Nat} {p:Nat→Nat} (hlt:∀ k,k < n→p k < n) (inj:∀ a b,a < n→b < n→p a=p b→a=b):((f_ n).map p).Perm (f_ n):=by
 have nd:((f_ n).map p).Nodup:=by
  rw [List.nodup_iff_pairwise_ne,MJ]
  refine (List.nodup_range (n:=n)).imp_of_mem fun {a b} ha hb hab e=>hab (inj a b (by simpa using ha) (by simpa using hb) e)
 have sub:∀ x∈(f_ n).map p,x∈f_ n:=fun x hx=>by
  obtain ⟨k,hk,rfl⟩:=C_.mp hx
  simpa using hlt k (by simpa using hk)
 exact iR _ _ nd sub (by simp)
theorem gf {blt:Nat→Nat→Bool} (O:Od blt) {n:Nat} {p:Nat→Nat} (hlt:∀ k,k < n→p k < n) (inj:∀ a b,a < n→b < n→p a=p b→a=b) (so:∀ a b,a < b→b < n→Lex blt (p a) (p b)) :
 (f_ n).map p=isortB (fun i j=>!blt j i) (f_ n):=by
 refine sj (fun a b h h'=>h.as O h') ((mT hlt inj).trans (isortB_perm _ _).symm) ?_ (oH O _ Ll)
 rw [MJ]
 exact (Ll (n:=n)).imp_of_mem fun {a b} ha hb hab=>so a b hab (by simpa using hb)
section
variable {prog:Program} {w:uk} {A:q_} {E:Value→Shared→Prop} {s:Shared}
theorem oI {R:List Value→Shared→Prop}:∀ {fs:List Value},(∀ f∈fs,∃ T,∀ s':Shared,s'.TypeIs f T)→(∀ ts,R ts s)→l_ (o_ prog w) A (fs.mapM Nj) R E s
 | [],_,h=>by rw [List.mapM_nil]; exact c_ (h _)
 | f :: fs,hf,h=>by
  obtain ⟨T,hT⟩:=hf f g_
  rw [List.mapM_cons]
  refine b_ (Hy (hT s) ?_)
  exact b_ (oI (fun g hg=>hf g (ge _ hg)) fun ts=>c_ (h _))
theorem AH {vs fs:List Value} (hF:dH s.heap vs fs) (hf:∀ f∈fs,∃ T,∀ s':Shared,s'.TypeIs f T) {R:K3→Shared→Prop} (h:∀ b,R (Ni b) s):l_ (o_ prog w) A (keyKind' vs.toArray) R E s:=by
 rw [keyKind'_eq,MK]
 refine b_ ?_
 rw [← bind_pure_comp]
 refine b_ (lK hF (c_ ?_))
 rw [if_pos (by simp)]
 refine b_ (IU ?_)
 have e:(fs.map some).toArray.filterMap id=fs.toArray:=by simp
 rw [e,oneTypeOnly'_eq,MK]
 refine b_ (b_ ?_)
 rw [← bind_pure_comp]
 refine b_ (oI hf fun ts=>c_ ?_)
 split
 · exact c_ (c_ (h _))
 · exact c_ (c_ (h _))
end
section
variable {prog:Program} {w:uk} {A:q_} {E:Value→Shared→Prop} {s:Shared} {blt:Nat→Nat→Bool}
theorem uM {l:Addr} {vs fs:List Value} {Q:Value→Shared→Prop} (hl:s.heap.IsList l vs.toArray) (h64:vs.length < 64) (O:Od blt) (hF:dH s.heap vs fs) (hf:∀ f∈fs,∃ T,∀ s':Shared,s'.TypeIs f T)
 (hC:∀ (A':q_) (h':Heap) (i j:Nat) (x y:Value),A'.units≤A.units + 8→(∀ b o,s.heap.get? b=some o→h'.get? b=some o)→vs[i]?=some x→vs[j]?=some y→∃ a c xs ys rs,x=.ref a∧y=.ref c∧s.heap.IsTuple a xs∧s.heap.IsTuple c ys∧jt h' A' true (xs.toList.zip ys.toList) rs∧(cy rs).getD (decide (xs.size < ys.size))=blt i j)
 (h:∀ (L:Addr) (h':Heap) (tk:Nat) (out:List Value) (e:Nat) (p:Nat→Nat),h'.get? L=some (B_ "list" out.toArray e)→s.heap.objs.size≤L→(∀ b o,s.heap.get? b=some o→h'.get? b=some o) →
   out.length=vs.length→(∀ k,k < vs.length→out[k]?=vs[p k]?)→(f_ vs.length).map p=isortB (fun i j=>!blt j i) (f_ vs.length)→(∀ k,k < vs.length→p k < vs.length)→Q (.ref L) { s with heap:=h',toks:=tk }) :
 l_ (o_ prog w) A (call (.builtin "sorted") [.ref l]) Q E s:=by
 refine IF LQ Lg Lh (MH _) ?_
 unfold GL.«sorted»
 refine b_ (m:=Ml "sorted" 1 1 _) (c_ ?_)
 refine b_ (collect_list hl ?_ (line64 h64))
 refine b_ (Io ?_ (line64 h64))
 generalize hH:(s.heap.push (B_ "list" #[] 0)).update s.heap.objs.size (Fy (· ++ vs.toArray))=H1
 have sz1:H1.objs.size=s.heap.objs.size + 1:=by rw [← hH,GO,Hl]
 have up1:∀ b o,s.heap.get? b=some o→H1.get? b=some o:=fun b o q=>by
  have:=m_ q
  rw [← hH,Gh _ _ _ _ (n_ this),F7 _ _ _ (n_ this)]
  exact q
 have hoL:(H1.push (B_ "list" vs.toArray 0)).get? H1.objs.size=some (B_ "list" vs.toArray 0):=h_ _ rfl
 have up2:∀ b o,s.heap.get? b=some o→(db (H1.push (B_ "list" vs.toArray 0)) H1.objs.size vs).get? b=some o:=fun b o q=>by
  have q1:=up1 b o q
  have:=m_ q1
  unfold db
  rw [F7 _ _ _ (by rw [Hl,GO,Hl]; exact n_ (w_ (w_ this))),F7 _ _ _ (by rw [GO,Hl]; exact n_ (w_ this)),Gh _ _ _ _ (n_ this),F7 _ _ _ (n_ this)]
  exact q1
 have tup2:∀ a xs,s.heap.IsTuple a xs→(db (H1.push (B_ "list" vs.toArray 0)) H1.objs.size vs).IsTuple a xs:=fun a xs ⟨o,g,r⟩=>⟨o,up2 _ _ g,r⟩
 have F2:∀ {vs' fs':List Value},dH s.heap vs' fs'→dH (db (H1.push (B_ "list" vs.toArray 0)) H1.objs.size vs) vs' fs':=by
  intro vs' fs' hF'
  induction hF' with
  | nil=>exact .nil
  | cons a b _ ih=>exact .cons (tup2 _ _ a) b ih
 show l_ _ _ _ _ _ { s with heap:=H1.push (B_ "list" vs.toArray 0) }
 refine b_ (Gb (Gx Kv ⟨_,hoL,rfl⟩ J6 (vP (s:={ s with heap:=H1.push (B_ "list" vs.toArray 0) }) (Kd:=fun k=>∃ b,k=Ni b) hoL h64 O (fun _ s1 J1=>?_) (fun kd hk=>?_) fun p out tk o1 o2 o3 o4 o5=>⟨_,rfl,?_⟩) (LS _)))
 · obtain ⟨tk,htk,rfl⟩:=J1
   exact AH (s:={ s with heap:=db (H1.push (B_ "list" vs.toArray 0)) H1.objs.size vs,toks:=tk }) (F2 hF) hf fun b=>⟨⟨tk,htk,rfl⟩,b,rfl⟩
 · obtain ⟨b,rfl⟩:=hk
   intro i j x y s1 E' ex ey J1
   obtain ⟨tk,htk,rfl⟩:=J1
   have pz:∀ (k:Nat) (z:LU),(JP vs)[k]?=some z→vs[k]?=some z.1:=fun k z hz=>by
    have hk:k < vs.length:=by
     have:=(Gm.mp hz).1
     rwa [Kf] at this
    unfold JP at hz
    simp [hk] at hz
    rw [i_ hk,← hz]
   obtain ⟨a,c,xs,ys,rs,e1,e2,t1,t2,it,eb⟩:=hC A.in1.in1 _ i j x.1 y.1 (by show A.units + 1 + 1≤_; omega) up2 (pz i x ex) (pz j y ey)
   rw [e1,e2]
   refine lJ (s:={ s with heap:=db (H1.push (B_ "list" vs.toArray 0)) H1.objs.size vs,toks:=tk }) b (tup2 _ _ t1) (tup2 _ _ t2) it ⟨⟨tk,htk,rfl⟩,eb⟩
 · obtain ⟨e,he⟩:=Mf (out:=out) hoL
   refine c_ ⟨_,rfl,h H1.objs.size _ tk out.toList e p (by rw [JW]; exact he) (by rw [sz1]; exact Hg _) (fun b o q=>?_) (by simpa using o1) (fun k hk=>by simpa using o2 k hk) (gf O o3 o4 o5) o3⟩
   have q1:=up1 b o q
   have:=m_ q1
   rw [LP (n_ this) (by rw [Hl]; exact w_ this),F7 _ _ _ (n_ this)]
   exact q1
end
end TS
namespace FD
open PySem PySem.Spec PyProof.Rows L2 TS
def dZ:List Dv→Option (List (List Dv))
 | []=>some []
 | .tup es :: r=>(dZ r).map (es :: ·)
 | _=>none
def tN:List Dv→Bool
 | []=>false
 | d :: _=>decide (kdI d < 4)
def fj (rows:List (List Dv)):Bool:=decide (rows.length < 64) && rows.all fun r=>decide (sig r=sig (rows.headD [])) && tN r && dP (sig r)
def iS:List Dv→Option (Rs Dv)
 | [.lst ds]=>match dZ ds with
  | some rows=>if fj rows=true then some (.ok (.lst ((isortB (fun a b=>!ltL b a) rows).map Dv.tup))) else none
  | none=>Ax [.lst ds]
 | _=>none
theorem kf:∀ {ds:List Dv} {rows:List (List Dv)},dZ ds=some rows→ds=rows.map Dv.tup
 | [],rows,h=>by cases h; rfl
 | .tup es :: r,rows,h=>by
  obtain ⟨rs,h1,rfl⟩:=GH.mp (show (dZ r).map (es :: ·)=some rows from h)
  rw [kf h1]
  rfl
 | .non :: _,_,h=>by cases h
 | .bl _ :: _,_,h=>by cases h
 | .int _ :: _,_,h=>by cases h
 | .str _ :: _,_,h=>by cases h
 | .lst _ :: _,_,h=>by cases h
 | .scr _ :: _,_,h=>by cases h
 | .exn _ :: _,_,h=>by cases h
section
variable {X:Cx} {pins:List (Addr×Obj)} {σ:L2.St} {H:Hp} {s:Shared}
theorem lM {K:ck}:∀ {ds:List Dv} {ks:List Str} {us:List V},bh ds=some ks→Reps K H ds us→us=ks.map V.str:=by
 intro ds ks us h r
 have:=dw h
 subst this
 clear h
 induction ks generalizing us with
 | nil=>exact (show us=[] from r)
 | cons k ks ih =>
  obtain ⟨v,vs,rfl,r1,r2⟩:∃ v vs,us=v :: vs∧Rep K H (.str k) v∧Reps K H (ks.map Dv.str) vs:=r
  cases (show v=.str k from r1)
  rw [ih r2]
  rfl
theorem oJ {h':Heap} {A:q_} (I:Inv X pins σ H s) (hu:A.units + 8 < cLine) (up:∀ b o,s.heap.get? b=some o→h'.get? b=some o):∀ {z:Bool} {es es':List Dv} {us us':List V} {tis tis':List Value},(z=true→tN es=true)→sig es=sig es'→dP (sig es)=true→Reps X.K H es us→Reps X.K H es' us'→Vals us tis→Vals us' tis' →
 ∃ rs,jt h' A z (tis.zip tis') rs∧(cy rs).getD false=ltL es es'
 | z,[],[],us,us',tis,tis',_,_,_,r,r',v,v'=>by
  cases (show us=[] from r)
  cases v
  exact ⟨[],.nil,rfl⟩
 | z,x :: es,y :: es',us,us',tis,tis',hz,s,hk,r,r',v,v'=>by
  obtain ⟨u,us1,rfl,r1,r2⟩:∃ v us1,us=v :: us1∧Rep X.K H x v∧Reps X.K H es us1:=r
  obtain ⟨u',us1',rfl,r1',r2'⟩:∃ v us1,us'=v :: us1∧Rep X.K H y v∧Reps X.K H es' us1:=r'
  simp only [sig,xy,Nc] at s
  simp only [sig,dP,xy,GK,k_,bne_iff_ne,ne_eq] at hk
  cases v with
  | cons v1 v2 =>
   cases v' with
   | cons v1' v2' =>
    obtain ⟨rs,i1,i2⟩:=oJ I hu up (z:=false) (fun z=>by cases z) s.2 (by simpa [dP,sig] using hk.2) r2 r2' v2 v2'
    rename_i b1 l1 b2 l2
    have one:∀ (p q:Value) (e l:Bool),jI h' A z p q e l→(if e=true then ltL es es' else l)=ltL (x :: es) (y :: es')→∃ rs,jt h' A z ((p,q) :: l1.zip l2) rs∧(cy rs).getD false=ltL (x :: es) (y :: es'):=fun p q e l h zz =>
     ⟨(e,l) :: rs,.cons h i1,by rw [fD,i2]; exact zz⟩
    have kt:∀ ds n,kdI (.tup ds)=n→n≠0→n < 4→False:=fun ds n e h0 h4=>by
     obtain ⟨_,_,e'⟩:=fg (ds:=ds) (by omega)
     omega
    cases x with
    | str a =>
     cases y with
     | str b =>
      cases (show u=.str a from r1)
      cases (show u'=.str b from r1')
      obtain ⟨t,rfl⟩:=v1
      obtain ⟨t',rfl⟩:=v1'
      exact one _ _ _ _ (oD h' A z a b t t') rfl
     | tup b=>exact (kt b 1 s.1.symm (by decide) (by decide)).elim
     | _=>exact absurd s.1 (by simp [kdI])
    | int a =>
     cases y with
     | int b =>
      cases (show u=.int a from r1)
      cases (show u'=.int b from r1')
      obtain ⟨t,rfl⟩:=v1
      obtain ⟨t',rfl⟩:=v1'
      exact one _ _ _ _ (uK h' A z a b t t') rfl
     | tup b=>exact (kt b 2 s.1.symm (by decide) (by decide)).elim
     | _=>exact absurd s.1 (by simp [kdI])
    | bl a =>
     cases y with
     | bl b =>
      cases (show u=.bl a from r1)
      cases (show u'=.bl b from r1')
      cases v1
      cases v1'
      exact one _ _ _ _ (xr h' A z a b) rfl
     | tup b=>exact (kt b 3 s.1.symm (by decide) (by decide)).elim
     | _=>exact absurd s.1 (by simp [kdI])
    | tup ds =>
     obtain ⟨ks,e1,e2⟩:=fg hk.1
     cases y with
     | tup ds' =>
      obtain ⟨js,e3,e4⟩:=fg (ds:=ds') (by rw [← s.1]; exact hk.1)
      obtain ⟨a,xs,rfl,ha,rx⟩:=r1.tupE
      obtain ⟨c,ys,rfl,hc,ry⟩:=r1'.tupE
      cases v1
      cases v1'
      obtain ⟨its,q1,q2,_⟩:=I.tuple (SqT.of ha)
      obtain ⟨its2,p1,p2,_⟩:=I.tuple (SqT.of hc)
      have zf:z=false:=by
       cases z with
       | false=>rfl
       | true =>
        have:=hz rfl
        simp only [tN,decide_eq_true_eq] at this
        omega
      subst zf
      obtain ⟨o1,g1,g1'⟩:=q2
      obtain ⟨o2,g2,g2'⟩:=p2
      rw [lM e1 rx] at q1
      rw [lM e3 ry] at p1
      refine one _ _ _ _ (uL hu ⟨o1,up _ _ g1,g1'⟩ ⟨o2,up _ _ g2,g2'⟩ (by have:=s.1; omega) q1 p1) ?_
      simp only [ltL,eqI,ltI,e1,e3]
     | _=>have:=s.1; simp only [kdI] at this e2; rw [e2] at this; omega
    | _=>exact absurd rfl hk.1
 | _,[],_ :: _,_,_,_,_,_,s,_,_,_,_,_=>by simp [sig] at s
 | _,_ :: _,[],_,_,_,_,_,s,_,_,_,_,_=>by simp [sig] at s
end
theorem uN {K:ck} {H:Hp} {x:Dv} {v:V} {u:Value} (hk:kdI x≠0) (h4:kdI x < 4) (r:Rep K H x v) (rv:RelV v u):∃ T,∀ s':Shared,s'.TypeIs u T:=by
 cases x with
 | str a=>cases (show v=.str a from r); obtain ⟨t,rfl⟩:=rv; exact ⟨"str",fun s=>IV s _ _⟩
 | int a=>cases (show v=.int a from r); obtain ⟨t,rfl⟩:=rv; exact ⟨"int",fun s=>typeIs_int s _ _⟩
 | bl a=>cases (show v=.bl a from r); cases rv; exact ⟨"bool",fun s=>MG s _⟩
 | tup ds=>obtain ⟨_,_,e⟩:=fg hk; omega
 | _=>exact absurd rfl hk
section
variable {X:Cx} {pins:List (Addr×Obj)} {σ:L2.St} {H:Hp} {s:Shared}
theorem iT (I:Inv X pins σ H s):∀ {rows:List (List Dv)} {ws:List V} {its:List Value},(∀ r∈rows,tN r=true∧dP (sig r)=true)→Reps X.K H (rows.map Dv.tup) ws→Vals ws its→∃ fs,dH s.heap its fs∧∀ f∈fs,∃ T,∀ s':Shared,s'.TypeIs f T
 | [],ws,its,_,r,v=>by
  cases (show ws=[] from r)
  cases v
  exact ⟨[],.nil,by simp⟩
 | es :: rows,ws,its,h,r,v=>by
  obtain ⟨u,ws1,rfl,r1,r2⟩:∃ v ws1,ws=v :: ws1∧Rep X.K H (.tup es) v∧Reps X.K H (rows.map Dv.tup) ws1:=r
  obtain ⟨a,xs,rfl,ha,rx⟩:=r1.tupE
  cases v with
  | cons v1 v2 =>
   cases v1
   obtain ⟨fs,f1,f2⟩:=iT I (fun r hr=>h r (ge _ hr)) r2 v2
   obtain ⟨tis,rt,pt,hz⟩:=I.tuple (SqT.of ha)
   obtain ⟨h1,h2⟩:=h es g_
   cases es with
   | nil=>cases h1
   | cons x es =>
    obtain ⟨u,us,rfl,q1,q2⟩:∃ v us,xs=v :: us∧Rep X.K H x v∧Reps X.K H es us:=rx
    cases rt with
    | cons w1 w2 =>
     rename_i t ts
     refine ⟨t :: fs,.cons pt (by simp) f1,fun f hf=>?_⟩
     rcases p_.mp hf with rfl | hf
     · simp only [sig,dP,xy,GK,k_,bne_iff_ne,ne_eq] at h2
       exact uN h2.1 (of_decide_eq_true h1) q1 w1
     · exact f2 f hf
theorem sv (I:Inv X pins σ H s):∀ {rows:List (List Dv)} {ws:List V} {its:List Value} (i:Nat) (x:Value),Reps X.K H (rows.map Dv.tup) ws→Vals ws its→its[i]?=some x→∃ a us tis es,rows[i]?=some es∧ws[i]?=some (.ref a)∧x=.ref a∧Reps X.K H es us∧Vals us tis∧H a=some (.tup us)∧s.heap.IsTuple a tis.toArray
 | [],ws,its,i,x,r,v,h=>by
  cases (show ws=[] from r)
  cases v
  simp at h
 | es :: rows,ws,its,i,x,r,v,h=>by
  obtain ⟨u,ws1,rfl,r1,r2⟩:∃ v ws1,ws=v :: ws1∧Rep X.K H (.tup es) v∧Reps X.K H (rows.map Dv.tup) ws1:=r
  obtain ⟨a,xs,rfl,ha,rx⟩:=r1.tupE
  cases v with
  | cons v1 v2 =>
   cases v1
   cases i with
   | zero =>
    simp at h
    subst h
    obtain ⟨tis,rt,pt,hz⟩:=I.tuple (SqT.of ha)
    exact ⟨a,xs,tis,es,rfl,rfl,rfl,rx,rt,ha,pt⟩
   | succ i =>
    obtain ⟨a',us,tis,es',q1,q2,q⟩:=sv I i x r2 v2 (by simpa using h)
    exact ⟨a',us,tis,es',by simpa using q1,by simpa using q2,q⟩
theorem bW {K:ck}:∀ {ds:List Dv} {ws:List V},Reps K H ds ws→ds.length=ws.length
 | [],ws,r=>by cases (show ws=[] from r); rfl
 | d :: ds,ws,r=>by
  obtain ⟨u,ws1,rfl,r1,r2⟩:∃ v ws1,ws=v :: ws1∧Rep K H d v∧Reps K H ds ws1:=r
  simp [bW r2]
theorem jM {K:ck} {ds:List Dv} {ws:List V} (hl:ds.length=ws.length) (h:∀ (i:Nat) (d:Dv) (v:V),ds[i]?=some d→ws[i]?=some v→Rep K H d v):Reps K H ds ws:=by
 induction ds generalizing ws with
 | nil=>cases ws with
  | nil=>exact rfl
  | cons _ _=>simp at hl
 | cons d ds ih=>cases ws with
  | nil=>simp at hl
  | cons w ws=>exact ⟨w,ws,rfl,h 0 d w rfl rfl,ih (by simpa using hl) fun i d' v e1 e2=>h (i + 1) d' v (by simpa using e1) (by simpa using e2)⟩
theorem kg {K:ck}:∀ {ds:List Dv} {ws:List V},Reps K H ds ws→∀ (i:Nat) (d:Dv) (v:V),ds[i]?=some d→ws[i]?=some v→Rep K H d v
 | [],_,_,i,d,v,h,_=>by simp at h
 | d0 :: ds,ws,r,i,d,v,h,h'=>by
  obtain ⟨u,ws1,rfl,r1,r2⟩:∃ v ws1,ws=v :: ws1∧Rep K H d0 v∧Reps K H ds ws1:=r
  cases i with
  | zero=>simp at h h'; subst h; subst h'; exact r1
  | succ i=>exact kg r2 i d v (by simpa using h) (by simpa using h')
theorem jN {ws:List V} {its:List Value} (hl:ws.length=its.length) (h:∀ (i:Nat) (v:V) (u:Value),ws[i]?=some v→its[i]?=some u→RelV v u):Vals ws its:=by
 induction ws generalizing its with
 | nil=>cases its with
  | nil=>exact .nil
  | cons _ _=>simp at hl
 | cons d ds ih=>cases its with
  | nil=>simp at hl
  | cons w ws=>exact .cons (h 0 d w rfl rfl) (ih (by simpa using hl) fun i d' v e1 e2=>h (i + 1) d' v (by simpa using e1) (by simpa using e2))
def d5 (rows:List (List Dv)) (i:Nat):List Dv:=rows.getD i (rows.headD [])
theorem iU {rows:List (List Dv)} (h:∀ r∈rows,sig r=sig (rows.headD [])∧tN r=true∧dP (sig r)=true) (i:Nat):sig (d5 rows i)=sig (rows.headD [])∧dP (sig (d5 rows i))=true:=by
 unfold d5
 cases rows with
 | nil=>exact ⟨rfl,rfl⟩
 | cons r rows =>
  by_cases hi:i < (r :: rows).length
  · have e:(r :: rows).getD i ((r :: rows).headD [])=(r :: rows)[i]:=by
     unfold Hi
     rw [i_ hi]
     rfl
    rw [e]
    have:=h _ (IE hi)
    exact ⟨this.1,this.2.2⟩
  · have e:(r :: rows).getD i ((r :: rows).headD [])=r:=by
     unfold Hi
     rw [Gg (by omega)]
     rfl
    rw [e]
    exact ⟨rfl,(h r g_).2.2⟩
theorem sw {rows:List (List Dv)} (h:∀ r∈rows,sig r=sig (rows.headD [])∧tN r=true∧dP (sig r)=true):Od fun i j=>ltL (d5 rows i) (d5 rows j) where
 ir:=fun a=>sg _
 tr:=fun a b c h1 h2=>sh h1 h2
 nt:=fun a b c h1=>si ((iU h a).1.trans (iU h b).1.symm) ((iU h b).1.trans (iU h c).1.symm) (iU h a).2 h1
theorem kh {rows:List (List Dv)} {i:Nat} {es:List Dv} (h:rows[i]?=some es):d5 rows i=es:=by
 unfold d5 Hi
 rw [h]
 rfl
theorem mU (rows:List (List Dv)):(isortB (fun i j=>!(fun i j=>ltL (d5 rows i) (d5 rows j)) j i) (f_ rows.length)).map (d5 rows)=isortB (fun a b=>!ltL b a) rows:=by
 have e:(f_ rows.length).map (d5 rows)=rows:=by
  apply Jy
  intro i
  by_cases hi:i < rows.length
  · rw [D_,GX hi,i_ hi]
    show some (d5 rows i)=_
    rw [kh (i_ hi)]
  · rw [Gg (by simpa using hi),Gg (by omega)]
 rw [gd (le':=fun a b=>!ltL b a) (d5 rows) _ fun x _ y _=>rfl,e]
theorem oK (I:Inv X pins σ H s) {rows:List (List Dv)} {ws:List V} {its:List Value} {A':q_} {hp:Heap} (hr:∀ r∈rows,sig r=sig (rows.headD [])∧tN r=true∧dP (sig r)=true) (h2:Reps X.K H (rows.map Dv.tup) ws) (rv:Vals ws its) (hA:A'.units + 8 < cLine) (up:∀ b o,s.heap.get? b=some o→hp.get? b=some o) {i j:Nat} {x y:Value} (ex:its[i]?=some x) (ey:its[j]?=some y) :
 ∃ a c xs ys rs,x=.ref a∧y=.ref c∧s.heap.IsTuple a xs∧s.heap.IsTuple c ys∧jt hp A' true (xs.toList.zip ys.toList) rs∧(cy rs).getD (decide (xs.size < ys.size))=ltL (d5 rows i) (d5 rows j):=by
 obtain ⟨a1,us1,t1,es1,q1,q2,q3,q4,q5,q6,q7⟩:=sv I i x h2 rv ex
 obtain ⟨a2,us2,t2,es2,p1,p2,p3,p4,p5,p6,p7⟩:=sv I j y h2 rv ey
 have m1:=hr es1 (GR q1)
 have m2:=hr es2 (GR p1)
 obtain ⟨rs,i1,i2⟩:=oJ (A:=A') (z:=true) I hA up (fun _=>m1.2.1) (m1.1.trans m2.1.symm) m1.2.2 q4 p4 q5 p5
 refine ⟨a1,a2,t1.toArray,t2.toArray,rs,q3,p3,q7,p7,by simpa using i1,?_⟩
 have hsz:t1.toArray.size=t2.toArray.size:=by
  have k1:=q5.length
  have k2:=p5.length
  have k3:=bW q4
  have k4:=bW p4
  have k5:(sig es1).length=(sig es2).length:=by rw [m1.1,m2.1]
  simp [sig] at k5
  simp
  omega
 rw [hsz,decide_eq_false (Gy _),i2,kh q1,kh p1]
theorem vS {rows:List (List Dv)} {ws:List V} {its out:List Value} {p:Nat→Nat} (hlen:rows.length=its.length) (h2:Reps X.K H (rows.map Dv.tup) ws) (rv:Vals ws its) (g4:out.length=its.length) (g5:∀ k,k < its.length→out[k]?=its[p k]?)
 (g6:(f_ its.length).map p=isortB (fun i j=>!(fun i j=>ltL (d5 rows i) (d5 rows j)) j i) (f_ its.length)) (g7:∀ k,k < its.length→p k < its.length) :
 Vals ((f_ its.length).map fun k=>ws.getD (p k) .non) out∧Reps X.K H ((isortB (fun a b=>!ltL b a) rows).map Dv.tup) ((f_ its.length).map fun k=>ws.getD (p k) .non):=by
 have hws:ws.length=its.length:=rv.length
 refine ⟨jN (by simp [g4]) fun i v u ev eu=>?_,?_⟩
 · have hi:i < its.length:=by
    have:=(u_.mp eu).1
    omega
   rw [g5 i hi] at eu
   rw [D_,GX hi] at ev
   simp only [GZ,HC] at ev
   have hp:p i < ws.length:=by rw [hws]; exact g7 i hi
   have e1:ws[p i]?=some v:=by rw [i_ hp,← ev]; simp [Hi,hp]
   obtain ⟨u',e2,r2⟩:=rv.get e1
   rw [e2] at eu
   cases eu
   exact r2
 · rw [← mU rows,hlen,← g6,GC,GC]
   refine jM (by simp) fun i d v ed ev=>?_
   have hi:i < its.length:=by
    have:=(u_.mp ed).1
    simpa using this
   rw [D_,GX hi] at ed ev
   simp only [GZ,HC,Mh] at ed ev
   have hp:p i < ws.length:=by rw [hws]; exact g7 i hi
   have hp':p i < rows.length:=by rw [hlen]; exact g7 i hi
   refine kg h2 (p i) d v ?_ ?_
   · rw [D_,i_ hp',← ed,kh (i_ hp')]
     rfl
   · rw [i_ hp,← ev]
     simp [Hi,hp]
theorem pL (hu:X.A.units + 64 < cLine):CallR X (.builtin "sorted") (fun xs H Q=>∃ a ws rows,xs=[.ref a]∧H a=some (.lst ws)∧Reps X.K H (rows.map Dv.tup) ws∧fj rows=true ∧
 ∀ l ws',H l=none→Reps X.K H ((isortB (fun a b=>!ltL b a) rows).map Dv.tup) ws'→Q (.ref l) (upd H l (.lst ws'))):=by
 intro pins s σ H xs us Q I r h
 obtain ⟨a,ws,rows,rfl,h1,h2,h3,q⟩:=h
 obtain ⟨u,rfl,ru⟩:=dJ r
 cases ru
 obtain ⟨z,its,n,rv,hl,e⟩:=I.lstM h1
 simp only [fj,k_,decide_eq_true_eq,Gz] at h3
 have hr:∀ r∈rows,sig r=sig (rows.headD [])∧tN r=true∧dP (sig r)=true:=fun r hr=>⟨(h3.2 r hr).1.1,(h3.2 r hr).1.2,(h3.2 r hr).2⟩
 have hlen:rows.length=its.length:=by
  have g1:=bW h2
  have g2:=rv.length
  simp at g1
  omega
 obtain ⟨fs,f1,f2⟩:=iT I (fun r hr'=>(hr r hr').2) h2 rv
 refine uM (vs:=its) ⟨_,e,rfl,n,rfl⟩ (by omega) (sw hr) f1 f2 (fun A' hp i j x y hA up ex ey=>oK I hr h2 rv (by omega) up ex ey) fun L h' tk out ep p g1 g2 g3 g4 g5 g6 g7=>?_
 obtain ⟨hV,hR⟩:=vS hlen h2 rv g4 g5 g6 g7
 refine ⟨.ref L,_,I.laid (h':=h') (t':=tk) (o:=.lst ((f_ its.length).map fun k=>ws.getD (p k) .non)) g3 g2 ?_,rfl,q L _ (I.hok.fresh g2) hR⟩
 exact ⟨line64 (by simp; omega),out,ep,hV,by simpa [B_] using g1⟩
end
section
variable {X:Cx} {p pos:Pos} {e:Expr} {es:List Expr} {ga:FnA}
theorem uO (hu:X.A.units + 64 < cLine) (hg:Gl X "sorted") (hm:X.mg "sorted"=none) (ha:FA X (e :: es) ga) (he:e_ (e :: es) X.env=(false,eval e X.env) :: e_ es X.env:=by kernel_rfl) (hpl:(F0 pos (e_ es X.env)).any (·.1)=false:=by kernel_rfl):FE X (.Call (.Name "sorted" p) (e :: es) [] pos) (fB1 iS ga) :=
 cL (ip ((pL hu).or rL) hg hm (by decide +kernel) ha.h (by decide) (by decide) he hpl) fun σ H Q ρ E o=>⟨ρ,E,OutA.bind o fun ds vs H1 e1 rs o1=>by
  unfold iS at o1
  split at o1
  · rename_i xs
    obtain ⟨v,rfl,r⟩:=cM rs
    obtain ⟨a,ws,rfl,h1,h2⟩:=r.lstE
    split at o1
    · rename_i rows hrows
      split at o1
      · rename_i hok
        rw [kf hrows] at h2
        exact .inl ⟨a,ws,rows,rfl,h1,h2,hok,fun l ws' hl' rw'=>o1 _ _ (ar hl' _) ⟨l,_,rfl,am,Reps.mono (ar hl' _) _ _ rw'⟩⟩
      · exact o1.elim
    · refine .inr ?_
      have o2:Out X H1 (match hX xs with
       | some ns=>if ns.length < 64 then some (Rs.ok (Dv.lst (Nz Dv.int (isortB leI ns)))) else none
       | none=>match bh xs with
        | some ss=>if ss.length < 64 then some (Rs.ok (Dv.lst (Nz Dv.str (isortB leS ss)))) else none
        | none=>none) Q:=o1
      split at o2
      · rename_i ns hb
        split at o2
        · rename_i hl
          exact ⟨a,ws,xs,rfl,h1,h2,.inl ⟨ns,hb,hl,fun l hl'=>o2 _ _ (ar hl' _) ⟨l,_,rfl,am,ly _ _⟩⟩⟩
        · exact o2.elim
      · split at o2
        · rename_i ns hb
          split at o2
          · rename_i hl
            exact ⟨a,ws,xs,rfl,h1,h2,.inr ⟨ns,hb,hl,fun l hl'=>o2 _ _ (ar hl' _) ⟨l,_,rfl,am,gJ _ _⟩⟩⟩
          · exact o2.elim
        · exact o2.elim
  · exact o1.elim⟩
end
end FD
namespace FD
open PySem PySem.Spec PyProof.Rows L2 PySem.W
section
variable {X:Cx} {hx:Expr} {body:List Stmt} {f:FnS} {g:FnE} {J n:Str} {CJ:Addr} {np rp2 hpos pos:Pos}
end
theorem xt (K:ck) (d:Dv):Hk K (.type (tyD d)) (.type "list")=some (ri d):=by cases d <;> kernel_rfl
end FD
namespace FD
open PySem PySem.Spec PyProof.Rows L2 TS
section
variable {X:Cx} {pins:List (Addr×Obj)} {σ:L2.St} {H:Hp} {s:Shared} {k:Nat} {f:Addr} {fd:Gp} {ps:List Str} {F:List Dv→Option (Rs Dv)} {A':q_} {E:Value→Shared→Prop}
end
end FD
namespace TS
open PySem PyProof.Rows FD
section
variable {prog:Program} {w:uk} {A:q_} {E:Value→Shared→Prop} {s:Shared} {blt:Nat→Nat→Bool}
theorem vT {a kS:Addr} {e1 c:Nat} {its:Array Value} {st:Jt} {P:L3→Shared→Prop} (hk:s.heap.get? kS=some (B_ "list" its c)) (ha:s.heap.get? a=some (B_ "list" #[] e1)) (hne:kS≠a) (hz:its.size≤sizeLine) (hz2:(JE st).size≤sizeLine) (hf:LR st=none)
 (h:P (.done (.ret .none)) { s with heap:=(s.heap.update kS (Fy fun _=>#[])).update a (Fy fun _=>(JE st).map (·.2)) }):l_ (o_ prog w) A (ksk_tail a false e1 (.ref kS) st) P E s:=by
 unfold ksk_tail
 refine b_ (HM hk rfl ?_ hz (FN _))
 refine b_ (wpAny_letGo ?_)
 have ha2:(s.heap.update kS (Fy fun _=>#[])).get? a=some (B_ "list" #[] e1):=by
  rw [Gh _ _ _ _ hne.symm]; exact ha
 refine b_ (KF (s:={ s with heap:=s.heap.update kS (Fy fun _=>#[]) }) ha2 rfl ?_)
 refine b_ (HM (s:={ s with heap:=s.heap.update kS (Fy fun _=>#[]) }) ha2 rfl ?_ (FN _) (by simp only [on,if_false,Hr]; omega))
 rw [hf]
 simp only [bne_self_eq_false,on,if_false]
 exact c_ h
end
end TS
namespace FD
open PySem PySem.Spec PyProof.Rows L2 TS
section
variable {X:Cx} {pins:List (Addr×Obj)} {σ:L2.St} {H:Hp} {s:Shared} {k:Nat} {f:Addr} {fd:Gp} {ps:List Str} {F:List Dv→Option (Rs Dv)} {A':q_} {E:Value→Shared→Prop}
theorem lN:∀ {ds:List Dv} (n:Nat),imms ds=true→imms (ds.take n)=true
 | [],n,_=>by simp [imms]
 | d :: ds,0,_=>by simp [imms]
 | d :: ds,n + 1,h=>by
  simp only [imms,k_] at h
  simp only [List.take_succ_cons,imms,k_]
  exact ⟨h.1,lN n h.2⟩
end
section
variable {X:Cx} {pins:List (Addr×Obj)} {σ:L2.St} {H:Hp} {s:Shared} {k:Nat} {f:Addr} {fd:Gp} {ps:List Str} {F:List Dv→Option (Rs Dv)} {A':q_} {E:Value→Shared→Prop}
theorem mV {h:Heap} {a:Addr} {o:Obj} (e:h.get? a=some o):cf [a] h=[(a,o)]:=by simp [cf,e]
theorem mW {M:LL} {A:q_} {l:Addr} {vs:List Value} {o:Obj} {n:Nat} {c:String} {Q:List Value→Shared→Prop} {prog:Program} {w:uk} (ho:s.heap.get? l=some o) (hc:o.cls=.type c) (hd:o.data=.seq vs.toArray n) (h2:(r_ c == r_ "list" || r_ c == r_ "tuple")=true)
 (h:∀ h',(∀ b o,s.heap.get? b=some o→h'.get? b=some o)→s.heap.objs.size < h'.objs.size→Q vs { s with heap:=h' }) (hsz:vs.length≤sizeLine):l_ (o_ prog w) A (Ng (.ref l)) Q E s:=by
 unfold Ng
 refine b_ (Jl (Gv entry_proto_collect' ?_))
 show l_ _ _ (do Np (.builtin "list.__iadd__" ⟨[← newList [],.ref l],[]⟩)) _ _ s
 refine b_ (Io (c_ ⟨IY _ (by decide +kernel),Gv entry_list_iadd' ?_⟩))
 show l_ _ _ (Hb (.ref s.heap.objs.size) (.ref l) (.ref s.heap.objs.size)) _ _ { s with heap:=s.heap.push (B_ "list" #[] 0) }
 unfold Hb
 have ho':(s.heap.push (B_ "list" #[] 0)).get? l=some o:=d_ _ ho
 refine b_ (Hy (T:=c) ⟨o,ho',hc⟩ ?_)
 rw [if_pos (by rw [Bool.or_assoc,h2]; simp)]
 refine b_ (Ie ho' hd ?_)
 refine b_ (Ie (xs:=#[]) (n:=0) (h_ _ rfl) rfl ?_)
 rw [if_neg (by simp)]
 refine b_ (HM (xs:=#[]) (n:=0) (h_ _ rfl) rfl ?_ (FN _) (by simp only [ML,v_,List.length_nil]; show 0 + vs.length≤_; omega))
 refine c_ ?_
 show l_ (o_ prog w) A (do
  let o ← load s.heap.objs.size
  match o.data with
  | .seq xs _=>pure xs.toList
  | _=>Ly "internal:collect") Q E { s with heap:=(s.heap.push (B_ "list" #[] 0)).update s.heap.objs.size (Fy (· ++ vs.toArray)) }
 refine b_ (wpAny_load (Il (h_ _ rfl) _) ?_)
 show l_ _ _ (pure ((#[]:Array Value) ++ vs.toArray).toList) Q E _
 rw [show ((#[]:Array Value) ++ vs.toArray).toList=vs by simp]
 refine c_ (h _ (fun b o' q=>?_) ?_)
 · have:=m_ q
   rw [Gh _ _ _ _ (n_ this),F7 _ _ _ (n_ this)]
   exact q
 · rw [GO,Hl]; exact GI _
end
section
variable {X:Cx} {pins:List (Addr×Obj)} {σ:L2.St} {H:Hp} {s:Shared} {k:Nat} {f:Addr} {fd:Gp} {ps:List Str} {F:List Dv→Option (Rs Dv)} {E:Value→Shared→Prop}
end
section
variable {X:Cx} {k' n:Nat} {ps:List Str} {x:Str} {p p2 kp pos:Pos} {e:Expr} {F:List Dv→Option (Rs Dv)} {g:FnA}
end
end FD
namespace FD
open PySem PySem.Spec PyProof.Rows L2
section
variable {X:Cx} {p pos:Pos} {e:Expr} {es:List Expr} {ga:FnA}
end
end FD
namespace TS
open PySem PySem.Spec PyProof.Rows L2 FD
def okF (ks:List Nat):Bool:=ks.all fun k=>k != 0 && decide (k < 4)
end TS
namespace FD
open PySem PySem.Spec PyProof.Rows L2 TS
section
variable {X:Cx}
end
end FD
namespace FD
open PySem PySem.Spec PyProof.Rows L2
def ai (X:Cx) (N:List Str) (scope:Scope) (C:Addr) (s:Shared) (H:Hp) (fp:List Addr):Cx :=
 { X with N:=N,s₀:=s,H₀:=H,env:=Mx scope (F3 (C + 1) scope.names (ic scope.names X.env [])) C X.env,outer:=X.stack,stack:=X.stack,ex:=fp,fn:=fun y=>scope.names.lookup y == some .cell,pn:=[],xe:=fun _ _=>False }
structure iV (osc scope:Scope) (cs:List (Str×Nat)) (N:List Str):Prop where
 kind:scope.kind=.function
 one:∀ y∈scope.names,y.2=.cell→scope.names.lookup y.1=some .cell
 names:∀ y∈scope.names,y.2=.local→scope.names.lookup y.1=some .local
 free:∀ y∈scope.names,y.2=.free→osc.names.lookup y.1=some .cell∨osc.names.lookup y.1=some .free
 caps:∀ c∈cs,N[c.2]?=some c.1∧scope.names.lookup c.1=some .free
theorem gg:∀ (names:List (Str×HV)) (lo:Nat) (acc:List (Str×Addr)),F3 lo names acc=F3 lo names [] ++ acc
 | [],_,_=>rfl
 | (n,k) :: r,lo,acc=>by
  unfold F3
  split
  · rw [gg r (lo + 1) ((n,lo) :: acc),gg r (lo + 1) [(n,lo)],Iy]; rfl
  · exact gg r lo acc
theorem sx:∀ {names:List (Str×HV)} {lo:Nat} {n:Str} {c:Addr},(n,c)∈F3 lo names []→(n,G6)∈names
 | [],_,_,_,h=>(nomatch h)
 | (m,k) :: r,lo,n,c,h=>by
  unfold F3 at h
  split at h
  · rename_i hk
    rw [gg] at h
    rcases Gj.mp h with q | q
    · exact ge _ (sx q)
    · have e:n=m:=by simp at q; exact q.1
      have ek:k=.cell:=by simpa using hk
      subst e ek
      exact g_
  · exact ge _ (sx h)
theorem oM:∀ {names:List (Str×HV)} {lo:Nat} {n:Str},(n,G6)∈names→((F3 lo names []).lookup n).isSome=true
 | [],_,_,h=>(nomatch h)
 | (m,k) :: r,lo,n,h=>by
  unfold F3
  rcases p_.mp h with e | q
  · cases e
    rw [if_pos (by decide),gg,Ho]
    cases hl:(F3 (lo + 1) r []).lookup m with
    | some _=>rfl
    | none=>simp
  · split
    · rw [gg,Ho]
      have:=oM (lo:=lo + 1) q
      cases hl:(F3 (lo + 1) r []).lookup n with
      | some _=>rfl
      | none=>rw [hl] at this; cases this
    · exact oM q
theorem xu {M:LL} {A:q_} {E:Value→Shared→Prop} {s:Shared} {scope:Scope} {globals:Addr} {cl:List (Str×Addr)} {qual:Str} {env:Env} {Q:Env→Shared→Prop} (hk:scope.kind=.function)
 (hQ:Q (newEnv scope s.heap.objs.size globals (F3 (s.heap.objs.size + 1) scope.names cl) qual none .none (some env) builtinsNs) { s with heap:=pushCells (s.heap.push { cls:=.type "dict",data:=.dict #[] }) scope.names }) :
 l_ M A (LA scope globals cl [] qual none .none (some env)) Q E s:=by
 simp only [LA,Option.isSome_some,if_true]
 refine b_ (wpAny_alloc ?_)
 refine b_ (wpAny_layCells _ (fun name kind cells=>by cases hkc:kind == G6 <;> simp [hkc]) _ _ _ _ ?_)
 rw [show ({ s with heap:=s.heap.push { cls:=.type "dict",data:=.dict #[] } }:Shared).heap.objs.size=s.heap.objs.size + 1 from z_ ..]
 refine b_ ?_
 rw [LX]
 exact c_ (c_ hQ)
theorem sy {X:Cx} {pins:List (Addr×Obj)} {σ:L2.St} {H:Hp} {s:Shared} {scope:Scope} {ns:List Str} {cs:List (Str×Nat)} {fp:List Addr} {h₁:Heap} {C:Addr} {t':Nat} (ok:iV X.env.scope scope cs X.N) (I:Inv X pins σ H s) (hfp:∀ b∈fp,nV X pins H b) (hlt:∀ b∈fp,b < s.heap.objs.size)
 (hC:s.heap.objs.size≤C) (hns:h₁.Ns C fun _=>none) (old:∀ b o,s.heap.get? b=some o→h₁.get? b=some o) (hck:CellsOk h₁ (C + 1) (F3 (C + 1) scope.names [])) :
 Inv (ai X (ns ++ cs.map (·.1)) scope C s H fp) [] (lc ns.length cs σ) H { s with heap:=h₁,toks:=t' }:=by
 have cl1:∀ n c,(ic scope.names X.env []).lookup n=some c→X.env.cells.lookup n=some c:=fun n c e=>by
  rcases jz _ _ e with q | ⟨q1,q2⟩
  · simp at q
  · obtain ⟨c',e'⟩:=I.ok.has n (ok.free _ q1 rfl)
    rw [e'] at q2
    rw [e',q2] <;> rfl
 have lk:∀ n c,(ai X (ns ++ cs.map (·.1)) scope C s H fp).env.cells.lookup n=some c→(n,c)∈F3 (C + 1) scope.names []∨((n,G6) ∉ scope.names∧(ic scope.names X.env []).lookup n=some c):=fun n c e=>by
  have e':(F3 (C + 1) scope.names (ic scope.names X.env [])).lookup n=some c:=e
  rw [gg,Ho] at e'
  cases hl:(F3 (C + 1) scope.names []).lookup n with
  | some c'=>rw [hl] at e'; cases e'; exact .inl (mem_of_lookup hl)
  | none =>
   rw [hl] at e'
   refine .inr ⟨fun hm=>?_,e'⟩
   have:=oM (lo:=C + 1) hm
   rw [hl] at this
   cases this
 have lk2:∀ n c,(n,G6) ∉ scope.names→(ic scope.names X.env []).lookup n=some c→(ai X (ns ++ cs.map (·.1)) scope C s H fp).env.cells.lookup n=some c:=fun n c hm e=>by
  show (F3 (C + 1) scope.names (ic scope.names X.env [])).lookup n=some c
  rw [gg,Ho]
  cases hl:(F3 (C + 1) scope.names []).lookup n with
  | some c'=>exact absurd (sx (mem_of_lookup hl)) hm
  | none=>exact e
 have big:∀ n c,(n,c)∈F3 (C + 1) scope.names []→s.heap.objs.size < c:=fun n c hm=>x_ (Nat.lt_succ_of_le hC) (hck.empty n c hm).2
 have low:∀ n c,(ic scope.names X.env []).lookup n=some c→c < s.heap.objs.size:=fun n c e=>by
  obtain ⟨v,o,ho,_⟩:=I.cell n c (cl1 n c e)
  exact m_ ho
 have inj:∀ y z c,(ai X (ns ++ cs.map (·.1)) scope C s H fp).env.cells.lookup y=some c→(ai X (ns ++ cs.map (·.1)) scope C s H fp).env.cells.lookup z=some c→y=z:=fun y z c e1 e2=>by
  rcases lk y c e1 with p | ⟨_,p⟩ <;> rcases lk z c e2 with q | ⟨_,q⟩
  · exact name_of_addr hck.apart p q
  · exact absurd (Li (big y c p) (low z c q)) (Gy _)
  · exact absurd (Li (big z c q) (low y c p)) (Gy _)
  · exact I.ok.inj y z c (cl1 y c p) (cl1 z c q)
 refine ⟨⟨I.ok.mod,ok.kind,I.ok.glob,I.ok.blt,hC,inj,fun y hy=>?_,fun y c hfn e=>?_,I.ok.hd,I.ok.frames,.inl rfl,fun b hb=>⟨fun z=>?_,fun y c e=>?_⟩,I.bs,FH I.ok.bsz I.sz,fun b o e hb=>?_,fun b hb z=>?_,I.stack,I.stkFree⟩,
  rfl,I.bare,Un.kept old,⟨_,hns,fun i y v h1 h2 h3=>?_⟩,fun y c e=>?_,I.hok.fresh hC,fun y c e=>?_,fun p hp=>absurd (show p∈([]:List (Addr×Obj)) from hp) (by simp),I.hok.kept old,by simp [lc,ai]⟩
 · have hm:(y,G6)∈scope.names∨(y,GT)∈scope.names:=by
    rcases hy with hy | hy
    · rcases hJ hy with q | ⟨_,q⟩
      · exact .inl q
      · exact .inr q
    · rcases hJ hy with q | ⟨q,_⟩
      · exact .inr q
      · cases q
   by_cases hcl:(y,G6)∈scope.names
   · obtain ⟨c,hc'⟩:=HN.mp (oM (lo:=C + 1) hcl)
     refine ⟨c,?_⟩
     show (F3 (C + 1) scope.names (ic scope.names X.env [])).lookup y=some c
     rw [gg,Ho,hc']
     rfl
   · obtain ⟨c,hc'⟩:=HN.mp (j4 (env:=X.env) scope.names [] (hm.resolve_left hcl))
     exact ⟨c,lk2 y c hcl hc'⟩
 · have hfn':scope.names.lookup y=some .cell:=by simpa [ai] using hfn
   rcases lk y c e with p | ⟨p,_⟩
   · exact Hd (big y c p)
   · exact absurd (da hfn') p
 · have:=hlt b hb
   rw [z] at this
   exact absurd (x_ this hC) (Gy _)
 · rcases lk y c e with p | ⟨_,p⟩
   · exact fun z=>absurd (Li (big y c p) (z ▸ hlt b hb)) (Gy _)
   · exact (hfp b hb).2.2.2.2.1 y c (cl1 y c p)
 · rcases (hfp b hb).2.2.2.1 with z | z
   · exact I.ok.noex b o e z
   · exact absurd (x_ (m_ e) (FH I.ok.bsz z)) (Gy _)
 · rcases p_.mp (I.stkSub b z) with q | q
   · exact (hfp b hb).2.1 q
   · exact (hfp b hb).2.2.1 q
 · obtain ⟨k,rfl,h4⟩:=lf h2
   have h1':(ns ++ cs.map (·.1))[ns.length + k]?=some y:=h1
   rw [GW (by simp)] at h1'
   simp only [K5] at h1'
   rw [D_] at h1'
   cases hc:cs[k]? with
   | none=>rw [hc] at h1'; simp at h1'
   | some c =>
    rw [hc] at h1'
    have ey:c.1=y:=by simpa using h1'
    subst ey
    rw [D_,hc] at h4
    simp only [GZ,HC] at h4
    have h2':σ[c.2]?=some (some v):=by
     cases q:σ[c.2]? with
     | none=>rw [q] at h4; simp at h4
     | some o=>rw [q] at h4; simp at h4; rw [h4]
    obtain ⟨hN,hf⟩:=ok.caps c (GR hc)
    have hv:=ok.free _ (da hf) rfl
    obtain ⟨mm,_,hl⟩:=I.loc
    obtain ⟨u,r,l⟩:=hl c.2 c.1 v hN h2' (.inr hv)
    refine ⟨u,r,.inr ⟨hU hf,?_⟩⟩
    rcases l with ⟨l,_⟩ | ⟨_,a,ha,o,ho,hd⟩
    · have l':X.env.scope.names.lookup c.1=some .local:=l
      rcases hv with z | z
      · rw [l'] at z; cases z
      · rw [l'] at z; cases z
    · obtain ⟨a',ha'⟩:=HN.mp (j4 (env:=X.env) scope.names [] (da hf))
      have e2:=cl1 _ _ ha'
      rw [ha] at e2
      cases e2
      exact ⟨a,lk2 _ _ (fun hm=>by have z:=ok.one _ hm rfl; rw [hf] at z; cases z) ha',o,old _ _ ho,hd⟩
 · rcases lk y c e with p | ⟨_,p⟩
   · exact ⟨none,(hck.empty y c p).1⟩
   · obtain ⟨v,o,ho,hd⟩:=I.cell y c (cl1 y c p)
     exact ⟨v,o,old _ _ ho,hd⟩
 · rcases lk y c e with p | ⟨_,p⟩
   · exact I.hok.fresh (Hd (big y c p))
   · exact I.freeC y c (cl1 y c p)
def AI (X:Cx) (ns:List Str) (cs:List (Str×Nat)) (scope:Scope) (D:Addr) (s2:Shared) (H2:Hp) (fp:List Addr) (tn:Nat→Heap→Prop) (ds ys:List Dv) (b:Dv→Ev→Option Ev) (tst:Option FnB) (fe:FnE) (ρ:Ev) (m:Nat) (s':Shared):Prop :=
 ∃ i σ' H' es vs its,m=ds.length - i∧i≤ds.length∧Inv (ai X (ns ++ cs.map (·.1)) scope (D + 1) s2 H2 fp) [] σ' H' s'∧Envs X.K H' σ' (dR ns.length cs ρ)∧tn i s'.heap∧(∀ b∈fp,H' b=none)∧H' D=none∧LAt s'.heap D its∧Vals vs its∧Reps X.K H' es vs∧es.length≤i∧Same H2 H' ∧
  (match eM b tst fe (dR ns.length cs ρ) (ds.drop i) with | some zs=>es ++ zs=ys | none=>False)
theorem jO {X:Cx} {pins:List (Addr×Obj)} {σ:L2.St} {tg elt iter:Expr} {ifs:List Expr} {scope:Scope} {pos:Pos} {ns:List Str} {tst:Option FnB} {fe:FnE} {b:Dv→Ev→Option Ev} {js:List Nat} (cs:List (Str×Nat)) (ok:iV X.env.scope scope cs X.N) (hc:X.calm=true)
 (htg:∀ C s H fp,FG (ai X (ns ++ cs.map (·.1)) scope C s H fp) tg b) (helt:∀ C s H fp,FE (ai X (ns ++ cs.map (·.1)) scope C s H fp) elt fe) (hifs:∀ C s H fp,qO (ai X (ns ++ cs.map (·.1)) scope C s H fp) ifs tst)
 (hback:∀ ρ d ρ',b d (dR ns.length cs ρ)=some ρ'→fgt js ρ'=dR ns.length cs ρ)
 {ρ:Ev} {s2:Shared} {it:Addr} {fp:List Addr} {tn:Nat→Heap→Prop} {J:It} {H2:Hp} (E:Envs X.K H2 σ ρ) (I2:Inv X pins σ H2 s2) (T:vp X.prog X.w X.K tg J fp it tn) (st2:tn 0 s2.heap) (f2:∀ b∈fp,nV X pins H2 b) {ds ys:List Dv} (wk:WkG X.K J ds H2) (hdl:ds.length≤100000) (hyl:ys.length≤100000) (hm:eM b tst fe (dR ns.length cs ρ) ds=some ys)
 {RR:Value→Addr→LK→Shared→Prop}
 (hRR:∀ (D C:Addr) (s6:Shared) (H5:Hp) (vs:List V) (m6:Str→Option Value),Inv X pins σ (upd H5 D (.lst vs)) s6→H5 D=none→Same H2 H5→Reps X.K H5 ys vs→s6.heap.Ns C m6→H5 C=none→C≠D→s2.heap.objs.size≤C→RR (.ref D) C (.ok .next) s6) :
 l_ (o_ X.prog X.w) X.A (newList []) (fun acc s₃=>l_ (o_ X.prog X.w) X.A (LA scope X.env.globals (ic scope.names X.env []) [] X.env.qual none .none (some X.env)) (fun cenv s₄ =>
  HZ (o_ X.prog X.w) X.A (.compStart (.ListComp elt [⟨tg,iter,ifs,0⟩] scope pos) 0 (.ref it) acc { cenv with scope:=relabel scope X.env }) (RR acc cenv.locals) s₄) X.xe s₃) X.xe s2:=by
 have fplt:∀ b∈fp,b < s2.heap.objs.size:=fun b hb=>by
  obtain ⟨o,ho,_⟩:=T.obj _ _ st2 b hb
  exact m_ ho
 refine F6 (xu ok.kind ?_)
 dsimp only
 generalize hH2:s2.heap.push { cls:=.type "list",dict:=none,data:=.seq ([]:List Value).toArray }=P2
 obtain ⟨D,hD⟩:∃ D,s2.heap.objs.size=D:=⟨_,rfl⟩
 have hC:P2.objs.size=D + 1:=by rw [← hH2,z_,hD]
 rw [hC,hD]
 obtain ⟨h₁,hh₁⟩:∃ h,h=pushCells (P2.push { cls:=.type "dict",data:=.dict #[] }) scope.names:=⟨_,rfl⟩
 rw [← hh₁]
 have kp:∀ b o,P2.get? b=some o→h₁.get? b=some o:=fun b o e=>by rw [hh₁]; exact pushCells_keeps _ _ b o (d_ _ e)
 have old:∀ b o,s2.heap.get? b=some o→h₁.get? b=some o:=fun b o e=>kp b o (hH2 ▸ d_ _ e)
 have hacc:LAt h₁ D []:=⟨0,kp _ _ (by rw [← hH2,← hD]; exact h_ _ rfl)⟩
 have hns:h₁.Ns (D + 1) fun _=>none:=by
  rw [hh₁,← hC]
  exact (Heap.Ns.new P2 (.type "dict")).keeps (pushCells_keeps _ _)
 have hck:CellsOk h₁ (D + 1 + 1) (F3 (D + 1 + 1) scope.names []):=by
  have q:=cellsFrom_ok scope.names (P2.push { cls:=.type "dict",data:=.dict #[] }) (D + 1 + 1) [] ⟨fun _ _ hm=>(nomatch hm),Jz⟩ (by rw [z_,hC]; exact j_ _)
  rw [z_,hC,← hh₁] at q
  exact q
 have I4:Inv (ai X (ns ++ cs.map (·.1)) scope (D + 1) s2 H2 fp) [] (lc ns.length cs σ) H2 { s2 with heap:=h₁ }:=sy (t':=s2.toks) ok I2 f2 fplt (by rw [hD]; exact Hg D) hns old hck
 have E4:Envs X.K H2 (lc ns.length cs σ) (dR ns.length cs ρ):=qU ns.length cs E
 have HD:H2 D=none:=I2.hok.fresh (Ig hD)
 have fpD:∀ b∈fp,b≠D:=fun b hb=>wC (hD ▸ fplt b hb)
 have loop:∀ s4:Shared,s4={ s2 with heap:=h₁ } →
  HZ (o_ X.prog X.w) X.A (.compLoop (.ListComp elt [⟨tg,iter,ifs,0⟩] scope pos) 0 (.ref it) (.ref D) (Mx scope (F3 (D + 1 + 1) scope.names (ic scope.names X.env [])) (D + 1) X.env)) (RR (.ref D) (D + 1)) s4:=by
  rintro s4 rfl
  refine lg (fun k s'=>AI X ns cs scope D s2 H2 fp tn ds ys b tst fe ρ k s') ?_ ds.length ⟨0,lc ns.length cs σ,H2,[],[],[],by simp,FN _,I4,E4,T.keep _ _ _ st2 fun b hb o e=>old b o e,fun b hb=>(f2 b hb).1,HD,hacc,.nil,rfl,j_ _,.refl H2,by rw [List.drop_zero,hm]; rfl⟩
  rintro k0 s5 ⟨i,σ5,H5,es,vs,its,rfl,hi5,I5,E5,t5,fr5,D5,l5,v5,r5,hel,e5,hz⟩
  have nC:∀ b∈fp,b≠D + 1:=fun b hb=>zK (hD ▸ fplt b hb)
  have DL:D≠(ai X (ns ++ cs.map (·.1)) scope (D + 1) s2 H2 fp).env.locals:=Eh
  have Dcell:∀ y c,(ai X (ns ++ cs.map (·.1)) scope (D + 1) s2 H2 fp).env.cells.lookup y=some c→c≠D:=fun y c e z=>by
   obtain ⟨v,o,ho,hd⟩:=I5.cell y c e
   obtain ⟨n,q⟩:=l5
   subst z
   rw [q] at ho
   cases ho
   cases hd
  have Dfs:D ∉ (ai X (ns ++ cs.map (·.1)) scope (D + 1) s2 H2 fp).fs:=fun z=>by
   rcases p_.mp (I2.stkSub D z) with q | q
   · have z2:=I2.lt
     rw [hD] at z2
     exact wC z2 q.symm
   · exact I2.nofs (Ig hD) q
  have Dp:nV (ai X (ns ++ cs.map (·.1)) scope (D + 1) s2 H2 fp) [] H5 D:=⟨D5,DL,Dfs,.inr (Ig hD),Dcell,fun p hp=>absurd (show p∈([]:List (Addr×Obj)) from hp) (by simp)⟩
  have Dob:∀ b∈[D],∃ o,s5.heap.get? b=some o∧∀ v,o.data≠.cell v:=fun b hb=>by
   have e:b=D:=by simpa using hb
   subst e
   obtain ⟨n,q⟩:=l5
   exact ⟨_,q,fun v z=>by cases z⟩
  have I5p:Inv (ai X (ns ++ cs.map (·.1)) scope (D + 1) s2 H2 fp) (cf [D] s5.heap) σ5 H5 s5:=by
   have q:=I5.pinned (fp:=[D]) (fun b hb=>by
    have e:b=D:=by simpa using hb
    subst e; exact Dp) Dob
   rw [M_] at q
   exact q
  have ner:∀ b∈fp,∀ p∈cf [D] s5.heap,p.1≠b:=fun b hb p hp z=>by
   have e:p.1=D:=by simpa using (iC hp).1
   exact fpD b hb (z.symm.trans e)
  have fp5':∀ b∈fp,nV (ai X (ns ++ cs.map (·.1)) scope (D + 1) s2 H2 fp) (cf [D] s5.heap) H5 b:=fun b hb=>⟨fr5 b hb,nC b hb,I4.ok.exfs b hb,.inl hb,(I4.ok.exf b hb).2,fun p hp=>ner b hb p (by simpa [ai] using hp)⟩
  have lenR:vs.length=es.length:=r5.length
  have lenV:vs.length=its.length:=v5.length
  by_cases hlt:i < ds.length
  · refine thn (T.item (ai X (ns ++ cs.map (·.1)) scope (D + 1) s2 H2 fp) rfl rfl rfl hc i (cf [D] s5.heap) s5 σ5 H5 _ I5p fp5' t5 (wk.go i H5 e5 hlt)) fun r s6 ⟨u,hr,h6⟩=>?_
    subst hr
    refine thn h6 fun _ s7 ⟨xv,H7,I7,r7,y7,t7,fr7⟩=>?_
    obtain ⟨e57,d,hd,rd⟩:=wk.yld i H5 xv H7 e5 hlt y7
    rw [fQ hd] at hz
    have I7p:=I7.pinned (fp:=fp) (fun b hb=>⟨fr7 b hb,nC b hb,I4.ok.exfs b hb,.inl hb,(I4.ok.exf b hb).2,fun p hp=>ner b hb p (by simpa [ai] using hp)⟩) (T.obj _ _ t7)
    have fin:∀ {σ8:L2.St} {H8:Hp} {s8:Shared},Inv (ai X (ns ++ cs.map (·.1)) scope (D + 1) s2 H2 fp) (cf [D] s5.heap ++ cf fp s7.heap) σ8 H8 s8→tn (i + 1) s8.heap∧(∀ b∈fp,H8 b=none)∧H8 D=none∧LAt s8.heap D its:=fun {σ8 H8 s8} I8=>by
     refine ⟨T.keep _ _ _ t7 fun b hb o e=>(I8.pin (b,o) (pi _ (pi _ (bR hb e)))).1,fun b hb=>?_,?_,?_⟩
     · obtain ⟨o,e,_⟩:=T.obj _ _ t7 b hb
       exact (I8.pin (b,o) (pi _ (pi _ (bR hb e)))).2.1
     · obtain ⟨n,q⟩:=l5
       exact (I8.pin (D,_) (pi _ (F_ _ (bR (by simp) q)))).2.1
     · obtain ⟨n,q⟩:=l5
       exact ⟨n,(I8.pin (D,_) (pi _ (F_ _ (bR (by simp) q)))).1⟩
    unfold eM at hz
    match hb:b d (dR ns.length cs ρ) with
    | none=>rw [hb] at hz; exact hz.elim
    | some ρd =>
     rw [hb] at hz
     dsimp only at hz
     refine FQ ((htg (D + 1) s2 H2 fp).h _ s7 σ5 H7 xv u d (dR ns.length cs ρ) ρd I7p r7 rd (E5.mono e57) hb) (fun _ s8 ⟨σ8,H8,I8,e78,E8⟩=>?_) fun _ _ z=>Gd z
     have e58:=e57.trans e78
     have back:∀ {σ9:L2.St} {H9:Hp},Envs X.K H9 σ9 ρd→Envs X.K H9 σ9 (dR ns.length cs ρ):=fun {σ9 H9} E9=>by
      have q:=Envs.fgt js E9
      rw [hback ρ d ρd hb] at q
      exact q
     have took:∀ {H9:Hp} {s9:Shared},Inv (ai X (ns ++ cs.map (·.1)) scope (D + 1) s2 H2 fp) (cf [D] s5.heap ++ cf fp s7.heap) σ8 H9 s9→Same H8 H9 →
      (match (match fe ρd with | some (.ok y)=>(match eM b tst fe (dR ns.length cs ρ) (ds.drop (i + 1)) with | some ys=>some (y :: ys) | none=>none) | _=>none) with | some zs=>es ++ zs=ys | none=>False) →
      l_ (o_ X.prog X.w) X.A (eval elt (Mx scope (F3 (D + 1 + 1) scope.names (ic scope.names X.env [])) (D + 1) X.env)) (fun xw s₄ =>
       l_ (o_ X.prog X.w) X.A (call (.builtin "list.append") [.ref D,xw]) (fun _ s₅=>∃ k,k < ds.length - i∧AI X ns cs scope D s2 H2 fp tn ds ys b tst fe ρ k s₅) (K_ (o_ X.prog X.w) X.A (Mx scope (F3 (D + 1 + 1) scope.names (ic scope.names X.env [])) (D + 1) X.env) fun e s'=>RR (.ref D) (D + 1) (.error e) s') s₄) (K_ (o_ X.prog X.w) X.A (Mx scope (F3 (D + 1 + 1) scope.names (ic scope.names X.env [])) (D + 1) X.env) fun e s'=>RR (.ref D) (D + 1) (.error e) s') s9:=fun {H9 s9} I9 e9 hz9=>by
      match hfe:fe ρd,hz9 with
      | none,hz9=>exact hz9.elim
      | some (.exc c),hz9=>exact hz9.elim
      | some (.ok y),hz9 =>
       refine FQ ((helt (D + 1) s2 H2 fp).h _ s9 σ8 H9 (fun v H10=>Same H9 H10∧Rep X.K H10 y v) I9 ⟨ρd,E8.mono e9,by rw [hfe]; exact fun v H10 e10 r10=>⟨e10,r10⟩⟩) (fun w s10 ⟨yv,H10,I10,rw10,e10,r10⟩=>?_) fun _ _ z=>Gd z
       obtain ⟨t10,fr10,D10,l10⟩:=fin I10
       refine pD l10 (by omega) fun h11 l11 k11=>?_
       have I10':Inv (ai X (ns ++ cs.map (·.1)) scope (D + 1) s2 H2 fp) (cf fp s7.heap) σ8 H10 s10:=I10.pins_of fun p hp=>I10.pin p (pi _ (pi _ hp))
       have I11:Inv (ai X (ns ++ cs.map (·.1)) scope (D + 1) s2 H2 fp) (cf fp s7.heap) σ8 H10 { s10 with heap:=h11 }:=I10'.turned (t':=s10.toks) k11 D10 DL (.inr (Ig hD)) Dcell fun p hp z=>by
        have hp':p∈cf fp s7.heap:=by simpa [ai] using hp
        exact fpD p.1 (iC hp').1 z
       have e80:=e9.trans e10
       refine ⟨ds.length - (i + 1),by omega,i + 1,σ8,H10,es ++ [y],vs ++ [yv],its ++ [w],rfl,hlt,I11.pins_of fun p hp=>absurd hp (by simp),back (E8.mono e80),T.keep _ _ _ t10 fun b hb o e=>k11 b o (fpD b hb) e,fr10,D10,l11,v5.append (.cons rw10 .nil),(Reps.mono (e58.trans e80) _ _ r5).append ⟨yv,[],rfl,r10,rfl⟩,by rw [GM,Lw]; omega,e5.trans (e58.trans e80),?_⟩
       match hm2:eM b tst fe (dR ns.length cs ρ) (ds.drop (i + 1)),hz9 with
       | none,hz9=>exact hz9.elim
       | some zs,hz9=>dsimp only at hz9 ⊢; rw [Iy]; exact hz9
     have hif:=hifs (D + 1) s2 H2 fp
     cases tst with
     | none =>
      cases (show ifs=[] from hif)
      exact wpAny_tests_nil (by rw [if_pos rfl]; exact took I8 (.refl H8) hz)
     | some t =>
      obtain ⟨c,rfl,hct⟩:=hif
      match htt:t ρd,hz with
      | none,hz=>simp only [htt] at hz
      | some (.exc c),hz=>simp only [htt] at hz
      | some (.ok true),hz =>
       simp only [htt] at hz
       refine wpAny_tests_one (FQ (hct.h _ s8 σ8 H8 (fun b H9=>b=true∧Same H8 H9) I8 ⟨_,E8,by rw [htt]; exact fun H9 e9=>⟨rfl,e9⟩⟩) (fun b s9 ⟨H9,I9,hb,e9⟩=>?_) fun _ _ z=>Gd z)
       subst hb
       rw [if_pos rfl]
       exact took I9 e9 hz
      | some (.ok false),hz =>
       simp only [htt] at hz
       refine wpAny_tests_one (FQ (hct.h _ s8 σ8 H8 (fun b H9=>b=false∧Same H8 H9) I8 ⟨_,E8,by rw [htt]; exact fun H9 e9=>⟨rfl,e9⟩⟩) (fun b s9 ⟨H9,I9,hb,e9⟩=>?_) fun _ _ z=>Gd z)
       subst hb
       rw [if_neg rl]
       obtain ⟨t9,fr9,D9,l9⟩:=fin I9
       exact ⟨ds.length - (i + 1),by omega,i + 1,σ8,H9,es,vs,its,rfl,hlt,I9.pins_of fun p hp=>absurd hp (by simp),back (E8.mono e9),t9,fr9,D9,l9,v5,Reps.mono (e58.trans e9) _ _ r5,by omega,e5.trans (e58.trans e9),hz⟩
  · have hi':i=ds.length:=by omega
    subst hi'
    rw [JL] at hz
    have hz':es ++ []=ys:=hz
    rw [IT] at hz'
    subst hz'
    refine thn (T.done (ai X (ns ++ cs.map (·.1)) scope (D + 1) s2 H2 fp) rfl rfl rfl hc ds.length (cf [D] s5.heap) s5 σ5 H5 _ I5p fp5' t5 (wk.stop H5 e5)) fun r s6 ⟨hr,I6⟩=>?_
    subst hr
    have l6:LAt s6.heap D its:=by
     obtain ⟨n,q⟩:=l5
     exact ⟨n,(I6.pin (D,_) (pi _ (bR (by simp) q))).1⟩
    obtain ⟨m6,n6,_⟩:=I6.loc
    have C6:H5 (D + 1)=none:=I6.free
    have new:ObjOk X.prog X.w (upd H5 D (.lst vs)) s6.heap D (.lst vs):=by
     obtain ⟨n,q⟩:=l6
     exact ⟨by rw [lenR]; exact bE hyl,its,n,v5,q⟩
    have u6:Un (L2.frs X.stack) fp H2 H5 s2.heap s6.heap:=I6.base
    have nD:∀ b o,s2.heap.get? b=some o→b≠D:=fun b o e=>by
     have hb:b < D:=by rw [← hD]; exact m_ e
     exact wC hb
    have u7:Un (L2.frs X.stack) fp H2 (upd H5 D (.lst vs)) s2.heap s6.heap:=⟨u6.keep,u6.slot,fun b o e n hx=>by rw [au (nD b o e)]; exact u6.free b o e n hx,u6.there,fun b xs q=>by
     have q':=u6.tups b xs q
     rw [au (ao q' D5)]; exact q',fun b o u q=>by
     have q':=u6.frzs b o u q
     rw [au (ao q' D5)]; exact q',fun b ps q=>by
     obtain ⟨more,q'⟩:=u6.tbls b ps q
     exact ⟨more,by rw [au (ao q' D5)]; exact q'⟩⟩
    have I7:Inv X pins σ (upd H5 D (.lst vs)) s6:=I2.call' (s':=s6) (ch:=fp) I6.os u7 (HOk.add I6.hok D5 C6 (fun b u _ q=>q) new) I6.bare fun b hb=>⟨(f2 b hb).2.2.2.1,(f2 b hb).2.1,(f2 b hb).2.2.2.2.1,(f2 b hb).2.2.2.2.2⟩
    exact hRR D (D + 1) s6 H5 vs m6 I7 D5 e5 r5 n6 C6 (IC Eh) (by rw [hD]; exact Hg D)
 exact codeAny_compStart_list (loop _ rfl) (T.self _ 0 _ _ _ (T.keep _ _ _ st2 fun b hb o e=>old b o e) (loop _ rfl))
theorem ki {X:Cx} {tg elt iter:Expr} {ifs:List Expr} {scope:Scope} {pos:Pos} {src:FnA} {tst:Option FnB} {fe:FnE} {b:Dv→Ev→Option Ev} (osc:Scope) (N ns:List Str) (js:List Nat) (cs:List (Str×Nat)) (hosc:X.env.scope=osc) (hN:X.N=N) (ok:iV osc scope cs N) (hcl:HH scope X.env=pure (ic scope.names X.env [])) (hc:X.calm=true)
 (hback:∀ ρ d ρ',b d (dR ns.length cs ρ)=some ρ'→fgt js ρ'=dR ns.length cs ρ)
 (hi:FIG X tg iter src) (htg:∀ C s H fp,FG (ai X (ns ++ cs.map (·.1)) scope C s H fp) tg b) (helt:∀ C s H fp,FE (ai X (ns ++ cs.map (·.1)) scope C s H fp) elt fe) (hifs:∀ C s H fp,qO (ai X (ns ++ cs.map (·.1)) scope C s H fp) ifs tst)
 (hs:∀ x,FL iter X.env x=pure x:=by intro _; kernel_rfl):FE X (.ListComp elt [⟨tg,iter,ifs,0⟩] scope pos) (aK ns.length cs src b tst fe):=by
 subst hosc hN
 constructor
 intro pins s σ H Q I h
 obtain ⟨ρ,E,o⟩:=h
 match ho:aK ns.length cs src b tst fe ρ with
 | none=>rw [ho] at o; exact o.elim
 | some r =>
  rw [ho] at o
  rw [eval_ListComp]
  have key:OutG X H (src ρ) fun J H'=>∃ ds ys,Same H H'∧WkG X.K J ds H'∧ds.length≤100000∧ys.length≤100000∧eM b tst fe (dR ns.length cs ρ) ds=some ys∧(∀ v H'',Same H' H''→Rep X.K H'' (.lst ys) v→Q v H''):=by
   rcases C5 ho with ⟨c,e1,e2⟩ | ⟨ds,ys,e1,e2,l1,l2,e3⟩
   · subst e2; rw [e1]; exact o
   · subst e3; rw [e1]; exact fun J H' e wk=>⟨ds,ys,e,wk,l1,l2,e2,fun v H'' e2 r=>o v H'' (e.trans e2) r⟩
  refine KJ (use:=none) rfl hs hcl ok.kind ok.names (thn (hi.h pins s σ H _ I ⟨ρ,E,key⟩) fun v s1 h1=>thn h1 fun itv s2 h2=>?_)
  obtain ⟨it,fp,tn,J,H2,e,I2,T,st2,f2,ds,ys,e12,wk,hdl,hyl,hm,hQ⟩:=h2
  subst e
  refine jO cs ok hc htg helt hifs hback (E.mono e12) I2 T st2 f2 wk hdl hyl hm (RR:=fun acc C=>compPost (o_ X.prog X.w) X.A X.xe none (EP X pins σ Q) acc C) fun D C s6 H5 vs m6 I6 D5 e5 r5 n6 C6 CD hC=>?_
  refine ⟨m6,n6,fun h7 sb7=>?_⟩
  have Cn:(upd H5 D (.lst vs)) C=none:=by rw [au CD]; exact C6
  obtain ⟨q0,q1,q2,q3,q4,q5⟩:=I2.fpOk hC Cn
  have I7:Inv X pins σ (upd H5 D (.lst vs)) { s6 with heap:=h7 }:=I6.turned (t':=s6.toks) (fun b o hb e=>sb7.extBut b o hb e) q0 q1 q3 q4 q5
  exact ⟨.ref D,_,I7,rfl,hQ _ _ (e5.trans (ar D5 _)) ⟨D,vs,rfl,am,Reps.mono (ar D5 _) _ _ r5⟩⟩
theorem oN {X:Cx} {tg elt iter:Expr} {ifs:List Expr} {scope:Scope} {pos:Pos} {src:FnA} {tst:Option FnB} {fe:FnE} {b:Dv→Ev→Option Ev} {y:Str} {py spos:Pos} (i:Nat) (hnd:X.N.Nodup) (hiy:X.N[i]?=some y) (hxy:Loc X.env.scope y) (hfy:X.fn y=true∨X.env.scope.names.lookup y=some .local)
 (osc:Scope) (N ns:List Str) (js:List Nat) (cs:List (Str×Nat)) (hosc:X.env.scope=osc) (hN:X.N=N) (ok:iV osc scope cs N) (hcl:HH scope X.env=pure (ic scope.names X.env [])) (hc:X.calm=true)
 (hback:∀ ρ d ρ',b d (dR ns.length cs ρ)=some ρ'→fgt js ρ'=dR ns.length cs ρ)
 (hi:FIG X tg iter src) (htg:∀ C s H fp,FG (ai X (ns ++ cs.map (·.1)) scope C s H fp) tg b) (helt:∀ C s H fp,FE (ai X (ns ++ cs.map (·.1)) scope C s H fp) elt fe) (hifs:∀ C s H fp,qO (ai X (ns ++ cs.map (·.1)) scope C s H fp) ifs tst)
 (hsw:G8 (.ListComp elt [⟨tg,iter,ifs,0⟩] scope pos) (some (.Name y py)) spos.line X.env=pure true:=by kernel_rfl)
 (hs:∀ x,FL iter X.env x=pure x:=by intro _; kernel_rfl):PS X (.Assign [.Name y py] (.ListComp elt [⟨tg,iter,ifs,0⟩] scope pos) spos) (tC X i (aK ns.length cs src b tst fe)):=by
 subst hosc hN
 intro pins s σ H D0 I h
 obtain ⟨ρ,E,o⟩:=h
 match ho:aK ns.length cs src b tst fe ρ with
 | none=>rw [ho] at o; exact o.elim
 | some r =>
  rw [ho] at o
  have key:OutG X H (src ρ) fun J H'=>∃ ds ys,Same H H'∧WkG X.K J ds H'∧ds.length≤100000∧ys.length≤100000∧eM b tst fe (dR ns.length cs ρ) ds=some ys∧(∀ H5 p vs,Same H' H5→H5 p=none→Reps X.K H5 ys vs→D0.nx (σ.set i (some (.ref p))) (upd H5 p (.lst vs))):=by
   rcases C5 ho with ⟨c,e1,e2⟩ | ⟨ds,ys,e1,e2,l1,l2,e3⟩
   · subst e2; rw [e1]; exact o
   · subst e3; rw [e1]; obtain ⟨ys',ey,o⟩:=o; cases ey; exact fun J H' e wk=>⟨ds,ys,e,wk,l1,l2,e2,fun H5 p vs e3 hp r=>o H5 p vs (e.trans e3) hp r⟩
  rw [exec_Assign_Name_used _ _ _ _ hsw]
  refine b_ (wpAny_standAt (b_ ?_))
  show l_ _ X.A (do let _ ← comprehension (.ListComp elt [⟨tg,iter,ifs,0⟩] scope pos) scope X.env _ (newList []) false (eval iter X.env) (some (J0 (.Name y py) X.env))) _ _ s
  refine b_ (FQ (KJ (use:=some (J0 (.Name y py) X.env)) (Q:=fun _ s'=>SP X pins D0 .next s') rfl hs hcl ok.kind ok.names
   (thn (hi.h pins s σ H _ I ⟨ρ,E,key⟩) fun v s1 h1=>thn h1 fun itv s2 h2=>?_)) (fun _ s' hq=>c_ (c_ hq)) fun _ _ e=>e)
  obtain ⟨it,fp,tn,J,H2,e,I2,T,st2,f2,ds,ys,e12,wk,hdl,hyl,hm,hQ⟩:=h2
  subst e
  refine jO cs ok hc htg helt hifs hback (E.mono e12) I2 T st2 f2 wk hdl hyl hm (RR:=fun acc C=>compPost (o_ X.prog X.w) X.A X.xe (some (J0 (.Name y py) X.env)) (fun _ s'=>SP X pins D0 .next s') acc C) fun D C s6 H5 vs m6 I6 D5 e5 r5 n6 C6 CD hC=>?_
  have Cn:(upd H5 D (.lst vs)) C=none:=by rw [au CD]; exact C6
  have FC:=I2.fpOk hC Cn
  obtain ⟨oC,es,ep,hoC,hdC,rC⟩:=id n6
  have I6p:=I6.pinned (fp:=[C]) (fun b hb=>by
   have e:b=C:=by simpa using hb
   subst e; exact FC) (fun b hb=>by
   have e:b=C:=by simpa using hb
   subst e
   exact ⟨oC,hoC,fun v z=>by rw [hdC] at z; cases z⟩)
  refine thn (gE hnd hiy hxy hfy _ s6 σ _ (.ref D) (.ref D) (fun σ' H'=>σ'=σ.set i (some (.ref D))∧H'=upd H5 D (.lst vs)) I6p rfl ⟨rfl,rfl⟩) fun _ s8 ⟨σ8,H8,I8,e1,e2⟩=>?_
  subst e1 e2
  have hC8:=(I8.pin (C,oC) (pi _ (pi _ (bR (by simp) hoC)))).1
  refine ⟨m6,⟨oC,es,ep,hC8,hdC,rC⟩,fun h9 sb9=>?_⟩
  have I8':Inv X pins (σ.set i (some (.ref D))) (upd H5 D (.lst vs)) s8:=I8.unpinned
  obtain ⟨q0,q1,q2,q3,q4,q5⟩:=FC
  have I9:Inv X pins (σ.set i (some (.ref D))) (upd H5 D (.lst vs)) { s8 with heap:=h9 }:=I8'.turned (t':=s8.toks) (fun b o hb e=>sb9.extBut b o hb e) q0 q1 q3 q4 q5
  exact ⟨_,_,I9,hQ H5 D vs e5 D5 r5⟩
abbrev bI:=List (Str×Nat×List Str×(List Dv→Option (Rs Dv)))
theorem iW {β:Type} {x y:Str} {e e':β} {T:List (Str×β)} (h:((y,e) :: T).lookup x=some e'):(x=y∧e'=e)∨T.lookup x=some e':=by
 rw [F4] at h
 split at h
 · rename_i hb
   exact .inl ⟨L5 hb,by cases h; rfl⟩
 · exact .inr h
section
variable {P:Program} {w:uk} {K:ck} {mg:Str→Option Value} {base:Heap} {T:bI} {y:Str} {k:Nat} {ps:List Str} {F:List Dv→Option (Rs Dv)}
structure HA (P:Program) (w:uk) (K:ck) (mg:Str→Option Value) (base:Heap) (T:bI):Prop where
 h:∀ x e,T.lookup x=some e→Has P w K mg base x e.1 e.2.1 e.2.2
structure HAE (P:Program) (w:uk) (K:ck) (mg:Str→Option Value) (base:Heap) (T:bI):Prop where
 h:∀ x e,T.lookup x=some e→EV P w K mg base x e.1 e.2.1 e.2.2
structure HAM (P:Program) (w:uk) (K:ck) (mg:Str→Option Value) (base:Heap) (T:bI):Prop where
 h:∀ x e,T.lookup x=some e→EW P w K mg base x e.1 e.2.1 e.2.2
theorem AJ:HA P w K mg base []:=⟨fun _ _ h=>by cases h⟩
theorem aj (h:Has P w K mg base y k ps F) (t:HA P w K mg base T):HA P w K mg base ((y,k,ps,F) :: T):=⟨fun x e q=>by
 rcases iW q with ⟨rfl,rfl⟩ | q
 · exact h
 · exact t.h x e q⟩
abbrev yC:=List (Str×Option Dv)
def cN (s:String):Str×Option Dv:=(a_ s,none)
def cI (s:String) (i:Int):Str×Option Dv:=(a_ s,some (.int i))
def cS (s z:String):Str×Option Dv:=(a_ s,some (.str (a_ z)))
def E6 (mg:Str→Option Value) (x:Str):Option Dv→Prop
 | none=>mg x=none
 | some (.int i)=>∃ t,mg x=some (.int i t)
 | some (.str z)=>∃ t,mg x=some (.str z t)
 | _=>False
structure MA (mg:Str→Option Value) (C:yC):Prop where
 h:∀ x o,C.lookup x=some o→E6 mg x o
theorem MA.no {C:yC} {x:Str} (h:MA mg C) (e:C.lookup x=some none):mg x=none:=h.h x none e
def Do (K:ck) (q:Str×Option Dv):Bool:=match q.2,HB K t_ q.1 with
 | none,some none=>true
 | some (.int i),some (some (.int j _))=>i == j
 | some (.str z),some (some (.str y _))=>z == y
 | _,_=>false
theorem AK {h:Heap} (X:K.In h) (G:h.Ns t_ mg):∀ (C:yC),C.all (Do K)=true→MA mg C
 | [],_=>⟨fun x o q=>by cases q⟩
 | (y,o) :: C,e=>⟨fun x o' q=>by
  rw [GK,k_] at e
  rcases iW q with ⟨rfl,rfl⟩ | q
  · have h1:=e.1
    unfold Do at h1
    dsimp only at h1
    split at h1
    · rename_i e1
      exact PySem.W.mg_none_of X G e1
    · rename_i i j t e1
      have hij:i=j:=L5 h1
      subst hij
      exact ⟨t,IL X G e1⟩
    · rename_i z y t e1
      have hij:z=y:=L5 h1
      subst hij
      exact ⟨t,IL X G e1⟩
    · cases h1
  · exact (AK X G C e.2).h x o' q⟩
end
section
variable {X:Cx} {T:bI} {C:yC} {k' n:Nat} {x:Str} {p pos:Pos} {e:Expr} {es:List Expr} {F:List Dv→Option (Rs Dv)} {g:FnA}
theorem uP (hT:HA X.prog X.w X.K X.mg X.base T) (hr:Room k' X.A) (hF:(T.lookup x).map (fun q=>q.2.2)=some F) (ha:FA X (e :: es) g) (hk:((T.lookup x).all fun q=>Nat.ble q.1 k' && JQ n q.2.1.length)=true:=by kernel_rfl) (hg:X.env.kindOf x=some .globalImplicit:=by kernel_rfl) (hdb:(x == ("__debug__":Str))=false:=by kernel_rfl)
 (he:e_ (e :: es) X.env=(false,eval e X.env) :: e_ es X.env:=by kernel_rfl) (hpl:(F0 pos (e_ es X.env)).any (·.1)=false:=by kernel_rfl) :
 FE X (.Call (.Name x p) (e :: es) [] pos) (ac F n g):=by
 cases hq:T.lookup x with
 | none=>rw [hq] at hF; cases hF
 | some q =>
  rw [hq] at hF hk
  cases hF
  rw [M9,k_] at hk
  exact ud q.1 q.2.1 q.2.2 (hT.h x q hq) hr (JF hk.1) hg ha (GB hk.2) hdb he hpl
theorem Dr {i:Int} (hM:MA X.mg C) (hl:C.lookup x=some (some (.int i))) (hg:X.env.kindOf x=some .globalImplicit:=by kernel_rfl) (hd:(x == ("__debug__":Str))=false:=by kernel_rfl):FE X (.Name x pos) (fC (.int i)) :=
 let ⟨_,h⟩:=hM.h x _ hl
 wu hg h hd
theorem Ds {z:Str} (hM:MA X.mg C) (hl:C.lookup x=some (some (.str z))) (hg:X.env.kindOf x=some .globalImplicit:=by kernel_rfl) (hd:(x == ("__debug__":Str))=false:=by kernel_rfl):FE X (.Name x pos) (fC (.str z)) :=
 let ⟨_,h⟩:=hM.h x _ hl
 wv hg h hd
def ndB:List Str→Bool
 | []=>true
 | x :: r=>!(r.contains x) && ndB r
theorem ii:∀ {l:List Str},ndB l=true→l.Nodup
 | [],_=>List.nodup_nil
 | x :: r,h=>by
  unfold ndB at h
  rw [k_] at h
  refine Ha.2 ⟨fun hx=>?_,ii h.2⟩
  have h1:=h.1
  rw [List.contains_iff_mem.2 hx] at h1
  cases h1
def hZ (sc:Scope) (x:Str):Bool:=match sc.names.lookup x with
 | some .local=>true
 | some .cell=>true
 | _=>false
theorem dI {sc:Scope} {x:Str} (h:hZ sc x=true):Loc sc x:=by
 unfold hZ at h
 split at h
 · exact .inl ‹_›
 · exact .inr ‹_›
 · cases h
def vU (osc scope:Scope) (cs:List (Str×Nat)) (N:List Str):Bool :=
 decide (scope.kind=.function) && decide (∀ y∈scope.names,y.2=.cell→scope.names.lookup y.1=some .cell) && decide (∀ y∈scope.names,y.2=.local→scope.names.lookup y.1=some .local) && decide (∀ y∈scope.names,y.2=.free→osc.names.lookup y.1=some .cell∨osc.names.lookup y.1=some .free) && decide (∀ c∈cs,N[c.2]?=some c.1∧scope.names.lookup c.1=some .free)
theorem lO {osc scope:Scope} {cs:List (Str×Nat)} {N:List Str} (h:vU osc scope cs N=true):iV osc scope cs N:=by
 unfold vU at h
 simp only [k_,decide_eq_true_eq] at h
 exact ⟨h.1.1.1.1,h.1.1.1.2,h.1.1.2,h.1.2,h.2⟩
theorem lkc {env:Env}:∀ {names:List (Str×HV)} {x:Str},names.lookup x=some .cell →
 (names.map fun (n,k)=>if (k == GT && env.scope.kind == .function && env.kindOf n == some .cell) then (n,G6) else (n,k)).lookup x=some .cell
 | [],_,h=>by simp at h
 | (n,k) :: r,x,h=>by
  rw [F4] at h
  rw [xy]
  cases hx:x == n with
  | true =>
   rw [hx] at h
   cases h
   simp [F4,hx]
  | false =>
   rw [hx] at h
   have ih:=lkc (env:=env) h
   dsimp only
   split
   · rw [F4,hx]; exact ih
   · rw [F4,hx]; exact ih
theorem fgL {X:Cx} {N:List Str} {scope:Scope} {C:Addr} {s:Shared} {H:Hp} {fp:List Addr} {x:Str} (h:hZ scope x=true):Loc (ai X N scope C s H fp).env.scope x∧((ai X N scope C s H fp).fn x=true∨(ai X N scope C s H fp).env.scope.names.lookup x=some .local):=by
 rcases dI h with h | h
 · exact ⟨.inl (LB h),.inr (LB h)⟩
 · exact ⟨.inr (lkc h),.inl (by show (scope.names.lookup x == some .cell)=true; rw [h]; rfl)⟩
end
section
variable {X:Cx} {elt iter:Expr} {ifs:List Expr} {scope:Scope} {pos px py pt spos:Pos} {src:FnA} {tst:Option FnB} {fe:FnE} {cs:List (Str×Nat)} {x y z:Str} {i:Nat} {k:Nat}
theorem fgA {N:List Str} (C:Addr) (s:Shared) (H:Hp) (fp:List Addr) (hnd:ndB N=true) (hx:N[0]?=some x) (hl:hZ scope x=true):FG (ai X N scope C s H fp) (.Name x px) (gN 0) :=
 wR 0 (ii hnd) hx (fgL hl).1 (fgL hl).2
theorem Dt (hi:FIG X (.Name x px) iter src) (helt:∀ C s H fp,FE (ai X (x :: cs.map (·.1)) scope C s H fp) elt fe) (hifs:∀ C s H fp,qO (ai X (x :: cs.map (·.1)) scope C s H fp) ifs tst)
 (hok:vU X.env.scope scope cs X.N=true:=by kernel_rfl) (hcl:HH scope X.env=pure (ic scope.names X.env []):=by kernel_rfl) (hc:X.calm=true:=by kernel_rfl) (hnd:ndB (x :: cs.map (·.1))=true:=by kernel_rfl) (hl:hZ scope x=true:=by kernel_rfl)
 (hs:∀ x,FL iter X.env x=pure x:=by intro _; kernel_rfl):FE X (.ListComp elt [⟨.Name x px,iter,ifs,0⟩] scope pos) (aN cs src tst fe) :=
 (xm (cs:=cs) (src:=src) (tst:=tst) (fe:=fe)) ▸ ki X.env.scope X.N [x] [0] cs rfl rfl (lO hok) hcl hc (wS _) hi (fun C s H fp=>fgA C s H fp hnd rfl hl) helt hifs hs
theorem Du (hi:FIG X (.Name x px) iter src) (helt:∀ C s H fp,FE (ai X (x :: cs.map (·.1)) scope C s H fp) elt fe) (hifs:∀ C s H fp,qO (ai X (x :: cs.map (·.1)) scope C s H fp) ifs tst)
 (hok:vU X.env.scope scope cs X.N=true:=by kernel_rfl) (hcl:HH scope X.env=pure (ic scope.names X.env []):=by kernel_rfl) (hc:X.calm=true:=by kernel_rfl) (hnd:ndB (x :: cs.map (·.1))=true:=by kernel_rfl) (hl:hZ scope x=true:=by kernel_rfl)
 (hs:∀ x,FL iter X.env x=pure x:=by intro _; kernel_rfl):FE X (.ListComp elt [⟨.Name x px,iter,ifs,0⟩] scope pos) (aK 1 cs src (gN 0) tst fe) :=
 ki X.env.scope X.N [x] [0] cs rfl rfl (lO hok) hcl hc (wS _) hi (fun C s H fp=>fgA C s H fp hnd rfl hl) helt hifs hs
theorem Dw (hi:FIG X (.Name x px) iter src) (helt:∀ C s H fp,FE (ai X (x :: cs.map (·.1)) scope C s H fp) elt fe) (hifs:∀ C s H fp,qO (ai X (x :: cs.map (·.1)) scope C s H fp) ifs tst)
 (hN:ndB X.N=true) (hiy:X.N[i]?=some y) (hxy:hZ X.env.scope y=true) (hfy:X.fn y=true)
 (hok:vU X.env.scope scope cs X.N=true) (hcl:HH scope X.env=pure (ic scope.names X.env [])) (hc:X.calm=true) (hnd:ndB (x :: cs.map (·.1))=true) (hl:hZ scope x=true)
 (hsw:G8 (.ListComp elt [⟨.Name x px,iter,ifs,0⟩] scope pos) (some (.Name y py)) spos.line X.env=pure true)
 (hs:∀ x,FL iter X.env x=pure x):PS X (.Assign [.Name y py] (.ListComp elt [⟨.Name x px,iter,ifs,0⟩] scope pos) spos) (tC X i (aK 1 cs src (gN 0) tst fe)) :=
 oN i (ii hN) hiy (dI hxy) (.inl hfy) X.env.scope X.N [x] [0] cs rfl rfl (lO hok) hcl hc (wS _) hi (fun C s H fp=>fgA C s H fp hnd rfl hl) helt hifs hsw hs
theorem Dx (hi:FIG X (.Name x px) iter src) (helt:∀ C s H fp,FE (ai X (x :: cs.map (·.1)) scope C s H fp) elt fe) (hifs:∀ C s H fp,qO (ai X (x :: cs.map (·.1)) scope C s H fp) ifs tst)
 (hsw:G8 (.ListComp elt [⟨.Name x px,iter,ifs,0⟩] scope pos) (some (.Name y py)) spos.line X.env=pure true)
 (hN:ndB X.N=true:=by kernel_rfl) (hiy:X.N[i]?=some y:=by kernel_rfl) (hxy:hZ X.env.scope y=true:=by kernel_rfl) (hfy:X.fn y=true:=by kernel_rfl)
 (hok:vU X.env.scope scope cs X.N=true:=by kernel_rfl) (hcl:HH scope X.env=pure (ic scope.names X.env []):=by kernel_rfl) (hc:X.calm=true:=by kernel_rfl) (hnd:ndB (x :: cs.map (·.1))=true:=by kernel_rfl) (hl:hZ scope x=true:=by kernel_rfl)
 (hs:∀ x,FL iter X.env x=pure x:=by intro _; kernel_rfl):FS X (.Assign [.Name y py] (.ListComp elt [⟨.Name x px,iter,ifs,0⟩] scope pos) spos) (bq i (aK 1 cs src (gN 0) tst fe)) :=
 rM (Dw hi helt hifs hN hiy hxy hfy hok hcl hc hnd hl hsw hs) lx
theorem Es {N:List Str} (C:Addr) (s:Shared) (H:Hp) (fp:List Addr) (hc:X.calm=true) (hnd:ndB N=true) (hx:N[0]?=some x) (hz:N[1]?=some z) (hl:hZ scope x=true) (hl2:hZ scope z=true)
 (a1:(F8 [.Name x px,.Name z py] (ai X N scope C s H fp).env).map (·.2)=J0 (.Name x px) (ai X N scope C s H fp).env :: (F8 [.Name z py] (ai X N scope C s H fp).env).map (·.2)) (a2:(F8 [.Name z py] (ai X N scope C s H fp).env).map (·.2)=J0 (.Name z py) (ai X N scope C s H fp).env :: (F8 [] (ai X N scope C s H fp).env).map (·.2))
 (a3:(F8 [.Name x px,.Name z py] (ai X N scope C s H fp).env).length=2) (a4:(F8 [.Name x px,.Name z py] (ai X N scope C s H fp).env).findIdx? (·.1)=none):FG (ai X N scope C s H fp) (.Tuple [.Name x px,.Name z py] k pt) (gP 0 1) :=
 qT 0 1 hc (ii hnd) hx (fgL hl).1 (fgL hl).2 hz (fgL hl2).1 (fgL hl2).2 a1 a2 a3 a4
theorem Dy (hi:FIG X (.Tuple [.Name x px,.Name z py] k pt) iter src) (helt:∀ C s H fp,FE (ai X (x :: z :: cs.map (·.1)) scope C s H fp) elt fe) (hifs:∀ C s H fp,qO (ai X (x :: z :: cs.map (·.1)) scope C s H fp) ifs tst)
 (hok:vU X.env.scope scope cs X.N=true:=by kernel_rfl) (hcl:HH scope X.env=pure (ic scope.names X.env []):=by kernel_rfl) (hc:X.calm=true:=by kernel_rfl) (hnd:ndB (x :: z :: cs.map (·.1))=true:=by kernel_rfl) (hl:hZ scope x=true:=by kernel_rfl) (hl2:hZ scope z=true:=by kernel_rfl)
 (hs:∀ x,FL iter X.env x=pure x:=by intro _; kernel_rfl):FE X (.ListComp elt [⟨.Tuple [.Name x px,.Name z py] k pt,iter,ifs,0⟩] scope pos) (aK 2 cs src (gP 0 1) tst fe) :=
 ki X.env.scope X.N [x,z] [0,1] cs rfl rfl (lO hok) hcl hc (z8 _) hi (fun C s H fp=>Es C s H fp hc hnd rfl rfl hl hl2 rfl rfl rfl rfl) helt hifs hs
theorem Dz {p2:Pos} (hi:FIG X (.Tuple [.Name x px,.Name z p2] k pt) iter src) (helt:∀ C s H fp,FE (ai X (x :: z :: cs.map (·.1)) scope C s H fp) elt fe) (hifs:∀ C s H fp,qO (ai X (x :: z :: cs.map (·.1)) scope C s H fp) ifs tst)
 (hsw:G8 (.ListComp elt [⟨.Tuple [.Name x px,.Name z p2] k pt,iter,ifs,0⟩] scope pos) (some (.Name y py)) spos.line X.env=pure true)
 (hN:ndB X.N=true:=by kernel_rfl) (hiy:X.N[i]?=some y:=by kernel_rfl) (hxy:hZ X.env.scope y=true:=by kernel_rfl) (hfy:X.fn y=true:=by kernel_rfl)
 (hok:vU X.env.scope scope cs X.N=true:=by kernel_rfl) (hcl:HH scope X.env=pure (ic scope.names X.env []):=by kernel_rfl) (hc:X.calm=true:=by kernel_rfl) (hnd:ndB (x :: z :: cs.map (·.1))=true:=by kernel_rfl) (hl:hZ scope x=true:=by kernel_rfl) (hl2:hZ scope z=true:=by kernel_rfl)
 (hs:∀ x,FL iter X.env x=pure x:=by intro _; kernel_rfl):FS X (.Assign [.Name y py] (.ListComp elt [⟨.Tuple [.Name x px,.Name z p2] k pt,iter,ifs,0⟩] scope pos) spos) (bq i (aK 2 cs src (gP 0 1) tst fe)) :=
 rM (oN i (ii hN) hiy (dI hxy) (.inl hfy) X.env.scope X.N [x,z] [0,1] cs rfl rfl (lO hok) hcl hc (z8 _) hi (fun C s H fp=>Es C s H fp hc hnd rfl rfl hl hl2 rfl rfl rfl rfl) helt hifs hsw hs) lx
end
section
variable {X:Cx} {N:List Str} {scope:Scope} {c:Expr} {t:FnB}
theorem uQ:∀ C s H fp,qO (ai X N scope C s H fp) [] none:=fun _ _ _ _=>rfl
theorem uR (h:∀ C s H fp,FT (ai X N scope C s H fp) c t):∀ C s H fp,qO (ai X N scope C s H fp) [c] (some t):=fun C s H fp=>⟨_,rfl,h C s H fp⟩
end
section
variable {X:Cx} {a b c e st ix tg iter:Expr} {fa fb fs fi:FnE} {pos p2 pos' py apos cpos pt p1 lp ps:Pos} {i j k kk:Nat} {js:List Nat} {x y:Str} {src g:FnA} {fS:FnS} {fO:jr} {body sts:List Stmt} {es:List Expr} {is:List Nat}
theorem AM (ha:FE X a fa) (hb:FE X b fb) (hs:∀ o i,M6 b false o i=operate [o,i] (La o i):=by intro _ _; kernel_rfl):FE X (.Subscript a b pos) (f2 ixD fa fb):=CU ha hb hs
theorem xx (he:FE X e fa) (hN:ndB X.N=true:=by kernel_rfl) (hi:X.N[i]?=some x:=by kernel_rfl) (hx:hZ X.env.scope x=true:=by kernel_rfl) (hf:X.fn x=true:=by kernel_rfl) (hs:G8 e (some (.Name x pos')) pos.line X.env=pure false:=by kernel_rfl):FS X (.Assign [.Name x pos'] e pos) (bq i fa) :=
 zE i (ii hN) hi (dI hx) he hs (.inl hf)
theorem xz (he:FE X e fa) (hex:X.ex=[]:=by kernel_rfl) (hij:JQ i j=false:=by kernel_rfl) (hN:ndB X.N=true:=by kernel_rfl) (hi:X.N[j]?=some x:=by kernel_rfl) (hx:hZ X.env.scope x=true:=by kernel_rfl) (hf:X.fn x=true:=by kernel_rfl) (hs:G8 e (some (.Name x pos')) pos.line X.env=pure false:=by kernel_rfl):FO1 X i (.Assign [.Name x pos'] e pos) (fW j fa) :=
 Ai hex j (Hc hij) (ii hN) hi (dI hx) he hs (.inl hf)
theorem uS (hg:FA X es g) (hr:FOs X i sts fO) (hN:ndB X.N=true:=by kernel_rfl) (hi:X.N[i]?=some x:=by kernel_rfl) (hx:hZ X.env.scope x=true:=by kernel_rfl) (hf:X.fn x=true:=by kernel_rfl) (hs:G8 (.List es lp) (some (.Name x pos')) pos.line X.env=pure false:=by kernel_rfl):FSs X (.Assign [.Name x pos'] (.List es lp) pos :: sts) (yB i g fO) :=
 w8 (ii hN) hi (dI hx) hg hr hs (.inl hf)
theorem xA (hp:Kh (o_ X.prog X.w) X.A X.env X.xe) (hi:FI X (.Name x py) iter src) (hb:FSs X body fS) (hc:X.calm=true:=by kernel_rfl) (hN:ndB X.N=true:=by kernel_rfl) (hx:X.N[i]?=some x:=by kernel_rfl) (hl:hZ X.env.scope x=true:=by kernel_rfl) (hf:X.fn x=true:=by kernel_rfl)
 (hs:∀ x,FL iter X.env x=pure x:=by intro _; kernel_rfl):FS X (.For (.Name x py) iter body [] pos) (tM i js src fS) :=
 zI i js hp hc hi (gE (ii hN) hx (dI hl) (.inl hf)) hb hs
theorem xB (hp:Kh (o_ X.prog X.w) X.A X.env X.xe) (hi:FI X (.Name x py) iter src) (hb:FOs X i body fO) (hex:X.ex=[]:=by kernel_rfl) (hij:JQ i j=false:=by kernel_rfl) (hc:X.calm=true:=by kernel_rfl) (hN:ndB X.N=true:=by kernel_rfl) (hx:X.N[j]?=some x:=by kernel_rfl) (hl:hZ X.env.scope x=true:=by kernel_rfl) (hf:X.fn x=true:=by kernel_rfl)
 (hs:∀ x,FL iter X.env x=pure x:=by intro _; kernel_rfl):FO1 X i (.For (.Name x py) iter body [] pos) (w9 j js src fO) :=
 Am hex j js (Hc hij) hp hc hi (gE (ii hN) hx (dI hl) (.inl hf)) hb hs
theorem uT (hp:Kh (o_ X.prog X.w) X.A X.env X.xe) (hi:FIG X (.Tuple [.Name x py,.Name y p2] kk pt) iter src) (hb:FSs X body fS) (hc:X.calm=true:=by kernel_rfl) (hN:ndB X.N=true:=by kernel_rfl) (hx:X.N[i]?=some x:=by kernel_rfl) (hl:hZ X.env.scope x=true:=by kernel_rfl) (hf:X.fn x=true:=by kernel_rfl) (hy:X.N[j]?=some y:=by kernel_rfl) (hl2:hZ X.env.scope y=true:=by kernel_rfl) (hf2:X.fn y=true:=by kernel_rfl)
 (a1:(F8 [.Name x py,.Name y p2] X.env).map (·.2)=J0 (.Name x py) X.env :: (F8 [.Name y p2] X.env).map (·.2):=by kernel_rfl) (a2:(F8 [.Name y p2] X.env).map (·.2)=J0 (.Name y p2) X.env :: (F8 [] X.env).map (·.2):=by kernel_rfl)
 (a3:(F8 [.Name x py,.Name y p2] X.env).length=2:=by kernel_rfl) (a4:(F8 [.Name x py,.Name y p2] X.env).findIdx? (·.1)=none:=by kernel_rfl)
 (hs:∀ x,FL iter X.env x=pure x:=by intro _; kernel_rfl):FS X (.For (.Tuple [.Name x py,.Name y p2] kk pt) iter body [] pos) (kb (gP i j) js src fS) :=
 xl js hp hc hi (qT i j hc (ii hN) hx (dI hl) (.inl hf) hy (dI hl2) (.inl hf2) a1 a2 a3 a4) hb hs
theorem xC (hN:X.N[i]?=some x) (hv:hZ X.env.scope x=true) (hd:(x == ("__debug__":Str))=false) (hcd:(x == ("__classdict__":Str))=false):PE X (.Name x pos) (yL i):=qd hN ((dI hv).elim .inl fun h=>.inr (.inl h)) hd hcd
theorem xD (he:FE X e fa) (hx:PE X (.Name x apos) (yL i)) (hex:X.ex=[]:=by kernel_rfl)
 (hbase:Iq (.Name x apos) "append" X.env (eval (.Name x apos) X.env)=eval (.Name x apos) X.env:=by kernel_rfl)
 (hfew:((F0 cpos (e_ [e] X.env)).all (fun x=>!x.1) && (Ii cpos (GY [] X.env)).all (fun x=>x.1.isSome)
   && decide ([e].length + ([]:List Iv).length + (if ([]:List Iv).isEmpty then 0 else 1) < 30))=true:=by kernel_rfl)
 (hline:(pt.endLine == cpos.line)=true:=by kernel_rfl) (hs:e_ [e] X.env=(false,eval e X.env) :: e_ [] X.env:=by kernel_rfl) (hplain:(F0 cpos (e_ [] X.env)).any (·.1)=false:=by kernel_rfl)
 (hsw:G8 (.Call (.Attribute (.Name x apos) "append" pt) [e] [] cpos) none pos.line X.env=pure false:=by kernel_rfl):FO1 X i (.Expr (.Call (.Attribute (.Name x apos) "append" pt) [e] [] cpos) pos) (yA fa):=Al hex hx he hbase hfew hline hs hplain hsw
end
section
variable {X:Cx} {o e:Expr} {es:List Expr} {fo:FnE} {ga:FnA} {apos cpos pos:Pos} {name:Str}
structure SmL (X:Cx) (o:Expr) (name:Str) (e:Expr) (es:List Expr) (apos cpos:Pos):Prop where
 base:Iq o name X.env (eval o X.env)=eval o X.env
 few:((F0 cpos (e_ (e :: es) X.env)).all (fun x=>!x.1) && (Ii cpos (GY [] X.env)).all (fun x=>x.1.isSome)
  && decide ((e :: es).length + ([]:List Iv).length + (if ([]:List Iv).isEmpty then 0 else 1) < 30))=true
 line:(apos.endLine == cpos.line)=true
 s:e_ (e :: es) X.env=(false,eval e X.env) :: e_ es X.env
 plain:(F0 cpos (e_ es X.env)).any (·.1)=false
theorem sA {id:String} {r:V→List V→Hp→VK→Prop} {g:Str→List Dv→Option (Rs Dv)} (slot:Slot "str" name id) (hty:Nj (.builtin id)=pure (.type "method_descriptor")) (hm:MtR X id r)
 (hg:∀ i ds vs H Q,Reps X.K H ds vs→Out X H (g i ds) Q→r (.str i) vs H Q) (ho:FE X o fo) (ha:FA X (e :: es) ga) (h:SmL X o name e es apos cpos):FE X (.Call (.Attribute o name apos) (e :: es) [] cpos) (fM g fo ga) :=
 wM slot hty hm hg ho ha h.base h.few h.line h.s h.plain
end
section
open PySem.W
structure CA (K:ck) (mg:Str→Option Value) (cls:Nat→Addr) (CJ:Addr) (S:List Nat) (m:Nat):Prop where
 at_:∀ c∈S,mg (xnm c)=some (.ref (cls c))
 j:mg "JarError"=some (.ref CJ)
 xk:∀ c C,c < m→nsIn K t_ (xnm c)=some (some (.ref C))→excIn K C bmV "ValueError.__new__"=true∧mroIn K C (.ref CJ)=some true
theorem CA.c {K:ck} {mg:Str→Option Value} {cls:Nat→Addr} {CJ:Addr} {S:List Nat} {m c:Nat} {x:Str} (h:CA K mg cls CJ S m) (hc:c∈S) (hx:xnm c=x):mg x=some (.ref (cls c)):=by
 subst hx
 exact h.at_ c hc
end
noncomputable abbrev nsM (K:ck) (x:Str):Option (Option Value):=HB K t_ x
structure Af (K:ck) (x:Str) (st:Stmt) (f:Addr):Prop where
 a:nsM K x=some (some (.ref f))
 F:∃ fd,Fun K x x st f fd
 k:GD K (.ref f)=true
def fnB (N P:List Str) (sc:Scope):Bool:=decide (sc.kind=.function) && !sc.isCoroutine && !sc.isGenerator && ndB N && decide (N.take P.length=P) && P.all (hZ sc) && decide (∀ y∈sc.names,y.2≠.free)
theorem BY {N P:List Str} {sc:Scope} (h:fnB N P sc=true):dr N P sc:=by
 unfold fnB at h
 simp only [k_,decide_eq_true_eq,Go] at h
 exact ⟨h.1.1.1.1.1.1,h.1.1.1.1.1.2,h.1.1.1.1.2,ii h.1.1.1.2,h.1.1.2,fun x hx=>dI (Gz.1 h.1.2 x hx),h.2⟩
section
variable {P:Program} {w:uk} {K:ck} {mg:Str→Option Value} {base:Heap} {h:Heap} {k:Nat} {x:Str} {st:Stmt} {f:Addr} {F:List Dv→Option (Rs Dv)}
def Et (x:Str) (st:Stmt) (ps:List Str):Prop:=∀ (kV doc pm:Value) (an:Option Addr) (cdv ct:Value) (us:List Value),us.length=ps.length→LF (H_ x x (gF st) (cw st) (aD st) .none kV doc pm an cdv ct) ⟨us,[]⟩=pure (ps.zip us)
theorem ax (XI:K.In h) (Gn:h.Ns t_ mg) (N ps:List Str) (fb:FnS) (A:Af K x st f) (hbd:Et x st ps)
 (hb:∀ (cdv:Value) (A:q_) (outer:List Env) (s:Shared) (H:Hp) (E:XK),Room k (A.deeper (II x (aD st) s.heap.objs.size f cdv))→FSs (mH CX0 P w K mg base N x (aD st) f cdv A outer s H E).nox (cw st) fb) (hF:F=aS N.length fb:=by kernel_rfl) (hs:fnB N ps (aD st)=true:=by kernel_rfl):Has P w K mg base x (k + 1) ps F :=
 let ⟨_,Fn⟩:=A.F
 ⟨_,_,zJ N ps fb hF rfl Fn (BY hs) hb,IL XI Gn A.a,A.k,Fn.binds hbd⟩
end
section
theorem xE:GF (a_ "list")=some (.type "list"):=by decide +kernel
end
end FD
namespace TS
open PySem PySem.Spec PyProof.Rows L2 FD
def DA (p q:Value) (e l:Bool):Prop:=∀ (prog:Program) (w:uk) (A:q_) (E:Value→Shared→Prop) (s:Shared),
 (∀ Q:Bool→Shared→Prop,Q e s→l_ (o_ prog w) A (eqBool p q) Q E s)∧(∀ Q:Value→Shared→Prop,Q (.bool l) s→l_ (o_ prog w) A (richCompare .Gt p q) Q E s)
inductive sB:List (Value×Value)→List (Bool×Bool)→Prop
 | nil:sB [] []
 | cons {p q:Value} {e l:Bool} {ps:List (Value×Value)} {rs:List (Bool×Bool)}:DA p q e l→sB ps rs→sB ((p,q) :: ps) ((e,l) :: rs)
section
open PySem.SeqAt
open PySem.AutoSeq1 (wpAny_loadPart')
open PySem.MeetsSeq PySem.MeetsSeq2 PySem.MeetsSeq3
end
end TS
namespace FD
open PySem PySem.Spec PyProof.Rows L2 TS
section
variable {X:Cx}
end
end FD
namespace FD
open PySem TS
section
variable {α:Type} {le:α→α→Bool} {P:α→Prop}
structure BZ (P:α→Prop) (le:α→α→Bool):Prop where
 t:∀ a b,P a→P b→le a b=false→le b a=true
 tr:∀ a b c,P a→P b→P c→le a b=true→le b c=true→le a c=true
 an:∀ a b,P a→P b→le a b=true→le b a=true→a=b
theorem gM (o:BZ P le) {x y:α} (hx:P x) (hy:P y) (h1:le x y=true) (h2:le y x=false):∀ l:List α,(∀ z∈l,P z)→gH le x (gH le y l)=gH le y (gH le x l)
 | [],_=>by simp [gH,h1,h2]
 | z :: l,hl=>by
  have hz:=hl z g_
  have ih:=gM o hx hy h1 h2 l fun w hw=>hl w (ge _ hw)
  cases a:le x z with
  | true =>
   cases b:le y z with
   | true=>simp [gH,a,b,h1,h2]
   | false=>simp [gH,a,b,h2]
  | false =>
   cases b:le y z with
   | true=>rw [o.tr x y z hx hy hz h1 b] at a; cases a
   | false=>simp [gH,a,b,ih]
theorem sC (o:BZ P le) {x y:α} (hx:P x) (hy:P y) (l:List α) (hl:∀ z∈l,P z):gH le x (gH le y l)=gH le y (gH le x l):=by
 cases a:le x y with
 | true =>
  cases b:le y x with
  | true=>rw [o.an x y hx hy a b]
  | false=>exact gM o hx hy a b l hl
 | false=>exact (gM o hy hx (o.t x y hx hy a) a l hl).symm
theorem lP (o:BZ P le) {l m:List α} (h:l.Perm m):(∀ z∈l,P z)→isortB le l=isortB le m:=by
 induction h with
 | nil=>intro _; rfl
 | cons x _ ih=>intro hl; show gH le x _=gH le x _; rw [ih fun w hw=>hl w (ge _ hw)]
 | swap x y l=>intro hl; exact sC o (hl y g_) (hl x (by simp)) _ fun z hz=>hl z (ge _ (ge _ ((isortB_perm le l).mem_iff.mp hz)))
 | trans h1 _ ih1 ih2=>intro hl; rw [ih1 hl,ih2 fun z hz=>hl z (h1.mem_iff.mpr hz)]
end
theorem vV:∀ {k j:List Str},k.length=j.length→ltL (k.map Dv.str) (j.map Dv.str)=false→ltL (j.map Dv.str) (k.map Dv.str)=false→k=j
 | [],[],_,_,_=>rfl
 | x :: k,y :: j,hl,h1,h2=>by
  have e1:ltL ((x :: k).map Dv.str) ((y :: j).map Dv.str)=if decide (x=y)=true then ltL (k.map Dv.str) (j.map Dv.str) else decide (x.cps.toList < y.cps.toList):=rfl
  have e2:ltL ((y :: j).map Dv.str) ((x :: k).map Dv.str)=if decide (y=x)=true then ltL (j.map Dv.str) (k.map Dv.str) else decide (y.cps.toList < x.cps.toList):=rfl
  rw [e1] at h1
  rw [e2] at h2
  by_cases e:x=y
  · subst e
    rw [if_pos (decide_eq_true rfl)] at h1 h2
    rw [vV (by simpa using hl) h1 h2]
  · rw [if_neg (by simpa using e)] at h1
    rw [if_neg (by simpa using fun z:y=x=>e z.symm)] at h2
    exact absurd (ordS.an x y (by unfold leS; rw [h2]; rfl) (by unfold leS; rw [h1]; rfl)) e
 | [],_ :: _,h,_,_=>by simp at h
 | _ :: _,[],h,_,_=>by simp at h
def DB (n:Nat) (r:List Dv):Prop:=∃ k:List Str,r=k.map Dv.str∧k.length=n
theorem eN (k:List Str):sig (k.map Dv.str)=F9 k.length 1:=by
 induction k with
 | nil=>rfl
 | cons x k ih =>
  show kdI (.str x) :: sig (k.map Dv.str)=_
  rw [ih]
  rfl
theorem oO (n:Nat):BZ (DB n) fun a b=>!ltL b a where
 t:=fun a b _ _ h=>by
  simp only [Ms,Go] at *
  cases h':ltL a b with
  | false=>rfl
  | true=>have:=sh h h'; rw [sg] at this; cases this
 tr:=fun a b c ⟨k,e1,l1⟩ ⟨k2,e2,l2⟩ ⟨k3,e3,l3⟩ h h'=>by
  simp only [Go] at *
  cases h3:ltL c a with
  | false=>rfl
  | true =>
   have hok:dP (sig c)=true:=by rw [e3,eN]; simp [dP]
   rcases si (ys:=b) (by rw [e3,e2,eN,eN,l2,l3]) (by rw [e2,e1,eN,eN,l2,l1]) hok h3 with z | z
   · rw [h'] at z; cases z
   · rw [h] at z; cases z
 an:=fun a b ⟨k,e1,l1⟩ ⟨k2,e2,l2⟩ h h'=>by
  simp only [Go] at *
  subst e1; subst e2
  rw [vV (l1.trans l2.symm) h' h]
end FD
namespace ST
open PySem PySem.SetTable PyProof.Rows FD TS
section
variable {prog:Program} {w:uk} {A:q_} {E:Value→Shared→Prop} {s:Shared}
theorem SetT.rd {h:Heap} {S:Addr} {ks:List (List Str)} {vs:List Value} {n:Nat} (x:SetT prog w h S ks vs n) (hk:∀ k∈ks,k≠[]):∃ es ep t,Rd w h S es ep t∧es.size=n∧(es.toList.map (·.2)).Perm vs:=by
 obtain ⟨o,es,ep,t,ho,hex,hd,hsz,T,hm,hE,hp,hl,hpl⟩:=x
 exact ⟨es,ep,t,⟨⟨o,ho,hex,hd⟩,by rw [hsz]; exact iM T,hl,fun z=>hpl hk (by rw [← hsz]; exact z)⟩,hsz,hp⟩
theorem sorted_TS {S:Addr} {es:Array (Int×Value)} {ep:Nat} {t:SetTable} {vs0:List Value} {Q:Value→Shared→Prop} (hh:A.handled=none) (r:Rd w s.heap S es ep t) (hm:(es.toList.map (·.2)).Perm vs0) (h60:es.size≤60)
 (hV:∀ vs:List Value,vs.Perm vs0→∃ (blt:Nat→Nat→Bool) (fs:List Value),Od blt∧dH s.heap vs fs∧(∀ f∈fs,∃ T,∀ s':Shared,s'.TypeIs f T) ∧
   (∀ (A':q_) (h':Heap) (i j:Nat) (x y:Value),A'.units≤A.units + 8→(∀ b o,s.heap.get? b=some o→h'.get? b=some o)→vs[i]?=some x→vs[j]?=some y→∃ a c xs ys rs,x=.ref a∧y=.ref c∧s.heap.IsTuple a xs∧s.heap.IsTuple c ys∧jt h' A' true (xs.toList.zip ys.toList) rs∧(cy rs).getD (decide (xs.size < ys.size))=blt i j) ∧
   ∀ (L:Addr) (h':Heap) (d:NE) (tk:Nat) (out:List Value) (e:Nat) (p:Nat→Nat),h'.get? L=some (B_ "list" out.toArray e)→s.heap.objs.size≤L→(∀ b o,s.heap.get? b=some o→h'.get? b=some o) →
    out.length=vs.length→(∀ k,k < vs.length→out[k]?=vs[p k]?)→(f_ vs.length).map p=isortB (fun i j=>!blt j i) (f_ vs.length)→(∀ k,k < vs.length→p k < vs.length)→Q (.ref L) { s with heap:=h',drawn:=d,toks:=tk }) :
 l_ (o_ prog w) A (call (.builtin "sorted") [.ref S]) Q E s:=by
 refine IF LQ Lg Lh (MH _) ?_
 unfold GL.«sorted»
 refine b_ (m:=Ml "sorted" 1 1 _) (c_ ?_)
 refine b_ (iP hh r h60 fun H1 d tk1 vs hp hgr up1=>?_)
 obtain ⟨blt,fs,O,hF,hf,hC,h⟩:=hV vs (hp.trans hm)
 have h64:vs.length < 64:=by
  have:=hp.length_eq
  simp at this
  omega
 refine b_ (Io ?_ (line64 h64))
 have hoL:(H1.push (B_ "list" vs.toArray 0)).get? H1.objs.size=some (B_ "list" vs.toArray 0):=h_ _ rfl
 have up2:∀ b o,s.heap.get? b=some o→(db (H1.push (B_ "list" vs.toArray 0)) H1.objs.size vs).get? b=some o:=fun b o q=>by
  have q1:=up1 b o q
  have:=m_ q1
  unfold db
  rw [F7 _ _ _ (by rw [Hl,GO,Hl]; exact n_ (w_ (w_ this))),F7 _ _ _ (by rw [GO,Hl]; exact n_ (w_ this)),Gh _ _ _ _ (n_ this),F7 _ _ _ (n_ this)]
  exact q1
 have tup2:∀ a xs,s.heap.IsTuple a xs→(db (H1.push (B_ "list" vs.toArray 0)) H1.objs.size vs).IsTuple a xs:=fun a xs ⟨o,g,r⟩=>⟨o,up2 _ _ g,r⟩
 have F2:∀ {vs' fs':List Value},dH s.heap vs' fs'→dH (db (H1.push (B_ "list" vs.toArray 0)) H1.objs.size vs) vs' fs':=by
  intro vs' fs' hF'
  induction hF' with
  | nil=>exact .nil
  | cons a b _ ih=>exact .cons (tup2 _ _ a) b ih
 show l_ _ _ _ _ _ { s with heap:=H1.push (B_ "list" vs.toArray 0),drawn:=d,toks:=tk1 }
 refine b_ (Gb (Gx Kv ⟨_,hoL,rfl⟩ J6 (vP (s:={ s with heap:=H1.push (B_ "list" vs.toArray 0),drawn:=d,toks:=tk1 }) (Kd:=fun k=>∃ b,k=Ni b) hoL h64 O (fun _ s1 J1=>?_) (fun kd hk=>?_) fun p out tk o1 o2 o3 o4 o5=>⟨_,rfl,?_⟩) (LS _)))
 · obtain ⟨tk,htk,rfl⟩:=J1
   exact AH (s:={ s with heap:=db (H1.push (B_ "list" vs.toArray 0)) H1.objs.size vs,drawn:=d,toks:=tk }) (F2 hF) hf fun b=>⟨⟨tk,htk,rfl⟩,b,rfl⟩
 · obtain ⟨b,rfl⟩:=hk
   intro i j x y s1 E' ex ey J1
   obtain ⟨tk,htk,rfl⟩:=J1
   have pz:∀ (k:Nat) (z:LU),(JP vs)[k]?=some z→vs[k]?=some z.1:=fun k z hz=>by
    have hk:k < vs.length:=by
     have:=(Gm.mp hz).1
     rwa [Kf] at this
    unfold JP at hz
    simp [hk] at hz
    rw [i_ hk,← hz]
   obtain ⟨a,c,xs,ys,rs,e1,e2,t1,t2,it,eb⟩:=hC A.in1.in1 _ i j x.1 y.1 (by show A.units + 1 + 1≤_; omega) up2 (pz i x ex) (pz j y ey)
   rw [e1,e2]
   refine lJ (s:={ s with heap:=db (H1.push (B_ "list" vs.toArray 0)) H1.objs.size vs,drawn:=d,toks:=tk }) b (tup2 _ _ t1) (tup2 _ _ t2) it ⟨⟨tk,htk,rfl⟩,eb⟩
 · obtain ⟨e,he⟩:=Mf (out:=out) hoL
   refine c_ ⟨_,rfl,h H1.objs.size _ d tk out.toList e p (by rw [JW]; exact he) (Hd hgr) (fun b o q=>?_) (by simpa using o1) (fun k hk=>by simpa using o2 k hk) (gf O o3 o4 o5) o3⟩
   have q1:=up1 b o q
   have:=m_ q1
   rw [LP (n_ this) (by rw [Hl]; exact w_ this),F7 _ _ _ (n_ this)]
   exact q1
end
end ST
namespace FD
open PySem PySem.Spec PyProof.Rows L2 TS
def eP:List Dv→Option (Rs Dv)
 | [.lst ds]=>match dZ ds,keysOf ds with
  | some rows,some ks=>if ks.Nodup∧ks.length≤18∧fj rows=true then some (.ok (.lst ((isortB (fun a b=>!ltL b a) rows).map Dv.tup))) else none
  | _,_=>none
 | _=>none
def uU (its:List Value) (i:Nat):Addr:=match its[i]? with
 | some (.ref a)=>a
 | _=>0
theorem oP {its:List Value} {i:Nat} {a:Addr} (h:its[i]?=some (.ref a)):uU its i=a:=by unfold uU; rw [h]
theorem sD {K:ck} {H:Hp} {its vs:List Value} (hp:its.Perm vs):∀ {rows:List (List Dv)} {ws:List V},Reps K H (rows.map Dv.tup) ws→Vals ws its→∃ rows' ws',rows.Perm rows'∧Reps K H (rows'.map Dv.tup) ws'∧Vals ws' vs:=by
 induction hp with
 | nil=>intro rows ws r v; exact ⟨rows,ws,.refl _,r,v⟩
 | cons x _ ih =>
  intro rows ws r v
  cases v with
  | cons v1 v2 =>
   rename_i w1 ws1
   match rows,r with
   | row :: rows,r =>
    obtain ⟨u,us,e,r1,r2⟩:∃ v us,w1 :: ws1=v :: us∧Rep K H (.tup row) v∧Reps K H (rows.map Dv.tup) us:=r
    cases e
    obtain ⟨rows',ws',p1,p2,p3⟩:=ih r2 v2
    exact ⟨row :: rows',w1 :: ws',p1.cons _,⟨w1,ws',rfl,r1,p2⟩,.cons v1 p3⟩
   | [],r=>cases (show w1 :: ws1=[] from r)
 | swap x y l =>
  intro rows ws r v
  cases v with
  | cons v1 v2 =>
   cases v2 with
   | cons v2 v3 =>
    rename_i w1 w2 ws1
    match rows,r with
    | row :: row2 :: rows,r =>
     obtain ⟨u,us,e,r1,r2⟩:∃ v us,w1 :: w2 :: ws1=v :: us∧Rep K H (.tup row) v∧Reps K H ((row2 :: rows).map Dv.tup) us:=r
     cases e
     obtain ⟨u,us,e,r2,r3⟩:∃ v us,w2 :: ws1=v :: us∧Rep K H (.tup row2) v∧Reps K H (rows.map Dv.tup) us:=r2
     cases e
     exact ⟨row2 :: row :: rows,w2 :: w1 :: ws1,.swap ..,⟨w2,_,rfl,r2,w1,_,rfl,r1,r3⟩,.cons v2 (.cons v1 v3)⟩
    | [row],r =>
     obtain ⟨u,us,e,r1,r2⟩:∃ v us,w1 :: w2 :: ws1=v :: us∧Rep K H (.tup row) v∧Reps K H [] us:=r
     cases e
     cases (show w2 :: ws1=[] from r2)
    | [],r=>cases (show w1 :: w2 :: ws1=[] from r)
 | trans _ _ ih1 ih2 =>
  intro rows ws r v
  obtain ⟨r1,w1,p1,p2,p3⟩:=ih1 r v
  obtain ⟨r2,w2,q1,q2,q3⟩:=ih2 p2 p3
  exact ⟨r2,w2,p1.trans q1,q2,q3⟩
theorem lQ:∀ {ds:List Dv} {ks:List (List Str)} {rows:List (List Dv)},keysOf ds=some ks→dZ ds=some rows→rows=ks.map fun k=>k.map Dv.str
 | [],ks,rows,h,h'=>by cases h; cases h'; rfl
 | .tup es :: ds,ks,rows,h,h'=>by
  obtain ⟨rs,h1,rfl⟩:=GH.mp (show (dZ ds).map (es :: ·)=some rows from h')
  unfold keysOf at h
  split at h
  · rename_i k ks' e1 e2
    cases h
    rw [lQ e2 h1,dw e1]
    rfl
  · cases h
 | .non :: _,_,_,h,_=>by cases h
 | .bl _ :: _,_,_,h,_=>by cases h
 | .int _ :: _,_,_,h,_=>by cases h
 | .str _ :: _,_,_,h,_=>by cases h
 | .lst _ :: _,_,_,h,_=>by cases h
 | .scr _ :: _,_,_,h,_=>by cases h
 | .exn _ :: _,_,_,h,_=>by cases h
section
variable {X:Cx} {p p2 pos pos2:Pos} {e:Expr} {ga:FnA}
theorem mX (hu:X.A.units + 64 < cLine) (hc:X.calm=true) (hg:Gl X "sorted") (hm:X.mg "sorted"=none) (hg2:Gl X "set") (hm2:X.mg "set"=none) (ha:FA X [e] ga)
 (he:e_ [.Call (.Name "set" p2) [e] [] pos2] X.env=(false,eval (.Call (.Name "set" p2) [e] [] pos2) X.env) :: e_ [] X.env:=by kernel_rfl) (hpl:(F0 pos (e_ [] X.env)).any (·.1)=false:=by kernel_rfl)
 (he2:e_ [e] X.env=(false,eval e X.env) :: e_ [] X.env:=by kernel_rfl) (hpl2:(F0 pos2 (e_ [] X.env)).any (·.1)=false:=by kernel_rfl) :
 FE X (.Call (.Name "sorted" p) [.Call (.Name "set" p2) [e] [] pos2] [] pos) (fB1 eP ga):=⟨fun pins s σ H Q I ⟨ρ,E,o⟩=>by
 refine Gr (cZ I hg hm (u:=.builtin "sorted") (by decide +kernel) ?_ (by decide) (by decide))
 refine G3 ?_ he hpl
 rw [he]
 show l_ _ _ (Nd ((false,eval (.Call (.Name "set" p2) [e] [] pos2) X.env) :: F0 pos (e_ [] X.env))) _ _ s
 refine IZ ?_
 refine Gr (cZ I hg2 hm2 (u:=.type "set") (by decide +kernel) ?_ (by decide) (by decide))
 refine Ge (thn (ha.h pos2 pins s σ H _ I ⟨ρ,E,OutA.bind o fun ds vs H1 e1 rs o1=>(show ∃ ds,Reps X.K H1 ds vs∧Out X H1 (eP ds) Q from ⟨ds,rs,o1⟩)⟩) fun us s1 ⟨vs,H1,I1,r1,ds,rs,o1⟩=>?_) he2 hpl2
 unfold eP at o1
 split at o1
 · rename_i es
   obtain ⟨v,rfl,r⟩:=cM rs
   obtain ⟨l,xs,rfl,hl,rx⟩:=r.lstE
   obtain ⟨u,rfl,ru⟩:=dJ r1
   cases (show u=s_ l from ru)
   split at o1
   · rename_i rows ks hrows hks
     split at o1
     · rename_i hnd
       obtain ⟨hn1,hn2,h3⟩:=hnd
       obtain ⟨z,its,n,rv,hz,eh⟩:=I1.lstM hl
       obtain ⟨q1,q2⟩:=mR I1 hks rx rv
       rw [kf hrows] at rx
       have hkr:=lQ hks hrows
       have h3':=h3
       simp only [fj,k_,decide_eq_true_eq,Gz] at h3'
       have hr:∀ r∈rows,sig r=sig (rows.headD [])∧tN r=true∧dP (sig r)=true:=fun r hr=>⟨(h3'.2 r hr).1.1,(h3'.2 r hr).1.2,(h3'.2 r hr).2⟩
       have hne:∀ k∈ks,k≠[]:=fun k hk e0=>by
        have:=(hr (k.map Dv.str) (by rw [hkr]; exact J_ hk)).2.1
        rw [e0] at this
        cases this
       have hS0:∃ N,∀ r∈rows,DB N r:=by
        refine ⟨(sig (rows.headD [])).length,fun r hr'=>?_⟩
        rw [hkr] at hr'
        obtain ⟨k,hk,rfl⟩:=C_.mp hr'
        refine ⟨k,rfl,?_⟩
        have:=(hr (k.map Dv.str) (by rw [hkr]; exact J_ hk)).1
        rw [← this,eN]
        simp
       obtain ⟨N,hS0⟩:=hS0
       have hsz:its.toArray.size=ks.length:=by simp [q1]
       have hits:∀ i,i < its.length→∃ a,its[i]?=some (.ref a)∧ST.TK X.prog X.w s1.heap (ks.getD i []) a:=q2
       refine ST.call_set_T (items:=its.toArray) (key:=fun i=>ks.getD i []) (adr:=uU its) (I1.ok.hd hc) (by omega) ⟨_,eh,rfl,n,rfl⟩ (fun i hi=>?_) (by rw [hsz]; exact hn2) (fun i j hi hj eij=>?_) fun h' tk hS hkp=>?_
       · obtain ⟨a,e1,e2⟩:=hits i (by simpa using hi)
         rw [oP e1]
         exact ⟨by simpa using e1,e2⟩
       · exact jG hn1 (by rw [← hsz]; exact hi) (by rw [← hsz]; exact hj) eij
       · refine Iw ?_
         have evs:(f_ its.toArray.size).map (fun j=>s_ (uU its j))=its:=by
          apply Jy
          intro i
          by_cases hi:i < its.length
          · obtain ⟨a,e1,_⟩:=hits i hi
            rw [D_,GX (by simpa using hi)]
            rw [GZ,oP e1,e1]
          · rw [Gg (by simpa using hi),Gg (by omega)]
         have I2:Inv X pins σ H1 { s1 with heap:=h',toks:=tk }:=I1.kept (t':=tk) fun b u q=>hkp b u (m_ q) q
         obtain ⟨es',ep',t',rd,esz,hpm⟩:=ST.SetT.rd hS (fun k hk=>by
          rw [MY] at hk
          obtain ⟨i,hi,rfl⟩:=C_.mp hk
          have hi':i < ks.length:=by rw [← hsz]; exact Gw.mp hi
          refine hne _ ?_
          rw [Hq,i_ hi']
          exact IE hi')
         rw [evs] at hpm
         refine ST.sorted_TS (s:={ s1 with heap:=h',toks:=tk }) (I2.ok.hd hc) rd (hpm.trans (List.reverse_perm its)) (by rw [esz,hsz]; omega) fun vs hvs=>?_
         obtain ⟨rows',ws',p1,p2,p3⟩:=sD hvs.symm rx rv
         have hd:sig (rows'.headD [])=sig (rows.headD []):=by
          cases rows' with
          | nil=>rw [List.perm_nil.mp p1]
          | cons r0 rs0=>exact (hr r0 (p1.mem_iff.mpr g_)).1
         have hr':∀ r∈rows',sig r=sig (rows'.headD [])∧tN r=true∧dP (sig r)=true:=fun r hr0=>by
          rw [hd]
          exact hr r (p1.mem_iff.mpr hr0)
         have hlen:rows'.length=vs.length:=by
          have g1:=bW p2
          have g2:=p3.length
          simp at g1
          omega
         obtain ⟨fs,f1,f2⟩:=iT I2 (fun r h0=>(hr' r h0).2) p2 p3
         refine ⟨_,fs,sw hr',f1,f2,fun A' hp i j x y hA up ex ey=>oK I2 hr' p2 p3 (by omega) up ex ey,fun L h2 d tk2 out ep2 p g1 g2 g3 g4 g5 g6 g7=>?_⟩
         obtain ⟨hV,hR⟩:=vS hlen p2 p3 g4 g5 g6 g7
         rw [← lP (oO N) p1 hS0] at hR
         have hfr:=I2.hok.fresh g2
         refine ⟨.ref L,_,lG (I2.laid (h':=h2) (t':=tk2) (o:=.lst ((f_ vs.length).map fun k=>ws'.getD (p k) .non)) g3 g2 ?_) d,rfl,o1 _ _ (ar hfr _) ⟨L,_,rfl,am,Reps.mono (ar hfr _) _ _ hR⟩⟩
         exact ⟨line64 (by have:=hvs.length_eq; simp; omega),out,ep2,hV,by simpa [B_] using g1⟩
     · exact o1.elim
   · exact o1.elim
 · exact o1.elim⟩
end
end FD
namespace TS
open PySem PyProof.Rows FD
section
variable {prog:Program} {w:uk} {A:q_} {E:Value→Shared→Prop} {s:Shared} {blt:Nat→Nat→Bool}
theorem DC {a kS:Addr} {e1 c:Nat} {its vs:List Value} {ks:List Int} {P:L3→Shared→Prop} (hk:s.heap.get? kS=some (B_ "list" its.toArray c)) (ha:s.heap.get? a=some (B_ "list" #[] e1)) (hne:kS≠a) (hlen:its.length=vs.length) (h64:vs.length < 64) (O:Od blt)
 (hI:KG its ks) (hB:∀ i j x y,ks[i]?=some x→ks[j]?=some y→blt i j=decide (x < y))
 (h:∀ (p:Nat→Nat) (out:Array Value) (tk:Nat),out.size=vs.length→(∀ k,k < vs.length→out[k]?=vs[p k]?)→(f_ vs.length).map p=isortB (fun i j=>!blt j i) (f_ vs.length)→(∀ k,k < vs.length→p k < vs.length) →
   P (.done (.ret .none)) { s with heap:=(s.heap.update kS (Fy fun _=>#[])).update a (Fy fun _=>out),toks:=tk }) :
 l_ (o_ prog w) A (ksk_end a false vs.toArray e1 (.ref kS) its.toArray) P E s:=by
 unfold ksk_end
 simp only [on,if_false]
 have hz:its.toArray.size≤sizeLine:=line64 (by simp; omega)
 have pz:(its.toArray.zip vs.toArray).size=vs.length:=by simp [hlen]
 have pat:∀ k,k < vs.length→(its.toArray.zip vs.toArray)[k]?=some (its.getD k .none,vs.getD k .none):=fun k hk=>by
  have:k < its.length:=by omega
  have hz':k < (its.zip vs).length:=by simp; omega
  have e:(its.zip vs)[k]?=some (its[k],vs[k]):=by rw [i_ hz',List.getElem_zip]
  simp [hk,this,Hi,e]
 have hsz:vs.toArray.size=vs.length:=by simp
 by_cases h2:vs.toArray.size < 2
 · rw [if_pos h2,if_pos h2]
   refine b_ (c_ ?_)
   rw [Ln]
   refine b_ (c_ ?_)
   dsimp only
   refine vT (st:=Nx general' (its.toArray.zip vs.toArray) #[] 7 none) hk ha hne hz (line64 (by rw [pz]; exact h64)) rfl ?_
   have:=h id ((its.toArray.zip vs.toArray).map (·.2)) s.toks (by rw [Hr,pz]) (fun k hk=>by
    rw [I_,pat k hk]
    simp [hk,Hi]) (gf O (fun k hk=>hk) (fun _ _ _ _ e=>e) (fun x y hxy hy=>by rw [hsz] at h2; omega)) (fun k hk=>hk)
   exact this
 · rw [if_neg h2,if_neg h2]
   rw [hsz] at h2
   have ekk:keyKind' its.toArray=pure oneType':=by
    match its,hI,hlen with
    | [],_,hl=>simp at hl; omega
    | [v],_,hl=>simp at hl; omega
    | v1 :: v2 :: r,hI,_=>exact keyKind_ints hI
   rw [ekk]
   refine b_ (c_ ?_)
   refine b_ (FQ (vO (J:=JT s s.heap) (E:=E) (Q:=fun _ st'=>∃ p',BX (its.toArray.zip vs.toArray) blt p' (JE st')∧LR st'=none) (p:=id) O
    (fun i j x y s1 E' ex ey J1=>?_)
    (st:=Nx oneType' (its.toArray.zip vs.toArray) #[] 7 none) ⟨rfl,fun _ _=>rfl,fun _ h=>h,fun _ _ _ _ e=>e,rfl,rfl,rfl⟩ (fun _ _=>rfl) (by rw [pz]; omega) (by rw [pz]; exact h64) (fun p' st' a1 a2=>⟨p',a1,a2⟩) s ⟨s.toks,j_ _,rfl⟩) ?_ fun _ _ e=>e)
   · have at1:∀ (k:Nat) (z:LU),(its.toArray.zip vs.toArray)[k]?=some z→its[k]?=some z.1:=fun k z hz=>by
      have hk:k < vs.length:=by
       have:=(Gm.mp hz).1
       rwa [pz] at this
      rw [pat k hk] at hz
      cases hz
      have:k < its.length:=by omega
      simp [this,Hi]
     have gi:=at1 i x ex
     have gj:=at1 j y ey
     have li:i < ks.length:=by have:=(u_.mp gi).1; have:=hI.length; omega
     have lj:j < ks.length:=by have:=(u_.mp gj).1; have:=hI.length; omega
     obtain ⟨t,ht⟩:=hI.get i ks[i] (i_ li)
     obtain ⟨u,hu⟩:=hI.get j ks[j] (i_ lj)
     rw [ht] at gi
     rw [hu] at gj
     have e1:=FU gi
     have e2:=FU gj
     rw [keyLt'_oneType,← e1,← e2]
     exact oneLt_int ⟨J1,(hB i j _ _ (i_ li) (i_ lj)).symm⟩
   · rintro ⟨⟨⟩,st'⟩ s' ⟨⟨tk,_,rfl⟩,p',F,hfl⟩
     dsimp only
     have Fl:=F.lt
     have Fi:=F.inj
     have Fs:=F.so
     rw [pz] at Fl Fi Fs
     refine vT (s:={ s with heap:=s.heap,toks:=tk }) hk ha hne hz (by rw [F.sz,pz]; exact line64 h64) hfl ?_
     refine h p' ((JE st').map (·.2)) tk (by rw [Hr,F.sz,pz]) (fun k hk=>?_) (gf O Fl Fi Fs) Fl
     rw [I_,F.at' k (by rw [pz]; exact hk),pat _ (Fl k hk)]
     simp [Fl k hk,Hi]
end
end TS
namespace FD
open PySem PySem.Spec PyProof.Rows L2 TS
def ec (F:List Dv→Option (Rs Dv)):List Dv→Option (List Int)
 | []=>some []
 | d :: r=>match F [d],ec F r with
  | some (.ok (.int k)),some ks=>some (k :: ks)
  | _,_=>none
def fE (ks:List Int) (ds:List Dv):List Dv:=(isortB (fun a b=>!decide (b.1 < a.1)) (ks.zip ds)).map Prod.snd
def pM (F:List Dv→Option (Rs Dv)):List Dv→Option (Rs Dv)
 | [.lst ds]=>match ec F ds with
  | some ks=>if ks.length < 64∧imms ds=true then some (.ok (.lst (fE ks ds))) else none
  | none=>none
 | _=>none
theorem gO {F:List Dv→Option (Rs Dv)}:∀ {ds:List Dv} {ks:List Int},ec F ds=some ks→ks.length=ds.length∧∀ (i:Nat) (d:Dv),ds[i]?=some d→∃ k,ks[i]?=some k∧F [d]=some (.ok (.int k))
 | [],ks,h=>by cases h; exact ⟨rfl,fun i d e=>by simp at e⟩
 | d :: ds,ks,h=>by
  unfold ec at h
  split at h
  · rename_i k rs h1 h2
    cases h
    obtain ⟨g1,g2⟩:=gO h2
    refine ⟨by simp [g1],fun i d' e=>?_⟩
    cases i with
    | zero=>simp at e; subst e; exact ⟨k,rfl,h1⟩
    | succ i=>exact g2 i d' (by simpa using e)
  · cases h
def tP (ks:List Int) (i j:Nat):Bool:=decide (ks.getD i 0 < ks.getD j 0)
theorem xF (ks:List Int):Od (tP ks) where
 ir:=fun a=>by simp [tP]
 tr:=fun a b c h h'=>by simp only [tP,decide_eq_true_eq] at *; omega
 nt:=fun a b c h=>by simp only [tP,decide_eq_true_eq] at *; omega
theorem pN {ks:List Int} {ds:List Dv} (hl:ks.length=ds.length):(isortB (fun i j=>!tP ks j i) (f_ ds.length)).map (fun i=>ds.getD i .non)=fE ks ds:=by
 have e:(f_ ds.length).map (fun i=>(ks.getD i 0,ds.getD i .non))=ks.zip ds:=by
  apply M4
  · simp [hl]
  · intro i h1 h2
    simp only [y_,Ix] at h1
    have h1':i < ks.length:=by omega
    simp [Hi,h1,h1']
 unfold fE
 rw [← e,← gd (le:=fun i j=>!tP ks j i) (fun i=>(ks.getD i 0,ds.getD i .non)) _ fun x _ y _=>rfl,GC]
 rfl
structure B0 (X:Cx) (A':q_) (f:Addr) (pn:List (Addr×Obj)) (H0:Hp) (F:List Dv→Option (Rs Dv)):Prop where
 run:∀ (pins:List (Addr×Obj)) (σ:L2.St) (H:Hp) (s:Shared) (v:V) (u:Value) (d d':Dv) (E:Value→Shared→Prop),(∀ p∈pn,p∈pins)→Same H0 H→Inv X pins σ H s→RelV v u→Rep X.K H d v→F [d]=some (.ok d') →
  l_ (o_ X.prog X.w) A' (call (.ref f) [u]) (EP X pins σ fun v' H'=>Same H H'∧Rep X.K H' d' v') E s
theorem jP:∀ l:List Int,imms (l.map Dv.int)=true
 | []=>rfl
 | i :: l=>by show (imm (.int i) && imms (l.map Dv.int))=true; rw [jP l]; rfl
theorem iX:∀ l:List Int,hX (l.map Dv.int)=some l
 | []=>rfl
 | i :: l=>by
  show (hX (l.map Dv.int)).map (i :: ·)=_
  rw [iX l]
  rfl
section
variable {X:Cx} {pins pn:List (Addr×Obj)} {σ:L2.St} {H H0:Hp} {s:Shared} {f:Addr} {F:List Dv→Option (Rs Dv)} {A':q_} {E:Value→Shared→Prop}
theorem AN {a kS:Addr} {e1:Nat} {vs:List Value} {ws:List V} {ds:List Dv} {ks:List Int} {P:L3→Shared→Prop} (R:B0 X A' f pn H0 F) (hpn:∀ p∈pn,p∈pins) (hS:∀ b u,b≠kS→H0 b=some u→H b=some u) (h0k:H0 kS=none)
 (I:Inv X (pins ++ [(a,B_ "list" #[] e1)]) σ H s) (hk:H kS=some (.lst [])) (hne:kS≠a) (rv:Vals ws vs) (rw':Reps X.K H ds ws) (im:imms ds=true)
 (hkey:∀ (i:Nat) (d:Dv),ds[i]?=some d→∃ k,ks[i]?=some k∧F [d]=some (.ok (.int k))) (hlen:ks.length=ds.length) (hok:ks.length < 64) (fpa:∀ H',H' a=none→nV X pins H' a)
 (h:∀ (s':Shared) (H':Hp) (p:Nat→Nat) (out:Array Value) (c:Nat),Inv X pins σ H' s'→H' a=none→(∀ b u,b≠kS→H b=some u→H' b=some u)→s'.heap.get? a=some (B_ "list" out c)→out.size=vs.length→(∀ k,k < vs.length→out[k]?=vs[p k]?) →
   (f_ vs.length).map p=isortB (fun i j=>!tP ks j i) (f_ vs.length)→(∀ k,k < vs.length→p k < vs.length)→P (.done (.ret .none)) s') :
 l_ (o_ X.prog X.w) A' (ksk_rest a (.ref f) false vs.toArray e1 (.ref kS)) P E s:=by
 have hl2:ds.length=vs.length:=by have g1:=bW rw'; have g2:=rv.length; omega
 have h64:vs.length < 64:=by omega
 have imk:=jP ks
 unfold ksk_rest
 refine b_ (IU ?_)
 first
  | rw [List.forIn_toArray]
  | (rw [← Ja]; simp only [J9])
  | rw [← Ja]
 refine b_ (ksk_fold (fun i s'=>∃ H' zs,Inv X (pins ++ [(a,B_ "list" #[] e1)]) σ H' s'∧H' kS=some (.lst zs)∧(∀ b u,b≠kS→H b=some u→H' b=some u)∧Reps X.K H' ((ks.map Dv.int).take i) zs) vs 0 s ⟨H,[],I,hk,fun _ _ _ e=>e,rfl⟩ ?step ?done)
 case step =>
  rintro j x s' hx ⟨H',zs,I',hk',sm,rz⟩
  simp only [ID] at rz ⊢
  have hj:j < vs.length:=(u_.mp hx).1
  have hjd:ds[j]?=some (ds[j]'(by omega)):=i_ (by omega)
  obtain ⟨es,er,eF⟩:=hkey j _ hjd
  have hjw:ws[j]?=some (ws[j]'(by have:=rv.length; omega)):=i_ (by have:=rv.length; omega)
  have hjl:j < ws.length:=by have:=rv.length; omega
  have hjl2:j < ds.length:=by omega
  obtain ⟨u,eu,ru⟩:=rv.get hjw
  rw [hx] at eu
  cases eu
  have tupk:∀ b ys,H b=some (.tup ys)→H' b=some (.tup ys):=fun b ys q=>sm b _ (fun z=>by rw [z,hk] at q; cases q) q
  have rd:Rep X.K H' ds[j] ws[j]:=Rep.tups tupk _ _ (ka im hjd) (kg rw' j _ _ hjd hjw)
  have hS':Same H0 H':=fun b u q=>sm b u (fun z=>by rw [z,h0k] at q; cases q) (hS b u (fun z=>by rw [z,h0k] at q; cases q) q)
  refine b_ (IK (FQ (R.run _ _ _ _ _ _ _ _ (fun _ _=>False) (fun p hp=>F_ _ (hpn p hp)) hS' I' ru rd eF) (fun u' s2 he=>?_) fun _ _ z=>z.elim))
  obtain ⟨v',H2,I2,rv2,sm2,rp2⟩:=he
  dsimp only
  have hk2:H2 kS=some (.lst zs):=sm2 _ _ hk'
  obtain ⟨z,its,n,rvk,hlk,ek⟩:=I2.lstM hk2
  have hzl:zs.length≤62:=by have:=bW rz; simp at this; omega
  have hil:its.length≤62:=by have:=rvk.length; omega
  refine b_ (HM ek rfl ?_ (by simp; exact line64 (by omega)) (by simp; omega))
  have tup2:∀ b ys,H2 b=some (.tup ys)→(upd H2 kS (.lst (zs ++ [v']))) b=some (.tup ys):=fun b ys q=>by
   rw [au (fun z=>by rw [z,hk2] at q; cases q)]; exact q
  obtain ⟨n2,ek2⟩:∃ n2,(s2.heap.update kS (Fy (·.push u'))).get? kS=some (B_ "list" (its.toArray.push u') n2):=⟨_,Il (c:="list") ek (·.push u')⟩
  refine c_ ⟨rfl,upd H2 kS (.lst (zs ++ [v'])),zs ++ [v'],?_,am,fun b u hb q=>?_,?_⟩
  · refine I2.write (t':=s2.toks) (x:=kS) (e:=kS) (o:=.lst (zs ++ [v'])) (by rw [hk2]; trivial) (.inl rfl) (fun b u hb q=>?_) ⟨_,ek2⟩ ?_
    · rw [Gh _ _ _ _ hb]; exact q
    · refine ⟨by simp; exact line64 (by omega),its ++ [u'],n2,rvk.append (.cons rv2 .nil),?_⟩
      simpa [B_] using ek2
  · rw [au hb]
    exact sm2 _ _ (sm b u hb q)
  · have hrow:(ks.map Dv.int).take (j + 1)=(ks.map Dv.int).take j ++ [.int es]:=by
     rw [List.take_add_one,D_,er]
     rfl
    rw [hrow]
    have g1:Reps X.K (upd H2 kS (.lst (zs ++ [v']))) ((ks.map Dv.int).take j) zs:=Reps.tups tup2 _ _ (lN j imk) (Reps.mono sm2 _ _ rz)
    exact g1.append ⟨v',[],rfl,Rep.tups tup2 _ _ rfl rp2,rfl⟩
 case done =>
  rintro s' ⟨H',zs,I',hk',sm,rz⟩
  have rz':Reps X.K H' (ks.map Dv.int) zs:=by
   rw [Lj (by simp; omega)] at rz
   exact rz
  obtain ⟨z,its,n,rvk,hlk,ek⟩:=I'.lstM hk'
  have hzl:zs.length=vs.length:=by have:=bW rz'; simp at this; omega
  have hil:its.length=vs.length:=by have:=rvk.length; omega
  refine b_ (Ie ek rfl ?_)
  have hpa:=I'.pin (a,B_ "list" #[] e1) (by simp)
  refine DC (blt:=tP ks) (c:=n) ek hpa.1 hne hil h64 (xF ks) (kc (iX ks) rz' rvk) (fun i j x y ex ey=>?_) fun p out tk o1 o2 o3 o4=>?_
  · simp [tP,Hi,ex,ey]
  · obtain ⟨n2,ek2⟩:∃ n2,(s'.heap.update kS (Fy fun _=>#[])).get? kS=some (B_ "list" #[] n2):=⟨_,Il (c:="list") ek (fun _=>(#[]:Array Value))⟩
    have W:=I'.write (t':=tk) (h':=s'.heap.update kS (Fy fun _=>#[])) (x:=kS) (e:=kS) (o:=.lst []) (by rw [hk']; trivial) (.inl rfl) (fun b u hb q=>by rw [Gh _ _ _ _ hb]; exact q) ⟨_,ek2⟩ ⟨FN _,[],n2,.nil,by simpa [B_] using ek2⟩
    have W2:=W.unpinned
    have hna:upd H' kS (.lst []) a=none:=by rw [au hne.symm]; exact hpa.2.1
    have ha2:(s'.heap.update kS (Fy fun _=>#[])).get? a=some (B_ "list" #[] e1):=by rw [Gh _ _ _ _ hne.symm]; exact hpa.1
    obtain ⟨g0,g1,g2,g3⟩:=fpa _ hna
    have T:=W2.turned (t':=tk) (h':=(s'.heap.update kS (Fy fun _=>#[])).update a (Fy fun _=>out)) (it:=a) (fun b o hb q=>by rw [Gh _ _ _ _ hb]; exact q) g0 g1 g3.1 g3.2.1 g3.2.2
    exact h _ _ p out _ T hna (fun b u hb q=>by rw [au hb]; exact sm b u hb q) (Il ha2 fun _=>out) o1 o2 o3 o4
end
section
variable {X:Cx} {pins pn:List (Addr×Obj)} {σ:L2.St} {H H0:Hp} {s:Shared} {f:Addr} {F:List Dv→Option (Rs Dv)} {A':q_} {E:Value→Shared→Prop}
theorem AO {a:Addr} {n:Nat} {vs:List Value} {ws:List V} {ds:List Dv} {ks:List Int} {P:L3→Shared→Prop}
 (R:B0 X A' f pn H0 F) (hpn:∀ p∈pn,p∈pins) (hS:Same H0 H)
 (I:Inv X pins σ H s) (ho:s.heap.get? a=some (B_ "list" vs.toArray n)) (hna:H a=none) (fpa:∀ H',H' a=none→nV X pins H' a) (rv:Vals ws vs) (rw':Reps X.K H ds ws) (im:imms ds=true)
 (hkey:∀ (i:Nat) (d:Dv),ds[i]?=some d→∃ k,ks[i]?=some k∧F [d]=some (.ok (.int k))) (hlen:ks.length=ds.length) (hok:ks.length < 64)
 (h:∀ (s':Shared) (H':Hp) (p:Nat→Nat) (out:Array Value) (c:Nat),Inv X pins σ H' s'→H' a=none→Same H H'→s'.heap.get? a=some (B_ "list" out c)→out.size=vs.length→(∀ k,k < vs.length→out[k]?=vs[p k]?) →
   (f_ vs.length).map p=isortB (fun i j=>!tP ks j i) (f_ vs.length)→(∀ k,k < vs.length→p k < vs.length)→P (.done (.ret .none)) s') :
 l_ (o_ X.prog X.w) A' (ksk_tree a (.ref f) false) P E s:=by
 have h64:vs.length < 64:=by
  have g1:=bW rw'; have g2:=rv.length
  omega
 have ha:a < s.heap.objs.size:=m_ ho
 obtain ⟨g0,g1,g2,g3⟩:=fpa _ hna
 unfold ksk_tree
 refine b_ (Ie ho rfl ?_)
 refine b_ (HM ho rfl ?_ (line64 (by simpa using h64)))
 obtain ⟨e1,ho1⟩:∃ e1,(s.heap.update a (Fy fun _=>(#[]:Array Value))).get? a=some (B_ "list" #[] e1):=⟨_,Il ho fun _=>#[]⟩
 have I1:=I.turned (t':=s.toks) (h':=s.heap.update a (Fy fun _=>(#[]:Array Value))) (it:=a) (fun b o hb q=>by rw [Gh _ _ _ _ hb]; exact q) g0 g1 g3.1 g3.2.1 g3.2.2
 refine b_ (KF ho1 rfl ?_)
 refine b_ (wpAny_newTuple ?_ (line64 (by simpa using h64)))
 refine b_ (Io ?_)
 refine Gb ?_
 have I2:=I1.kept (t':=s.toks) (h':=(s.heap.update a (Fy fun _=>(#[]:Array Value))).push (B_ "tuple" vs.toArray 0)) fun b u q=>d_ _ q
 have sz2:((s.heap.update a (Fy fun _=>(#[]:Array Value))).push (B_ "tuple" vs.toArray 0)).objs.size=s.heap.objs.size + 1:=by rw [Hl,GO]
 have fr:H ((s.heap.update a (Fy fun _=>(#[]:Array Value))).push (B_ "tuple" vs.toArray 0)).objs.size=none:=I2.hok.fresh (j_ _)
 have I3:=I2.laid (t':=s.toks) (h':=((s.heap.update a (Fy fun _=>(#[]:Array Value))).push (B_ "tuple" vs.toArray 0)).push (B_ "list" #[] 0)) (o:=.lst []) (fun b u q=>d_ _ q) (j_ _) ⟨FN _,[],0,.nil,h_ _ rfl⟩
 have ho3:(((s.heap.update a (Fy fun _=>(#[]:Array Value))).push (B_ "tuple" vs.toArray 0)).push (B_ "list" #[] 0)).get? a=some (B_ "list" #[] e1):=d_ _ (d_ _ ho1)
 have hne:((s.heap.update a (Fy fun _=>(#[]:Array Value))).push (B_ "tuple" vs.toArray 0)).objs.size≠a:=by rw [sz2]; exact Jw (w_ ha)
 have I4:=I3.pinned (fp:=[a]) (fun b hb=>by
  have:b=a:=by simpa using hb
  subst this
  exact fpa _ (by rw [au hne.symm]; exact hna)) (fun b hb=>by
  have:b=a:=by simpa using hb
  subst this
  exact ⟨_,ho3,fun v z=>by cases z⟩)
 rw [mV ho3] at I4
 refine AN R hpn (fun b u hb q=>by rw [au hb]; exact hS b u q) (hS.free fr) I4 am hne rv (Reps.mono (ar fr _) _ _ rw') im hkey hlen hok fpa fun s' H' p out c J ja sm e o1 o2 o3 o4=>h s' H' p out c J ja (fun b u q=>sm b u (fun z=>?_) ?_) e o1 o2 o3 o4
 · rw [z,fr] at q; cases q
 · rw [au (fun z=>by rw [z,fr] at q; cases q)]; exact q
theorem uV {l:Addr} {vs:List Value} {ws:List V} {ds:List Dv} {ks:List Int} {Q:VK}
 (R:B0 X X.A.in1.in1 f pn H0 F) (hpn:∀ p∈pn,p∈pins) (hS:Same H0 H)
 (I:Inv X pins σ H s) (hcol:∀ Q':List Value→Shared→Prop,(∀ h' tk,(∀ b o,s.heap.get? b=some o→h'.get? b=some o)→s.heap.objs.size≤h'.objs.size→Q' vs { s with heap:=h',toks:=tk })→l_ (o_ X.prog X.w) X.A.in1 (Ng (.ref l)) Q' E s) (rv:Vals ws vs) (rw':Reps X.K H ds ws)
 (hkr:ec F ds=some ks) (hok:ks.length < 64) (im:imms ds=true)
 (q:∀ (L:Addr) (ws':List V) (H':Hp),Same H H'→H' L=some (.lst ws')→Reps X.K H' (fE ks ds) ws'→Q (.ref L) H') :
 l_ (o_ X.prog X.w) X.A (call (.builtin "sorted") [.ref l] [(a_ "key",.ref f)]) (EP X pins σ Q) E s:=by
 obtain ⟨hlen,hkey⟩:=gO hkr
 have hws:ds.length=ws.length:=bW rw'
 have hvs:ws.length=vs.length:=rv.length
 have h64:vs.length < 64:=by
  omega
 refine call_function_entry_kw LQ Lg Lh (ksk_s1 _ _) ?_
 unfold GL.«sorted»
 refine b_ (m:=Ml "sorted" 1 1 _) (c_ ?_)
 refine b_ (hcol _ fun h1' tk1 up gr=>?_)
 refine b_ (Io ?_ (line64 h64))
 have I1:=I.kept (t':=tk1) (h':=h1'.push (B_ "list" vs.toArray 0)) fun b u z=>d_ _ (up b u z)
 have hoL:(h1'.push (B_ "list" vs.toArray 0)).get? h1'.objs.size=some (B_ "list" vs.toArray 0):=h_ _ rfl
 have hfr:H h1'.objs.size=none:=I.hok.fresh (gr)
 have fpa:∀ H',H' h1'.objs.size=none→nV X pins H' h1'.objs.size:=fun H' hn=>I.fpOk (gr) hn
 refine b_ (Gb (wpAny_call_entry_kw Kv ⟨_,hoL,rfl⟩ J6 ?body (ksk_l1 _ _)))
 case body =>
  show l_ (o_ X.prog X.w) X.A.in1.in1 (GL.«list.sort» ⟨[.ref h1'.objs.size],[(a_ "key",.ref f)]⟩) _ _ _
  rw [ksk_t1]
  refine AO (s:={ s with heap:=h1'.push (B_ "list" vs.toArray 0),toks:=tk1 }) R hpn hS I1 hoL hfr fpa rv rw' im hkey hlen hok fun s' H' p out cc J ja sm e o1 o2 o3 o4=>⟨_,rfl,?_⟩
  refine c_ ⟨_,rfl,?_⟩
  obtain ⟨g0,g1,g2,g3,g4,g5⟩:=fpa _ ja
  have J2:=J.pinned (fp:=[h1'.objs.size]) (fun b hb'=>by
   have:b=h1'.objs.size:=by simpa using hb'
   subst this
   exact fpa _ ja) (fun b hb'=>by
   have:b=h1'.objs.size:=by simpa using hb'
   subst this
   exact ⟨_,e,fun v z=>by cases z⟩)
  rw [mV e] at J2
  have hV:Vals ((f_ vs.length).map fun k=>ws.getD (p k) .non) out.toList:=by
   refine jN (by simp [o1]) fun i v u ev eu=>?_
   have hi:i < vs.length:=by
    have:=(u_.mp eu).1
    simp [o1] at this
    omega
   have eu':out[i]?=some u:=by simpa using eu
   rw [o2 i hi] at eu'
   rw [D_,GX hi] at ev
   simp only [GZ,HC] at ev
   have hp:p i < ws.length:=by rw [hvs]; exact o4 i hi
   have e1:ws[p i]?=some v:=by rw [i_ hp,← ev]; simp [Hi,hp]
   obtain ⟨u',e2,r2⟩:=rv.get e1
   rw [e2] at eu'
   cases eu'
   exact r2
  have hR:Reps X.K H' (fE ks ds) ((f_ vs.length).map fun k=>ws.getD (p k) .non):=by
   have hn:vs.length=ds.length:=by omega
   rw [← pN hlen,← hn,← o3,GC]
   refine jM (by simp) fun i d v ed ev=>?_
   have hi:i < vs.length:=by
    have:=(u_.mp ed).1
    simpa using this
   rw [D_,GX hi] at ed ev
   simp only [GZ,HC,Mh] at ed ev
   have hp:p i < ws.length:=by rw [hvs]; exact o4 i hi
   have hp':p i < ds.length:=by omega
   refine kg (Reps.mono sm _ _ rw') (p i) d v ?_ ?_
   · rw [i_ hp',← ed]; simp [Hi,hp']
   · rw [i_ hp,← ev]; simp [Hi,hp]
  have e':(h1'.objs.size,B_ "list" out cc)=(h1'.objs.size,wV out.toList cc):=by simp [B_,wV]
  rw [e'] at J2
  obtain ⟨ha',J3⟩:=Inv.retrack J2 hV (line64 (by simp; omega)) (fun o' z=>by
   exfalso
   rcases g3 with g3 | g3
   · exact absurd (I.ok) (fun _=>by
      have:=JU (h:=X.s₀.heap) (a:=h1'.objs.size) (FH I.sz (gr))
      rw [this] at z
      cases z)
   · have:=JU (h:=X.s₀.heap) (a:=h1'.objs.size) g3
     rw [this] at z
     cases z) g5
  refine ⟨.ref h1'.objs.size,_,J3,rfl,q _ _ _ (fun b u z=>?_) am (Reps.mono (ar ja _) _ _ hR)⟩
  exact ar ja _ b u (sm b u z)
end
theorem oQ {a b:Int} {t u:Tok} {c:Value}:∀ (l:List Value),MQ l→MQ (l ++ [.int a t,.int b u,c])
 | [],_=>trivial
 | .int _ _ :: .int _ _ :: _ :: cz,h=>oQ cz h
theorem lR {pos:Pos} {v c:Value} {a b:Int} {t u:Tok}:∀ (l:List Value),MQ l→KS pos (l ++ [.int a t,.int b u,c])=some v→KS pos l=some v∨v=c
 | [],_,h=>by
  simp only [M_,KS] at h
  split at h
  · cases h; exact .inr rfl
  · cases h
 | .int x _ :: .int y _ :: z :: cz,hl,h=>by
  simp only [List.cons_append,KS] at h ⊢
  split at h
  · rename_i hc
    rw [if_pos hc]
    exact .inl h
  · rename_i hc
    rw [if_neg hc]
    exact lR cz hl h
def TBL (P:Addr) (q:Str) (H:Hp):Prop:=∃ ps t,H P=some (.tbl ps)∧ps[0]?=some (.str q t)
def AQ (oc:Obj) (q:Str):Prop:=∃ vs t,oc.data=.fields vs∧vs[1]?=some (.str q t)
abbrev FZ (oc:Obj):HO:=.frz oc (.ext fun _=>True)
def lS (K:ck) (cd:Value) (P:Addr):Prop:=∃ cc o vs file tf flags tg inF text tt,cd=.ref cc∧K.lookup cc=some o∧o.cls=.type "code"∧o.data=.fields vs∧vs[11]?=some (.ref P)∧vs.getD 11 .none=.ref P∧vs.getD 18 .none=.str file tf ∧
 vs.getD 7 .none=.int flags tg∧vs.getD 9 .none=.bool inF∧vs.getD 10 .none=.int text tt∧cc≠P
def AR (K:ck) (mg:Str→Option Value):Prop:=∃ bm o,mg "__builtins__"=some (.ref bm)∧bm≠builtinsNs∧bm≠t_∧K.lookup bm=some o∧o.cls=.type "module"∧o.dict=some builtinsNs∧o.data=.plain
section
variable {X:Cx} {pins:List (Addr×Obj)} {σ:L2.St} {H:Hp} {s:Shared} {P:Addr} {q:Str}
theorem TBL.now (h:TBL P q X.H₀) (I:Inv X pins σ H s):TBL P q H:=by
 obtain ⟨ps,t,h1,h2⟩:=h
 obtain ⟨more,e⟩:=I.base.tbls P ps h1
 refine ⟨ps ++ more,t,e,?_⟩
 have:0 < ps.size:=(Gm.mp h2).1
 rw [Array.getElem?_append_left this]
 exact h2
theorem xG {c:Addr} {ps:Array Value} {oc:Obj} {t':Nat} {h':Heap} (I:Inv X pins σ H s) (hP:H P=some (.tbl ps)) (hx:∀ b o,b≠P→s.heap.get? b=some o→h'.get? b=some o) (hc:s.heap.objs.size≤c) (hoc:h'.get? c=some oc) (new:ObjOk X.prog X.w (upd H c (FZ oc)) h' P (.tbl ps)) :
 Inv X pins σ (upd H c (FZ oc)) { s with heap:=h',toks:=t' }:=by
 have fr:H c=none:=I.hok.fresh hc
 have nP:∀ b,H b=none→b≠P:=fun b n z=>by rw [z,hP] at n; cases n
 have nc:∀ b o,s.heap.get? b=some o→b≠c:=fun b o e=>n_ (x_ (m_ e) hc)
 refine I.step (g':=s.gens) (d':=s.drawn) (ch:=[]) (fun _ z=>nomatch z) (fun b o _ _ _ e n=>hx b o (nP b n) e) (fun b o _ _ _ e n=>⟨o.slots,hx b o (nP b n) e⟩) (fun b o _ e n=>by rw [au (nc b o e)]; exact n) (fun b o _ e=>?_)
  (fun b xs e=>by rw [au (ao e fr)]; exact e) (fun b o u e=>by rw [au (ao e fr)]; exact e) (fun b qs e=>⟨#[],by rw [au (ao e fr),e]; simp⟩) (fun m hm=>?_) (fun b u e=>?_) I.bare
 · by_cases hb:b=P
   · obtain ⟨qs,e2,_⟩:=new
     exact ⟨_,by rw [hb]; exact e2⟩
   · exact ⟨o,hx b o hb e⟩
 · obtain ⟨o,es,ep,ho,r⟩:=hm
   exact ⟨o,es,ep,hx _ o (nP _ I.free) ho,r⟩
 · by_cases hb:b=c
   · subst hb
     rw [am] at e
     cases e
     exact ⟨hoc,trivial,⟨oc,hoc⟩,fun _ _ _ _=>trivial⟩
   · rw [au hb] at e
     by_cases hbP:b=P
     · subst hbP
       rw [hP] at e
       cases e
       exact new
     · refine (I.hok b u e).stay (fun d v hd z=>hx d v ?_ z) (fun d z=>by rw [au (ao z fr)]; exact z) fun d xs z=>by rw [au (ao z fr)]; exact z
       rcases hd with z | z
       · rw [z]; exact hbP
       · intro z2
         rw [z2,hP] at z
         cases z
theorem AS {E:Value→Shared→Prop} {Q:Value→Shared→Prop} {args:Arguments} {body:Expr} {scope:Scope} {lpos:Pos} (I:Inv X pins σ H s) (hT:TBL P q X.H₀) (hC:lS X.K X.env.code P) (hB:AR X.K X.mg) (hcl:HH scope X.env=pure []) (hdef:defaultsOf args X.env=([],[])) (hq:X.env.qual ++ "<lambda>"=q)
 (h:∀ f c oc ctv pm H' s',Inv X pins σ H' s'→Same H H'→H' c=some (FZ oc)→AQ oc q→s'.heap.get? f=some (Ij "<lambda>" q args body scope [] pm c ctv)→nV X pins H' f→Q (.ref f) s') :
 l_ (o_ X.prog X.w) X.A (eval (.Lambda args body scope lpos) X.env) Q E s:=by
 refine PySem.W.kla_eval hdef ?_
 rw [hq]
 obtain ⟨ps,t0,hP,hp0⟩:=hT.now I
 obtain ⟨qs,e,tr,ch⟩:=I.hok P _ hP
 have KX:=I.kIn
 obtain ⟨cc,o,vs,file,tf,flags,tg,inF,text,tt,ecd,lk,c1,c2,c3,c4,c5,c6,c7,c8,c9⟩:=hC
 have C:PySem.W.CodeHd s.heap cc P:=⟨o,vs,file,tf,flags,tg,inF,text,tt,KX _ _ lk,c1,c2,c3,c4,c5,c6,c7,c8,c9⟩
 have hg:s.heap.Ns t_ X.mg:=I.mod.glob.keeps I.bk
 obtain ⟨bm,ob,b1,b2,b3,b4,b5,b6,b7⟩:=hB
 have hgP:t_≠P:=fun z=>by
  obtain ⟨o,es,ep,e',hd,_⟩:=hg
  rw [z,e] at e'; cases e'; cases hd
 have hbP:bm≠P:=fun z=>by
  have e':=KX _ _ b4
  rw [z,e] at e'; cases e'; cases b5
 have hb:s.heap.BuiltinsAt X.mg P:=⟨bm,ob,b1,b2,b3,hbP,KX _ _ b4,b5,b6,b7⟩
 cases hf:KS lpos qs.toList with
 | none =>
  refine PySem.W.kla_makeFunction (mg:=X.mg) hcl I.ok.glob hg ecd C e tr hf hgP hb fun c' ctv h' tk hx hge hlt hrec htb=>?_
  obtain ⟨c2',oc,vs2,t,e2,hoc,hd,hv⟩:=hrec
  cases e2
  have fr:H c'=none:=I.hok.fresh hge
  have hl:(qs ++ #[G2 lpos.line,G2 lpos.col,s_ c']).toList=qs.toList ++ [G2 lpos.line,G2 lpos.col,.ref c']:=by simp
  have new:ObjOk X.prog X.w (upd H c' (FZ oc)) h' P (.tbl ps):=⟨_,htb,by rw [hl]; exact oQ _ tr,fun pos v hv'=>by
   rw [hl] at hv'
   rcases lR _ tr hv' with z | z
   · obtain ⟨c3',oc3,vs3,q3,t3,t3',r1,r2,r3⟩:=ch pos v z
     exact ⟨c3',oc3,vs3,q3,t3,t3',r1,by rw [au (ao r2 fr)]; exact r2,r3⟩
   · exact ⟨c',oc,vs2,q,t,t0,z,am,hd,hv,hp0⟩⟩
  have I':=xG (t':=tk) I hP (fun b o hb' q'=>hx b o hb' q') hge hoc new
  have I2:=I'.kept (t':=tk) (h':=h'.push (Ij "<lambda>" q args body scope [] ((X.mg "__name__").getD .none) c' ctv)) fun b u z=>d_ _ z
  exact h h'.objs.size c' oc ctv _ _ _ I2 (ar fr _) am ⟨vs2,t,hd,hv⟩ (h_ _ rfl) (I'.fpOk (j_ _) (I'.hok.fresh (j_ _)))
 | some v =>
  obtain ⟨c3',oc3,vs3,q3,t3,t3',r1,r2,r3,r4,r5⟩:=ch lpos v hf
  subst r1
  rw [hp0] at r5
  cases r5
  refine PySem.W.kla_makeFunctionHit (mg:=X.mg) hcl I.ok.glob hg ecd C e tr hf hb fun ctv h' tk hk hsz=>?_
  have I1:=I.kept (t':=tk) (h':=h') hk
  have I2:=I1.kept (t':=tk) (h':=h'.push (Ij "<lambda>" q args body scope [] ((X.mg "__name__").getD .none) c3' ctv)) fun b u z=>d_ _ z
  exact h h'.objs.size c3' oc3 ctv _ _ _ I2 (.refl H) r2 ⟨vs3,t3,r3,r4⟩ (h_ _ rfl) (I1.fpOk (j_ _) (I1.hok.fresh (j_ _)))
theorem xH {A':q_} {k:Nat} {f c:Addr} {oc:Obj} {H0:Hp} {N ps:List Str} {args:Arguments} {body:Expr} {scope:Scope} {pm ctv:Value} {fb:FnE} {F:List Dv→Option (Rs Dv)} (hr:Room (k + 1) A') (hfr:A'.frames=X.A.frames) (S:dr N ps scope) (hps:ps.length=1)
 (hbd:∀ (pm ctv:Value) (c:Addr) (u:Value),LF (LH "<lambda>" q args body scope [] pm (.ref c) ctv) ⟨[u],[]⟩=pure (ps.zip [u])) (hc:H0 c=some (FZ oc)) (hrec:AQ oc q)
 (hb:∀ (A:q_) (outer:List Env) (s:Shared) (H:Hp) (E:XK),Room k (A.deeper (II q scope s.heap.objs.size f (.ref c)))→FE (mH CX0 X.prog X.w X.K X.mg X.base N q scope f (.ref c) A outer s H E) body fb)
 (hF:F=fun ds=>fb (ds.map some ++ F9 (N.length - ds.length) none)):B0 X A' f [(f,Ij "<lambda>" q args body scope [] pm c ctv)] H0 F:=by
 refine ⟨fun pins σ H s v u d d' E hpn hS I ru rd eF=>?_⟩
 have e0:=I.env0
 have e1:Env0 X.prog X.w X.K X.mg X.base A' X.stack s H:=⟨hfr.trans e0.frames,e0.mod,e0.bs,e0.bsz,e0.funs,e0.frf,e0.hok,e0.bare⟩
 have hfo:=(I.pin (f,Ij "<lambda>" q args body scope [] pm c ctv) (pi _ (hpn _ (by simp)))).1
 have hoc:s.heap.get? c=some oc:=(I.hok c _ (hS _ _ hc)).1
 obtain ⟨vs,t,hd,hv⟩:=hrec
 have lim:s.heap.NoLimit:=I.nolimit
 have hkind:∀ y∈ps.zip [u],scope.names.lookup y.1=some .local∨(scope.names.lookup y.1=some .cell∧((F3 (s.heap.objs.size + 1) scope.names []).lookup y.1).isSome=true):=fun ⟨n,v⟩ hy=>by
  rcases S.par n (J7 hy).1 with q | q
  · exact .inl q
  · exact .inr ⟨q,Jp _ _ _ (.inl q)⟩
 refine K7 (G5 (R:=CR CX0 X.stack X.prog X.w H s (fun v' H'=>Same H H'∧Rep X.K H' d' v') E0) ?_ fun r s' hq=>?_)
 · refine PySem.W.kla_callFunE hr.depth hfo rfl S.co S.gen rfl ⟨c,oc,vs,t,rfl,hoc,hd,hv⟩ ?_
   rw [hbd]
   refine c_ (Kk S.kind hkind fun env he s1 x=>?_)
   subst he
   refine ⟨lim.keeps x.toInCall.keep,PySem.W.kla_codeExpr ?_⟩
   have I1:Inv (mH CX0 X.prog X.w X.K X.mg X.base N q scope f (.ref c) A' X.stack s H E0) [] (start N [v]) H s1:=kU S hr.hd e1 (by simp [hps]) (.cons ru .nil) x
   refine FQ ((hb A' X.stack s H E0 (hr.deeper _)).h [] s1 (start N [v]) H (fun v' H'=>Same H H'∧Rep X.K H' d' v') I1 ⟨_,gG (ds:=[d]) ⟨v,[],rfl,rd,rfl⟩,?_⟩) (fun v' s' hs=>?_) fun e s' hs=>hs
   · rw [hF] at eF
     have eF':fb (Nz some [d] ++ F9 (N.length - [d].length) none)=some (.ok d'):=eF
     rw [eF']
     exact fun v H' e r=>⟨e,r⟩
   · obtain ⟨v2,H2,J,rv2,q2⟩:=hs
     exact ⟨v2,H2,J.os,J.bare,J.base,J.hok,rv2,q2⟩
 · cases r with
   | error e=>exact hq.elim
   | ok fl =>
    cases fl with
    | ret u=>exact I.after hq
    | next=>exact Gd hq
    | brk=>exact Gd hq
    | cont=>exact Gd hq
end
section
variable {X:Cx} {k' k:Nat} {p kp pos lpos:Pos} {e:Expr} {g:FnA} {P:Addr} {q:Str} {N ps:List Str} {args:Arguments} {body:Expr} {scope:Scope} {fb:FnE}
def yD (n:Nat) (fb:FnE):List Dv→Option (Rs Dv):=fun ds=>fb (ds.map some ++ F9 (n - ds.length) none)
theorem uW (hT:TBL P q X.H₀) (hC:lS X.K X.env.code P) (hB:AR X.K X.mg) (hr:Room k' X.A) (hk:k + 3≤k') (hg:Gl X "sorted") (hm:X.mg "sorted"=none) (ha:FA X [e] g) (S:dr N ps scope) (hps:ps.length=1) (hN:N.length=1)
 (hb:∀ (f c:Addr) (A:q_) (outer:List Env) (s:Shared) (H:Hp) (E:XK),Room k (A.deeper (II q scope s.heap.objs.size f (.ref c)))→FE (mH CX0 X.prog X.w X.K X.mg X.base N q scope f (.ref c) A outer s H E) body fb)
 (hbd:∀ (pm ctv:Value) (c:Addr) (u:Value),LF (LH "<lambda>" q args body scope [] pm (.ref c) ctv) ⟨[u],[]⟩=pure (ps.zip [u])) (hcl:HH scope X.env=pure []) (hdef:defaultsOf args X.env=([],[])) (hq:X.env.qual ++ "<lambda>"=q)
 (he:F0 pos (e_ [e] X.env)=(false,eval e X.env) :: F0 pos (e_ [] X.env):=by kernel_rfl)
 (hplain:(F0 pos (e_ [e] X.env)).any (·.1)=false:=by kernel_rfl)
 (hall:(Ii pos (GY [⟨some "key",.Lambda args body scope lpos,kp⟩] X.env)).all (·.1.isSome)=true:=by kernel_rfl)
 (hkw:(Ii pos (GY [⟨some "key",.Lambda args body scope lpos,kp⟩] X.env)).any (·.1.isNone)=false:=by kernel_rfl)
 (hnm:(Ii pos (GY [⟨some "key",.Lambda args body scope lpos,kp⟩] X.env)).filterMap (·.1)=[a_ "key"]:=by kernel_rfl) :
 FE X (.Call (.Name "sorted" p) [e] [⟨some "key",.Lambda args body scope lpos,kp⟩] pos) (fB1 (pM (yD 1 fb)) g):=⟨fun pins s σ H Q I ⟨ρ,E,o⟩=>by
 refine Gr (cZ I hg hm (u:=.builtin "sorted") (by decide +kernel) ?_ (by decide) (by decide))
 refine callWith_kw (thn (ha.h pos pins s σ H _ I ⟨ρ,E,OutA.bind o fun ds vs H1 e1 rs o1=>(show ∃ ds,Reps X.K H1 ds vs∧Out X H1 (pM (yD 1 fb) ds) Q from ⟨ds,rs,o1⟩)⟩) fun us s1 ⟨vs,H1,I1,r1,ds,rs,o1⟩=>?_) he hplain hall hkw
 refine kws_cons (AS I1 hT hC hB hcl hdef hq fun f c oc ctv pm H2 s2 I2 sm hc hrec hfo hfp=>kws_nil ?_)
 rw [hnm]
 show l_ _ _ (call (.builtin "sorted") us [(a_ "key",.ref f)]) _ _ s2
 unfold pM at o1
 split at o1
 · rename_i es
   obtain ⟨v,rfl,r⟩:=cM rs
   obtain ⟨l,xs,rfl,hl,rx⟩:=r.lstE
   obtain ⟨u,rfl,ru⟩:=dJ r1
   cases (show u=s_ l from ru)
   split at o1
   · rename_i ks hks
     split at o1
     · rename_i hcond
       obtain ⟨z,its,n,rv,hz,eh⟩:=I2.lstM (sm _ _ hl)
       have Ip:=I2.pinned (fp:=[f]) (fun b hb'=>by
        have:b=f:=by simpa using hb'
        subst this
        exact hfp) (fun b hb'=>by
        have:b=f:=by simpa using hb'
        subst this
        exact ⟨_,hfo,fun v z=>by cases z⟩)
       rw [mV hfo] at Ip
       have hin:Room (k + 1) X.A.in1.in1:=(hr.mono hk).in1.in1
       have R:=xH (X:=X) (A':=X.A.in1.in1) (H0:=H2) (N:=N) (ps:=ps) (args:=args) (body:=body) (scope:=scope) (pm:=pm) (ctv:=ctv) (fb:=fb) (F:=yD 1 fb) hin rfl S hps hbd hc hrec (hb f c) (by rw [hN]; rfl)
       have hlen:its.length < 64:=by
        obtain ⟨g1,_⟩:=gO hks
        have g2:=bW rx
        have g3:=rv.length
        omega
       refine thn (uV (Q:=Q) R (fun p hp=>by
        have:p=(f,Ij "<lambda>" q args body scope [] pm c ctv):=by simpa using hp
        subst this
        simp) (.refl H2) Ip (fun Q' hQ=>mW (M:=o_ X.prog X.w) eh rfl rfl rfl (fun h' up gr=>hQ h' s2.toks up (Hd gr)) (line64 hlen)) rv (Reps.mono sm _ _ rx) hks hcond.1 hcond.2 fun L ws' H' sm' hL rw'=>o1 _ _ (sm.trans sm') ⟨L,ws',rfl,hL,rw'⟩) fun u s3 ⟨v,H3,I3,rv3,q3⟩=>⟨v,H3,I3.unpinned,rv3,q3⟩
     · exact o1.elim
   · exact o1.elim
 · exact o1.elim⟩
end
def spT (Pt:Addr) (q:Str) (K:ck) (F:List Dv→Option (Rs Dv)) (n:Nat):Sp:=fun vs H Q E=>TBL Pt q H∧spF K F n vs H Q E
def B1 (P:Program) (w:uk) (K:ck) (mg:Str→Option Value) (base:Heap) (Pt:Addr) (q:Str) (x:Str) (k:Nat) (ps:List Str) (F:List Dv→Option (Rs Dv)):Prop :=
 ∃ f fd,FnOk P w K mg base CX0 k f fd ps (spT Pt q K F ps.length)∧mg x=some (.ref f)∧GD K (.ref f)=true∧Binds K fd ps []
structure HAT (P:Program) (w:uk) (K:ck) (mg:Str→Option Value) (base:Heap) (Pt:Addr) (q:Str) (T:bI):Prop where
 h:∀ x e,T.lookup x=some e→B1 P w K mg base Pt q x e.1 e.2.1 e.2.2
section
variable {P:Program} {w:uk} {K:ck} {mg:Str→Option Value} {base h:Heap} {Pt:Addr} {q:Str} {T:bI} {y x:Str} {k n:Nat} {ps:List Str} {F:List Dv→Option (Rs Dv)} {st:Stmt} {f:Addr}
theorem xI:HAT P w K mg base Pt q []:=⟨fun _ _ h=>by cases h⟩
theorem oR (h:B1 P w K mg base Pt q y k ps F) (t:HAT P w K mg base Pt q T):HAT P w K mg base Pt q ((y,k,ps,F) :: T):=⟨fun x e z=>by
 rcases iW z with ⟨rfl,rfl⟩ | z
 · exact h
 · exact t.h x e z⟩
theorem TBL.mono {H H':Hp} (e:Same H H') (h:TBL Pt q H):TBL Pt q H':=let ⟨ps,t,h1,h2⟩:=h; ⟨ps,t,e _ _ h1,h2⟩
theorem vW {fd:Gp} {qual:Str} {CT:Value→Prop} (N ps:List Str) (fb:FnS) (hF:F=aS N.length fb) (hn:n=ps.length) (Fn:Fun K x qual st f fd) (S:dr N ps (aD st)) (hct:CT fd.code)
 (hb:∀ (cdv:Value) (A:q_) (outer:List Env) (s:Shared) (H:Hp) (E:XK),CT cdv→TBL Pt q H→Room k (A.deeper (II qual (aD st) s.heap.objs.size f cdv))→FSs (mH CX0 P w K mg base N qual (aD st) f cdv A outer s H E).nox (cw st) fb) :
 FnOk P w K mg base CX0 (k + 1) f fd ps (spT Pt q K F n):=by
 subst hF hn
 obtain ⟨oc,od,kV,doc,pm,an,cdv,ct,osl,rfl,lk,hcd⟩:=Fn.ex
 refine zb lk hcd S (fun vs H Q E h=>?_) fun A outer s H vs Q E hr h=>?_
 · obtain ⟨_,ds,r,hl,_⟩:=h
   rw [r.length,hl]
 · obtain ⟨ht,ds,r,hl,z⟩:=h
   refine ⟨_,(hb cdv A outer s H E hct ht hr).h.nox,ds.map some ++ F9 (N.length - ds.length) none,gG r,?_⟩
   unfold aS at z
   match hf:fb (ds.map some ++ F9 (N.length - ds.length) none) with
   | none=>rw [hf] at z; exact z.elim
   | some (.exc c)=>rw [hf] at z; exact z.elim
   | some (.rt d)=>rw [hf] at z; exact fun v H' e r'=>z v H' e r'
   | some (.nx ρ)=>rw [hf] at z; exact fun σ' H' e _=>z .non H' e rfl
theorem sE {CT:Value→Prop} (XI:K.In h) (Gn:h.Ns t_ mg) (N ps:List Str) (fb:FnS) (A:Af K x st f) (hbd:Et x st ps) (hct:∀ fd,Fun K x x st f fd→CT fd.code)
 (hb:∀ (cdv:Value) (A:q_) (outer:List Env) (s:Shared) (H:Hp) (E:XK),CT cdv→TBL Pt q H→Room k (A.deeper (II x (aD st) s.heap.objs.size f cdv))→FSs (mH CX0 P w K mg base N x (aD st) f cdv A outer s H E).nox (cw st) fb) (hF:F=aS N.length fb:=by kernel_rfl) (hs:fnB N ps (aD st)=true:=by kernel_rfl):B1 P w K mg base Pt q x (k + 1) ps F :=
 let ⟨_,Fn⟩:=A.F
 ⟨_,_,vW N ps fb hF rfl Fn (BY hs) (hct _ Fn) hb,IL XI Gn A.a,A.k,Fn.binds hbd⟩
def ctB (K:ck) (f Pt:Addr):Bool:=match K.lookup f with
 | some ⟨_,_,.func fd,_⟩=>(match fd.code with
  | .ref cc=>(match K.lookup cc with
   | some ⟨.type "code",_,.fields vs,_⟩=>(match (vs[11]?:Option Value),vs.getD 11 .none,vs.getD 18 .none,vs.getD 7 .none,vs.getD 9 .none,vs.getD 10 .none with
    | some (.ref p),.ref p',.str _ _,.int _ _,.bool _,.int _ _=>JQ p Pt && JQ p' Pt && !JQ cc Pt
    | _,_,_,_,_,_=>false)
   | _=>false)
  | _=>false)
 | _=>false
theorem DD {fd:Gp} (h:ctB K f Pt=true) (Fn:Fun K x x st f fd):lS K fd.code Pt:=by
 obtain ⟨oc,od,kV,doc,pm,an,cdv,ct,osl,e,lk,hcd⟩:=Fn.ex
 unfold ctB at h
 rw [lk] at h
 dsimp only at h
 split at h
 · rename_i cc hcc
   split at h
   · rename_i dd vs sl hlk
     split at h
     · rename_i p p' a1 a2 a3 a4 a5 a6 a7 e1 e2 e3 e4 e5 e6
       simp only [k_,Go] at h
       have h1:p=Pt:=GB h.1.1
       have h2:p'=Pt:=GB h.1.2
       subst h1
       subst h2
       exact ⟨cc,_,vs,_,_,_,_,_,_,_,hcc,hlk,rfl,rfl,e1,e2,e3,e4,e5,e6,Hc h.2⟩
     · cases h
   · cases h
 · cases h
theorem ctB_tab {h:Heap} (XI:K.In h) (hc:ctB K f Pt=true):LD h Pt:=by
 unfold ctB at hc
 split at hc
 · split at hc
   · rename_i cc hcc
     split at hc
     · rename_i dd vs sl hlk
       split at hc
       · rename_i p p' a1 a2 a3 a4 a5 a6 a7 e1 e2 e3 e4 e5 e6
         simp only [k_,Go] at hc
         have h1:p=Pt:=GB hc.1.1
         subst h1
         exact ⟨cc,_,vs,XI _ _ hlk,rfl,rfl,e1⟩
       · cases hc
     · cases hc
   · cases hc
 · cases hc
def bmB (K:ck):Bool:=match HB K t_ "__builtins__" with
 | some (some (.ref bm))=>(match K.lookup bm with
  | some ⟨.type "module",some d,.plain,_⟩=>JQ d builtinsNs && !JQ bm builtinsNs && !JQ bm t_
  | _=>false)
 | _=>false
theorem DE (XI:K.In h) (Gn:h.Ns t_ mg) (hb:bmB K=true):AR K mg:=by
 unfold bmB at hb
 split at hb
 · rename_i bm e1
   split at hb
   · rename_i d sl e2
     simp only [k_,Go] at hb
     have h1:d=builtinsNs:=GB hb.1.1
     subst h1
     exact ⟨bm,_,IL XI Gn e1,Hc hb.1.2,Hc hb.2,e2,rfl,rfl,rfl⟩
   · cases hb
 · cases hb
end
section
variable {X:Cx} {T:bI} {C:yC} {k' n:Nat} {Pt:Addr} {q x:Str} {p pos kp lpos:Pos} {e:Expr} {es:List Expr} {F:List Dv→Option (Rs Dv)} {g:FnA} {N ps:List Str} {args:Arguments} {body:Expr} {scope:Scope} {fb:FnE}
theorem sF (k:Nat) (ps:List Str) (F:List Dv→Option (Rs Dv)) (h:B1 X.prog X.w X.K X.mg X.base Pt q x k ps F) (hT:TBL Pt q X.H₀) (hr:Room k' X.A) (hk:k≤k') (hg:Gl X x) (ha:FA X (e :: es) g) (hn:n=ps.length:=by kernel_rfl) (hdb:(x == ("__debug__":Str))=false:=by kernel_rfl)
 (he:e_ (e :: es) X.env=(false,eval e X.env) :: e_ es X.env:=by kernel_rfl) (hpl:(F0 pos (e_ es X.env)).any (·.1)=false:=by kernel_rfl) :
 FE X (.Call (.Name x p) (e :: es) [] pos) (ac F n g):=by
 subst hn
 obtain ⟨f,fd,G,hm,hkp,hb⟩:=h
 refine ⟨fun pins s σ H Q I ⟨ρ,E,o⟩=>qz (G.mono hk) hr hg hm hkp hb .nil zk ha.h hdb he hpl pins s σ H Q I ⟨ρ,E,OutA.bind o fun ds vs H' e rs o1=>?_⟩⟩
 show spT Pt q X.K F ps.length (vs ++ []) H' Q E0
 rw [IT]
 refine ⟨(hT.now I).mono e,?_⟩
 split at o1
 · rename_i hl
   refine ⟨ds,rs,hl,?_⟩
   match hF:F ds with
   | some (.ok d)=>rw [hF] at o1; exact o1
   | none=>rw [hF] at o1; exact o1.elim
   | some (.exc _)=>rw [hF] at o1; exact o1.elim
 · exact o1.elim
theorem sG (hT:HAT X.prog X.w X.K X.mg X.base Pt q T) (hB:TBL Pt q X.H₀) (hr:Room k' X.A) (hF:(T.lookup x).map (fun q=>q.2.2)=some F) (ha:FA X (e :: es) g) (hk:((T.lookup x).all fun q=>Nat.ble q.1 k' && JQ n q.2.1.length)=true:=by kernel_rfl) (hg:X.env.kindOf x=some .globalImplicit:=by kernel_rfl) (hdb:(x == ("__debug__":Str))=false:=by kernel_rfl)
 (he:e_ (e :: es) X.env=(false,eval e X.env) :: e_ es X.env:=by kernel_rfl) (hpl:(F0 pos (e_ es X.env)).any (·.1)=false:=by kernel_rfl) :
 FE X (.Call (.Name x p) (e :: es) [] pos) (ac F n g):=by
 cases hq:T.lookup x with
 | none=>rw [hq] at hF; cases hF
 | some q =>
  rw [hq] at hF hk
  cases hF
  rw [M9,k_] at hk
  exact sF q.1 q.2.1 q.2.2 (hT.h x q hq) hB hr (JF hk.1) hg ha (GB hk.2) hdb he hpl
theorem sH (hT:TBL Pt q X.H₀) (hC:lS X.K X.env.code Pt) (hB:AR X.K X.mg) (hM:MA X.mg C) (hr:Room k' X.A) (ha:FA X [e] g)
 (hb:∀ (f c:Addr) (A:q_) (outer:List Env) (s:Shared) (H:Hp) (E:XK),Room 1 (A.deeper (II q scope s.heap.objs.size f (.ref c)))→FE (mH CX0 X.prog X.w X.K X.mg X.base N q scope f (.ref c) A outer s H E) body fb)
 (hk:Nat.ble 4 k'=true:=by kernel_rfl) (hg:X.env.kindOf (a_ "sorted")=some .globalImplicit:=by kernel_rfl) (hm:C.lookup (a_ "sorted")=some none:=by kernel_rfl) (hs:fnB N N scope=true:=by kernel_rfl) (hN:JQ N.length 1=true:=by kernel_rfl)
 (hbd:∀ (pm ctv:Value) (c:Addr) (u:Value),LF (LH "<lambda>" q args body scope [] pm (.ref c) ctv) ⟨[u],[]⟩=pure (N.zip [u]):=by intros; kernel_rfl) (hcl:HH scope X.env=pure []:=by kernel_rfl) (hdef:defaultsOf args X.env=([],[]):=by kernel_rfl) (hq:X.env.qual ++ "<lambda>"=q:=by kernel_rfl)
 (he:F0 pos (e_ [e] X.env)=(false,eval e X.env) :: F0 pos (e_ [] X.env):=by kernel_rfl)
 (hplain:(F0 pos (e_ [e] X.env)).any (·.1)=false:=by kernel_rfl)
 (hall:(Ii pos (GY [⟨some "key",.Lambda args body scope lpos,kp⟩] X.env)).all (·.1.isSome)=true:=by kernel_rfl)
 (hkw:(Ii pos (GY [⟨some "key",.Lambda args body scope lpos,kp⟩] X.env)).any (·.1.isNone)=false:=by kernel_rfl)
 (hnm:(Ii pos (GY [⟨some "key",.Lambda args body scope lpos,kp⟩] X.env)).filterMap (·.1)=[a_ "key"]:=by kernel_rfl) :
 FE X (.Call (.Name "sorted" p) [e] [⟨some "key",.Lambda args body scope lpos,kp⟩] pos) (fB1 (pM (yD 1 fb)) g) :=
 uW hT hC hB hr (JF hk) hg (hM.no hm) ha (BY hs) (GB hN) (GB hN) hb hbd hcl hdef hq he hplain hall hkw hnm
end
end FD
namespace FD
open PySem PySem.Spec PyProof.Rows L2
theorem sI {P:Program} {w:uk} {K:ck} {mg mb:Str→Option Value} {CX:CXT} {k:Nat} {fa a Pt:Addr} {qn:Str} {fd:Gp} {x:Str} {sp:Sp} {s₁:Shared} {vs:List Value} {ns:List Int}
 (KX:K.In s₁.heap) (hns:s₁.heap.Ns t_ mg) (hb:s₁.heap.Ns builtinsNs mb) (hbb:∀ x:Str,x≠"__name__"→mb x=GF x) (hlim:s₁.heap.NoLimit) (hg:s₁.gens=#[])
 (ha:s₁.heap.get? a=some { cls:=.type "list",data:=.seq vs.toArray }) (hi:KG vs ns) (hl:ns.length≤sizeLine) (hr:Room k IR)
 (hPt:s₁.heap.get? Pt=some { cls:=.none,data:=.fields #[] }) (hct:LD s₁.heap Pt) (hKP:K.lookup Pt=none)
 (F:∀ base:Heap,K.In base→base.Ns t_ mg→FnOk P w K mg base CX k fa fd [x] sp) (hbind:∀ (s:Shared) (u:Value),Ke s fd ⟨[u],[]⟩ [(x,u)])
 (hsp:∀ H:Hp,SqL K H a (ns.map V.int)→TBL Pt qn H→sp [.ref a] H (fun v _=>v=.bl true) fun _ _ _=>False)
 (hCX:∀ H e s',CX [] H s₁ (fun _ _ _=>False) e s'→False) :
 HZ (o_ P w) IR (.call (.ref fa) ⟨[.ref a],[]⟩) (fun r s'=>r=.ok (.ret (.bool true))∧OldK s₁.heap s'.heap∧s'.os=s₁.os∧Ju s'.gens) s₁:=by
 have rv:=c0 hi
 have lenV:=hi.length
 have haP:a≠Pt:=fun z=>by rw [z,hPt] at ha; cases ha
 have core:∀ H:Hp,H Pt=some (.tbl #[.str qn 0])→(∀ b,b≠Pt→H b=none∨∃ o xs,H b=some (.frz o (.lst xs)))→SqL K H a (ns.map V.int)→HOk P w H s₁.heap→(∀ b,H b≠none→b=a∨b=Pt)→(H a≠none→K.lookup a=none) →
  HZ (o_ P w) IR (.call (.ref fa) ⟨[.ref a],[]⟩) (fun r s'=>r=.ok (.ret (.bool true))∧OldK s₁.heap s'.heap∧s'.os=s₁.os∧Ju s'.gens) s₁:=by
  intro H hT hO hS hok hA hK
  have base_of:∀ {b:Addr} {o:Obj},s₁.heap.get? b=some o→H b=none→(nO s₁.heap H).get? b=some o:=fun e n=>nQ e n
  have noA:∀ {b:Addr} {o:Obj} {es:Array DictEntry} {ep:Nat},s₁.heap.get? b=some o→o.data=.dict es ep→H b=none:=fun {b o es ep} e d=>by
   cases q:H b with
   | none=>rfl
   | some u =>
    rcases hA b (by rw [q]; simp) with rfl | rfl
    · rw [ha] at e; cases e
      have d':Data.seq vs.toArray _=IB es ep:=d
      cases d'
    · rw [hPt] at e; cases e
      have d':LO #[]=IB es ep:=d
      cases d'
  have nsK:∀ {b:Addr} {m:Str→Option Value},s₁.heap.Ns b m→(nO s₁.heap H).Ns b m:=fun {b m} ⟨o,es,ep,e,d,r⟩=>⟨o,es,ep,base_of e (noA e d),d,r⟩
  have hKb:K.In (nO s₁.heap H):=fun b o e=>base_of (KX b o e) (by
   cases q:H b with
   | none=>rfl
   | some u =>
    rcases hA b (by rw [q]; simp) with rfl | rfl
    · rw [hK (by rw [q]; simp)] at e; cases e
    · rw [hKP] at e; cases e)
  have hM:Mod K mg (nO s₁.heap H):=⟨hKb,nsK hns,⟨mb,nsK hb,hbb⟩,let ⟨mc,h1,h2⟩:=hlim; ⟨mc,nsK h1,h2⟩⟩
  have e0:Env0 P w K mg (nO s₁.heap H) IR [] s₁ H:=⟨rfl,hM,fun b o e=>qb e,Ig (kN _ _),trivial,fun b hb=>absurd (show b∈([]:List Addr) from hb) (by simp),hok,.of_eq hg⟩
  refine G5 ((F _ hKb (nsK hns)).run IR [] s₁ H ⟨[.ref a],[]⟩ [.ref a] [.ref a] _ _ hr e0 (hbind s₁ (.ref a)) (.cons rfl .nil) (hsp H hS ⟨_,0,hT,rfl⟩)) fun r s' h=>?_
  cases r with
  | error e=>exact (hCX H e s' h).elim
  | ok fl =>
   cases fl with
   | next=>exact Gd h
   | brk=>exact Gd h
   | cont=>exact Gd h
   | ret u =>
    obtain ⟨v,H',os,bare,un,hok',r',q⟩:=h
    have q':v=.bl true:=q
    subst q'
    obtain rfl:u=GA true:=r'
    have kp:∀ b o,b≠Pt→s₁.heap.get? b=some o→s'.heap.get? b=some o:=fun b o hbP e=>by
     cases q:H b with
     | none=>exact un.keep b o e q (by intro z; exact absurd (show b∈([]:List Addr) from z) (by simp)) (by simp)
     | some u =>
      rcases hO b hbP with z | ⟨ob,xs,z⟩
      · rw [q] at z; cases z
      · have z2:=un.frzs b ob _ z
        obtain ⟨e1,_⟩:=hok b _ z
        obtain ⟨e2,_⟩:=hok' b _ z2
        rw [e] at e1; cases e1
        exact e2
    obtain ⟨more,hT'⟩:=un.tbls Pt _ hT
    obtain ⟨qs,eq',_⟩:=hok' Pt _ hT'
    refine ⟨rfl,⟨fun b o e=>?_,fun b o e=>?_⟩,os,bare⟩
    · by_cases hbP:b=Pt
      · subst hbP
        rw [hPt] at e
        cases e
        exact .inr (.inl ⟨hct,rfl,#[],qs,rfl,by rw [eq']; simp⟩)
      · exact .inl (kp b o hbP e)
    · by_cases hbP:b=Pt
      · subst hbP
        exact ⟨_,eq'⟩
      · exact ⟨o,kp b o hbP e⟩
 have okT:∀ H:Hp,ObjOk P w H s₁.heap Pt (.tbl #[.str qn 0]):=fun H=>⟨#[],hPt,trivial,fun pos v hv=>by cases hv⟩
 cases hk:K.lookup a with
 | some o =>
  have e:=KX a o hk
  rw [ha] at e
  cases e
  refine core (fun b=>if b=Pt then some (.tbl #[.str qn 0]) else none) (if_pos rfl) (fun b hb=>.inl (if_neg hb)) (.inr ⟨_,vs.toArray,_,hk,rfl,rfl,rfl,by rw [v_,lenV]; exact hl,by simpa using rv⟩) (fun b u z=>?_) (fun b z=>?_) fun z=>absurd (if_neg haP) z
  · by_cases hb:b=Pt
    · have z':=(if_pos hb).symm.trans z
      cases z'
      subst hb
      exact okT _
    · have z':=(if_neg hb).symm.trans z
      cases z'
  · by_cases hb:b=Pt
    · exact .inr hb
    · exact absurd (if_neg hb) z
 | none =>
  refine core (fun b=>if b=Pt then some (.tbl #[.str qn 0]) else if b=a then some (.frz { cls:=.type "list",data:=.seq vs.toArray } (.lst (ns.map V.int))) else none) (if_pos rfl) (fun b hb=>?_) (.inl (.inr ⟨{ cls:=.type "list",data:=.seq vs.toArray },(if_neg haP).trans (if_pos rfl)⟩)) (fun b u z=>?_) (fun b z=>?_) fun _=>hk
  · by_cases hba:b=a
    · exact .inr ⟨_,_,by rw [if_neg hb,if_pos hba]⟩
    · exact .inl (by rw [if_neg hb,if_neg hba])
  · by_cases hb:b=Pt
    · have z':=(if_pos hb).symm.trans z
      cases z'
      subst hb
      exact okT _
    · have z1:=(if_neg hb).symm.trans z
      by_cases hba:b=a
      · have z':=(if_pos hba).symm.trans z1
        cases z'
        subst hba
        exact ⟨ha,by rw [y_]; exact hl,vs,_,rv,ha⟩
      · have z':=(if_neg hba).symm.trans z1
        cases z'
  · by_cases hb:b=Pt
    · exact .inr hb
    · by_cases hba:b=a
      · exact .inl hba
      · exact absurd (by rw [if_neg hb,if_neg hba]) z
theorem uX {l:J4} {n k:Nat} {q:Program} {loose:List Str} {XP:(Str→Option Value)→Heap→Prop} {YP:uk→Heap→Prop} {d:DefRec} {K:JJ→ck} {CX:uk→CXT} {sp:uk→Sp} {x:Str} {Pt:Addr} {qn:Str}
 (hn:l.most=some n) (hn2:n≤sizeLine) (hdf:d.params.defaults=[]) (hr:Room k IR)
 (hY:∀ (w:uk) (h:Heap),YP w h→(K w.params).In h) (hYT:∀ (w:uk) (h:Heap),YP w h→h.get? Pt=some { cls:=.none,data:=.fields #[] }∧LD h Pt∧(K w.params).lookup Pt=none)
 (F:∀ (w:uk) (mg:Str→Option Value) (fa:Addr) (h:Heap),(K w.params).In h→h.Ns t_ mg→mg d.name=some (.ref fa) →
   ∃ fd:Gp,(∀ (s:Shared) (u:Value),Ke s fd ⟨[u],[]⟩ [(x,u)]) ∧
    ∀ base:Heap,(K w.params).In base→base.Ns t_ mg→FnOk l.prog w (K w.params) mg base (CX w) k fa fd [x] (sp w))
 (hsp:∀ (w:uk) (H:Hp) (a:Addr) (ns:List Int),ns.length≤n→SqL (K w.params) H a (ns.map V.int)→TBL Pt qn H→sp w [.ref a] H (fun v _=>v=.bl true) fun _ _ _=>False)
 (hCX:∀ (w:uk) (H:Hp) (s:Shared) (e:Value) (s':Shared),CX w [] H s (fun _ _ _=>False) e s'→False) :
 Mc q loose XP YP l.row.toRowW d [] (fun f vs=>Mm f vs):=by
 refine Att.attach_call hn hdf fun w s₀ s₁ mg mb fa o pm cd doc a vs ns G Y ho hd hcd hmg hobj hints hlen hg=>?_
 have KX:=hY w _ Y
 obtain ⟨fd,hb,hF⟩:=F w mg fa _ KX G.T.g hmg
 obtain ⟨t1,t2,t3⟩:=hYT w _ Y
 exact sI KX G.T.g G.T.b G.T.builtins G.T.nolimit hg hobj hints (FH hlen hn2) hr t1 t2 t3 hF hb (fun H hS hT=>hsp w H a ns hlen hS hT) fun H e s'=>hCX w H s₁ e s'
theorem iY {i:Nat} {js:List Nat} {body:FnS} {ρ:Ev}:∀ {ds:List Dv},(∀ d∈ds,∃ ρ',body (ρ.set i (some d))=some (.nx ρ')∧fgt js ρ'=ρ)→∀ ρ0,fgt js ρ0=ρ→fq i js body ds ρ0=some (.nx ρ)
 | [],_,ρ0,e=>by unfold fq; rw [e]
 | d :: ds,h,ρ0,e=>by
  obtain ⟨ρ',h1,h2⟩:=h d g_
  unfold fq
  rw [e,h1]
  exact iY (fun d' hd=>h d' (ge _ hd)) ρ' h2
theorem ci {α:Type} {p:α→Bool} {l:List α} (h:l.all p=true) {x:α} (hx:x∈l):p x=true:=Gz.mp h x hx
end FD
namespace G
open PySem PySem.Spec PyProof.Rows L2 FD
def top (i:Nat):Stmt:=PySem.Challenge.pw_notejar_k34_whole_looking.main.body.getD i (.Pass ⟨0,0,0,0⟩)
section
variable {X:Cx} {a b c o e:Expr} {es:List Expr} {fa fb fc fo:FnE} {ga:FnA} {pos p pt apos cpos:Pos}
theorem AT (ha:FE X a fa) (hb:FE X b fb):FE X (.BinOp a .Add b pos) (f2 dM fa fb):=pC o_add zL ha hb
theorem AU (ha:FE X a fa) (hb:FE X b fb):FE X (.BinOp a .Add b pos) (f2 cq fa fb):=pC Ad Ae ha hb
theorem AV (ha:FE X a fa) (hb:FE X b fb):FE X (.BinOp a .Sub b pos) (f2 wE fa fb):=pC yZ CL ha hb
theorem AW (ha:FE X a fa) (hb:FE X b fb):FE X (.BinOp a .Mult b pos) (f2 fR fa fb):=pC y0 CM ha hb
theorem AX (ha:FE X a fa) (hb:FE X b fb):FE X (.BinOp a .Mod b pos) (f2 fL fa fb):=pC y3 CN ha hb
theorem xJ (ha:FE X a fa) (hb:FE X b fb):FE X (.BinOp a .FloorDiv b pos) (f2 fT fa fb):=pC wc zM ha hb
theorem AY (hu:X.A.units + 64 < cLine) (ha:FE X a fa) (hb:FE X b fb) (hm:Fz .Eq b=false:=by kernel_rfl):FT X (.Compare a [.Eq] [b] pos) (fB (f2 eqX fa fb)):=fP (zW hu) zX ha hb hm
theorem AZ (hu:X.A.units + 64 < cLine) (ha:FE X a fa) (hb:FE X b fb) (hm:Fz .NotEq b=false:=by kernel_rfl):FT X (.Compare a [.NotEq] [b] pos) (fB (f2 neX fa fb)):=fP (C1 hu) C2 ha hb hm
theorem A0 (ha:FE X a fa) (hb:FE X b fb) (hm:Fz .Lt b=false:=by kernel_rfl):FT X (.Compare a [.Lt] [b] pos) (fB (f2 ltX fa fb)):=fP zY zZ ha hb hm
theorem Ba (ha:FE X a fa) (hb:FE X b fb) (hm:Fz .Gt b=false:=by kernel_rfl):FT X (.Compare a [.Gt] [b] pos) (fB (f2 gtD fa fb)):=fP Cp (CP _) ha hb hm
theorem Bb (ha:FE X a fa) (hb:FE X b fb) (hm:Fz .Is b=false:=by kernel_rfl):FT X (.Compare a [.Is] [b] pos) (fB (f2 isN fa fb)):=fP vq zO ha hb hm
theorem xK (hu:X.A.units < cLine) (ha:FE X a fa) (hb:FE X b fb) (hm:Fz .Eq b=false:=by kernel_rfl):FT X (.Compare a [.Eq] [b] pos) (fB (f2 BR fa fb)):=fP (CZ hu) C0 ha hb hm
theorem Bc (ha:FE X a fa) (hb:FE X b fb) (hm:Fz .In b=false:=by kernel_rfl):FT X (.Compare a [.In] [b] pos) (fB (f2 inD fa fb)):=fP o_in CS ha hb hm
theorem Bd (hu:X.A.units + 64 < cLine) (ha:FE X a fa) (hb:FE X b fb) (hm:Fz .In b=false:=by kernel_rfl):FT X (.Compare a [.In] [b] pos) (fB (f2 inX fa fb)):=fP (C9 hu) Da ha hb hm
theorem sJ (hu:X.A.units + 64 < cLine) (ha:FE X a fa) (hb:FE X b fb) (hm:Fz .NotIn b=false:=by kernel_rfl):FT X (.Compare a [.NotIn] [b] pos) (fB (f2 dU fa fb)):=fP (ux hu) uy ha hb hm
theorem Be (hu:X.A.units + 64 < cLine) (ha:FE X a fa) (hb:FE X b fb) (hm:Fz .Eq b=false:=by kernel_rfl):FE X (.Compare a [.Eq] [b] pos) (f2 eqX fa fb):=iG (zW hu) zX ha hb hm
theorem Bf (ha:FE X a fa) (hb:FE X b fb) (hm:Fz .Lt b=false:=by kernel_rfl):FE X (.Compare a [.Lt] [b] pos) (f2 ltX fa fb):=iG zY zZ ha hb hm
theorem Bg (ha:FE X a fa) (hb:FE X b fb) (hm:Fz .LtE b=false:=by kernel_rfl):FE X (.Compare a [.LtE] [b] pos) (f2 leX fa fb):=iG De Df ha hb hm
theorem Bh (ha:FE X a fa) (hb:FE X b fb) (hm:Fz .Is b=false:=by kernel_rfl):FE X (.Compare a [.Is] [b] pos) (f2 isN fa fb):=iG vq zO ha hb hm
theorem xL (ha:FE X a fa) (hb:FE X b fb) (hm:Fz .IsNot b=false:=by kernel_rfl):FE X (.Compare a [.IsNot] [b] pos) (f2 mB fa fb):=iG we zP ha hb hm
theorem Bi (ha:FE X a fa) (hb:FE X b fb) (hm:Fz .In b=false:=by kernel_rfl):FE X (.Compare a [.In] [b] pos) (f2 inD fa fb):=iG o_in CS ha hb hm
theorem sK (ha:FE X a fa) (hb:FE X b fb) (hm:Fz .NotIn b=false:=by kernel_rfl):FE X (.Compare a [.NotIn] [b] pos) (f2 k6 fa fb):=iG o_notIn qR ha hb hm
theorem Bj (hm:X.mg "isinstance"=none) (hn:X.mg "int"=none) (ha:FE X a fa) (hg:X.env.kindOf (a_ "isinstance")=some .globalImplicit:=by kernel_rfl) (hg2:X.env.kindOf (a_ "int")=some .globalImplicit:=by kernel_rfl) (hs1:e_ [a,.Name (a_ "int") pt] X.env=(false,eval a X.env) :: e_ [.Name (a_ "int") pt] X.env:=by kernel_rfl) (hs2:e_ [.Name (a_ "int") pt] X.env=(false,eval (.Name (a_ "int") pt) X.env) :: e_ [] X.env:=by kernel_rfl) (hpl:(F0 pos (e_ [.Name (a_ "int") pt] X.env)).any (·.1)=false:=by kernel_rfl):FE X (.Call (.Name "isinstance" p) [a,.Name (a_ "int") pt] [] pos) (f1 (dE dX) fa):=k8 (T:="int") xa An (by decide +kernel) (by kernel_rfl) hg hm hg2 hn ha hs1 hs2 hpl
theorem Bk (hm:X.mg "isinstance"=none) (hn:X.mg "str"=none) (ha:FE X a fa) (hg:X.env.kindOf (a_ "isinstance")=some .globalImplicit:=by kernel_rfl) (hg2:X.env.kindOf (a_ "str")=some .globalImplicit:=by kernel_rfl) (hs1:e_ [a,.Name (a_ "str") pt] X.env=(false,eval a X.env) :: e_ [.Name (a_ "str") pt] X.env:=by kernel_rfl) (hs2:e_ [.Name (a_ "str") pt] X.env=(false,eval (.Name (a_ "str") pt) X.env) :: e_ [] X.env:=by kernel_rfl) (hpl:(F0 pos (e_ [.Name (a_ "str") pt] X.env)).any (·.1)=false:=by kernel_rfl):FE X (.Call (.Name "isinstance" p) [a,.Name (a_ "str") pt] [] pos) (f1 (dE dN) fa):=k8 (T:="str") wJ zT (by decide +kernel) (by kernel_rfl) hg hm hg2 hn ha hs1 hs2 hpl
theorem uY (hm:X.mg "isinstance"=none) (hn:X.mg "tuple"=none) (ha:FE X a fa) (hg:X.env.kindOf (a_ "isinstance")=some .globalImplicit:=by kernel_rfl) (hg2:X.env.kindOf (a_ "tuple")=some .globalImplicit:=by kernel_rfl) (hs1:e_ [a,.Name (a_ "tuple") pt] X.env=(false,eval a X.env) :: e_ [.Name (a_ "tuple") pt] X.env:=by kernel_rfl) (hs2:e_ [.Name (a_ "tuple") pt] X.env=(false,eval (.Name (a_ "tuple") pt) X.env) :: e_ [] X.env:=by kernel_rfl) (hpl:(F0 pos (e_ [.Name (a_ "tuple") pt] X.env)).any (·.1)=false:=by kernel_rfl):FE X (.Call (.Name "isinstance" p) [a,.Name (a_ "tuple") pt] [] pos) (f1 (dE du) fa):=k8 (T:="tuple") wK uh (by decide +kernel) (by kernel_rfl) hg hm hg2 hn ha hs1 hs2 hpl
theorem xM (hm:X.mg "isinstance"=none) (hn:X.mg "bool"=none) (ha:FE X a fa) (hg:X.env.kindOf (a_ "isinstance")=some .globalImplicit:=by kernel_rfl) (hg2:X.env.kindOf (a_ "bool")=some .globalImplicit:=by kernel_rfl) (hs1:e_ [a,.Name (a_ "bool") pt] X.env=(false,eval a X.env) :: e_ [.Name (a_ "bool") pt] X.env:=by kernel_rfl) (hs2:e_ [.Name (a_ "bool") pt] X.env=(false,eval (.Name (a_ "bool") pt) X.env) :: e_ [] X.env:=by kernel_rfl) (hpl:(F0 pos (e_ [.Name (a_ "bool") pt] X.env)).any (·.1)=false:=by kernel_rfl):FE X (.Call (.Name "isinstance" p) [a,.Name (a_ "bool") pt] [] pos) (f1 (dE bH) fa):=k8 (T:="bool") ug wN (by decide +kernel) (by kernel_rfl) hg hm hg2 hn ha hs1 hs2 hpl
theorem xN (hm:X.mg "isinstance"=none) (hn:X.mg "list"=none) (ha:FE X a fa) (hg:X.env.kindOf (a_ "isinstance")=some .globalImplicit:=by kernel_rfl) (hg2:X.env.kindOf (a_ "list")=some .globalImplicit:=by kernel_rfl) (hs1:e_ [a,.Name (a_ "list") pt] X.env=(false,eval a X.env) :: e_ [.Name (a_ "list") pt] X.env:=by kernel_rfl) (hs2:e_ [.Name (a_ "list") pt] X.env=(false,eval (.Name (a_ "list") pt) X.env) :: e_ [] X.env:=by kernel_rfl) (hpl:(F0 pos (e_ [.Name (a_ "list") pt] X.env)).any (·.1)=false:=by kernel_rfl):FE X (.Call (.Name "isinstance" p) [a,.Name (a_ "list") pt] [] pos) (f1 (dE ri) fa):=k8 (T:="list") xt xE (by decide +kernel) (by kernel_rfl) hg hm hg2 hn ha hs1 hs2 hpl
theorem kj (ho:FE X o fo) (ha:FA X (e :: es) ga) (h:SmL X o "startswith" e es apos cpos:=by exact ⟨by kernel_rfl,by kernel_rfl,by kernel_rfl,by kernel_rfl,by kernel_rfl⟩):FE X (.Call (.Attribute o "startswith" apos) (e :: es) [] cpos) (fM (p0 HU) fo ga):=sA PySem.F.slot_str_startswith PySem.F.type_str_startswith CW vC ho ha h
theorem mY (ho:FE X o fo) (ha:FA X (e :: es) ga) (h:SmL X o "endswith" e es apos cpos:=by exact ⟨by kernel_rfl,by kernel_rfl,by kernel_rfl,by kernel_rfl,by kernel_rfl⟩):FE X (.Call (.Attribute o "endswith" apos) (e :: es) [] cpos) (fM (p0 Kc) fo ga):=sA PySem.F.slot_str_endswith PySem.F.type_str_endswith CY vC ho ha h
theorem uZ (ho:FE X o fo) (ha:FA X (e :: es) ga) (h:SmL X o "split" e es apos cpos:=by exact ⟨by kernel_rfl,by kernel_rfl,by kernel_rfl,by kernel_rfl,by kernel_rfl⟩):FE X (.Call (.Attribute o "split" apos) (e :: es) [] cpos) (fM (lb) fo ga):=sA Jj PySem.F.type_str_split ui wO ho ha h
theorem xO (ho:FE X o fo) (ha:FA X (e :: es) ga) (h:SmL X o "join" e es apos cpos:=by exact ⟨by kernel_rfl,by kernel_rfl,by kernel_rfl,by kernel_rfl,by kernel_rfl⟩):FE X (.Call (.Attribute o "join" apos) (e :: es) [] cpos) (fM (uj) fo ga):=sA PySem.F.slot_str_join PySem.F.type_str_join wP z4 ho ha h
theorem lT (ho:FE X o fo) (ha:FA X (e :: es) ga) (h:SmL X o "partition" e es apos cpos:=by exact ⟨by kernel_rfl,by kernel_rfl,by kernel_rfl,by kernel_rfl,by kernel_rfl⟩):FE X (.Call (.Attribute o "partition" apos) (e :: es) [] cpos) (fM (ul) fo ga):=sA KY PySem.F.type_str_partition wQ z6 ho ha h
end
local macro_rules | `(tactic| walk_at "x")=>`(tactic| (first
 | with_reducible refine sH (N:=["note"]) (by with_unfolding_all assumption) (by with_unfolding_all assumption) (by with_unfolding_all assumption) (by with_unfolding_all assumption) (by with_unfolding_all assumption) ?_ ?_
 | with_reducible exact vy
 | with_reducible refine qI ?_ ?_
 | with_reducible exact CB _ (by kernel_rfl) (by kernel_rfl!)
 | with_reducible exact CF _ (by kernel_rfl) (by kernel_rfl!)
 | with_reducible exact zo
 | with_reducible exact zq
 | with_reducible exact CG
 | with_reducible exact zp
 | with_reducible exact Dr (by with_unfolding_all assumption) (by kernel_rfl!)
 | with_reducible exact Ds (by with_unfolding_all assumption) (by kernel_rfl!)
 | with_reducible refine AM ?_ ?_
 | with_reducible refine zC ?_
 | with_reducible refine zB ?_
 | with_reducible refine uP (by with_unfolding_all assumption) (by with_unfolding_all assumption) (by kernel_rfl!) ?_
 | with_reducible refine sG (by with_unfolding_all assumption) (by with_unfolding_all assumption) (by with_unfolding_all assumption) (by kernel_rfl!) ?_
 | with_reducible refine zw ?_
 | with_reducible refine zx ?_ ?_
 | with_reducible refine CH ?_ ?_
 | with_reducible refine zy ?_
 | with_reducible refine zN ?_
 | with_reducible refine AT ?_ ?_
 | with_reducible refine AU ?_ ?_
 | with_reducible refine AV ?_ ?_
 | with_reducible refine AW ?_ ?_
 | with_reducible refine AX ?_ ?_
 | with_reducible refine xJ ?_ ?_
 | with_reducible refine AY ?_ ?_ ?_
 | with_reducible refine AZ ?_ ?_ ?_
 | with_reducible refine A0 ?_ ?_
 | with_reducible refine Ba ?_ ?_
 | with_reducible refine Bb ?_ ?_
 | with_reducible refine xK ?_ ?_ ?_
 | with_reducible refine Bc ?_ ?_
 | with_reducible refine Bd ?_ ?_ ?_
 | with_reducible refine sJ ?_ ?_ ?_
 | with_reducible refine Be ?_ ?_ ?_
 | with_reducible refine Bf ?_ ?_
 | with_reducible refine Bg ?_ ?_
 | with_reducible refine Bh ?_ ?_
 | with_reducible refine xL ?_ ?_
 | with_reducible refine Bi ?_ ?_
 | with_reducible refine sK ?_ ?_
 | with_reducible refine FW.ft (vx ?_ ?_)
 | with_reducible refine FW.ft (zu ?_ ?_)
 | with_reducible refine vx ?_ ?_
 | with_reducible refine zu ?_ ?_
 | with_reducible refine ww ?_
 | with_reducible refine zt ?_
 | with_reducible refine zv ?_
 | with_reducible refine zr ?_
 | with_reducible refine zQ ?_ ?_ ?_
 | with_reducible refine wU ?_ ?_ ?_
 | with_reducible exact wG
 | with_reducible refine wH ?_
 | with_reducible refine Dt ?_ ?_ ?_
 | with_reducible refine Du ?_ ?_ ?_
 | with_reducible refine Dy ?_ ?_ ?_
 | with_reducible exact uQ
 | with_reducible refine uR ?_
 | with_reducible intro _ _ _ _
 | with_reducible refine rK ?_ (by kernel_rfl) (glb (by kernel_rfl)) ?_ (glb (by kernel_rfl)) ?_ ?_
 | with_reducible refine mX ?_ (by kernel_rfl) (glb (by kernel_rfl)) ?_ (glb (by kernel_rfl)) ?_ ?_
 | with_reducible refine pH (by kernel_rfl) (glb (by kernel_rfl)) ?_ (glb (by kernel_rfl)) ?_ ?_
 | with_reducible refine uO ?_ (glb (by kernel_rfl)) ?_ ?_
 | with_reducible refine zR (glb (by kernel_rfl)) ?_ ?_
 | with_reducible refine um (glb (by kernel_rfl)) ?_ ?_
 | with_reducible refine zS (by kernel_rfl) (glb (by kernel_rfl)) ?_ ?_
 | with_reducible refine Bj ?_ ?_ ?_
 | with_reducible refine Bk ?_ ?_ ?_
 | with_reducible refine uY ?_ ?_ ?_
 | with_reducible refine xM ?_ ?_ ?_
 | with_reducible refine xN ?_ ?_ ?_
 | with_reducible refine kj ?_ ?_
 | with_reducible refine mY ?_ ?_
 | with_reducible refine uZ ?_ ?_
 | with_reducible refine xO ?_ ?_
 | with_reducible refine lT ?_ ?_
 | with_reducible refine ut ?_ ?_
 | with_reducible refine uq ?_ ?_
 | with_reducible refine qK (glb (by kernel_rfl)) ?_ ?_
 | with_reducible refine qM (glb (by kernel_rfl)) ?_ ?_
 | with_reducible refine zH ?_
 | with_reducible refine ur (glb (by kernel_rfl)) ?_ ?_
 | with_reducible refine FI.toG ?_
 | with_reducible exact wx
 | with_reducible refine wy ?_
 | with_reducible refine uS ?_ ?_
 | with_reducible refine ua ?_ ?_
 | with_reducible refine zD ?_
 | with_reducible refine CI ?_ ?_ ?_
 | with_reducible exact ub
 | with_reducible refine wz ?_
 | with_reducible refine Dx ?_ ?_ ?_ (by kernel_rfl!)
 | with_reducible refine Dz ?_ ?_ ?_ (by kernel_rfl!)
 | with_reducible refine xx ?_
 | with_reducible refine xA ?_ ?_ ?_
 | with_reducible refine uT ?_ ?_ ?_
 | with_reducible exact w5
 | with_reducible refine w6 ?_
 | with_reducible refine uz ?_ ?_
 | with_reducible refine Ak ?_
 | with_reducible refine Aj ?_ ?_ ?_
 | with_reducible refine xD ?_ (xC (by kernel_rfl) (by kernel_rfl) (by kernel_rfl) (by kernel_rfl))
 | with_reducible refine xz ?_
 | with_reducible refine xB ?_ ?_ ?_
 | assumption
 | exact MA.no (by assumption) (by kernel_rfl)
 | exact Room.units (by assumption)
 | exact RoomM.units (by assumption)
 | exact Room.units0 (by assumption)
 | exact PassesOwn.never) <;> walk_at "x")
local macro_rules | `(tactic| walk_at "b")=>`(tactic| (intros; (conv=>arg 2; whnf); walk_at "x"))
local macro_rules | `(tactic| walk_at "d")=>`(tactic| (intro _ _ _ _ _ _ us hl; rcases us with _ | ⟨_,_ | ⟨_,_ | ⟨_,_ | ⟨_,_ | ⟨_,_ | ⟨_,_ | ⟨_,_ | ⟨_,us⟩⟩⟩⟩⟩⟩⟩⟩ <;> first | rfl | cases hl))
def CC:yC:=[cN "all",cN "bool",cN "enumerate",cN "int",cN "isinstance",cN "len",cN "list",cN "range",cN "set",cN "sorted",cN "str",cN "tuple",cI "ASK_HOUSE" 1,cI "ASK_ORIGIN" 3,cI "ASK_PARTS" 4,cI "ASK_PATH" 2,cI "ASK_SAFE" 0,cS "FIGURES" "0123456789",cS "LABEL_SIGNS" "abcdefghijklmnopqrstuvwxyz0123456789-",cI "LAST_MOMENT" 9999,cI "LONGEST_LABEL" 8,cI "LONGEST_NOTE_NAME" 10,cI "LONGEST_PATH" 20,cI "LONGEST_WORTH" 12,cI "MOST_ASKS" 9,cI "MOST_LABELS" 5,cI "MOST_NOTES" 20,cI "MOST_RULES" 8,cI "NOTE_ENDS" 5,cI "NOTE_EXACT" 3,cI "NOTE_HOUSE" 2,cI "NOTE_MADE" 8,cI "NOTE_NAME" 0,cS "NOTE_NAME_SIGNS" "abcdefghijklmnopqrstuvwxyzABCDEFGHIJKLMNOPQRSTUVWXYZ0123456789-_",cI "NOTE_PARTS" 10,cI "NOTE_PATH" 4,cI "NOTE_REACH" 7,cI "NOTE_SAFE" 6,cI "NOTE_USED" 9,cI "NOTE_WORTH" 1,cS "NO_WORTH_SIGNS" ";,=",cS "PATH_SIGNS" "abcdefghijklmnopqrstuvwxyz0123456789-_./"]
def qL:Str:="sent.<locals>.<lambda>"
section
variable {P:Program} {w:uk} {K:ck} {mg:Str→Option Value} {base h:Heap} {f:Addr} {Pt:Addr} (XI:K.In h) (Gn:h.Ns t_ mg) (M:MA mg CC) (bi:AR K mg)
include XI Gn M bi
def T0:bI:=[]
def TL0:bI:=[]
def cD:FnS:=(aA (br (fB (f2 BR (ab 0) (cO ag))) (aE (f2 fR (fC (.int 7)) (ab 1))) (fun ρ=>some (.nx ρ))) (aE (f2 dM (f2 ixD (ab 0) (f2 fL (ab 1) (fB1 cP (aa (ab 0) ag)))) (f2 fR (fC (.int 6553)) (f2 fT (ab 1) (fB1 cP (aa (ab 0) ag)))))))
def bP:List Dv→Option (Rs Dv):=aS 2 cD
def T1:bI:=("_law_cell",1,["_law_script","_law_k"],bP) :: T0
theorem lU (A:Af K "_law_cell" (top 92) f) (t:HA P w K mg base T0):HA P w K mg base T1 :=
 aj (ax XI Gn ["_law_script","_law_k"] ["_law_script","_law_k"] cD A (by walk_at "d") (by delta cD; walk_at "b")) t
def bT:FnS:=(aA (bq 3 (f2 fL (f2 dM (f2 fR (f2 fL (ac bP 2 (aa (ab 0) (aa (ab 1) ag))) (fC (.int 2147483563))) (fC (.int 69069))) (f2 fR (fC (.int 104723)) (f2 dM (ab 1) (fC (.int 1))))) (fC (.int 2147483563)))) (aA (bq 3 (f2 fL (f2 dM (f2 fR (ab 3) (ab 3)) (f2 fT (ab 3) (fC (.int 3)))) (fC (.int 2147483399)))) (aE (f2 fL (f2 fT (f2 fL (f2 dM (f2 fR (ab 3) (ab 3)) (f2 fT (ab 3) (fC (.int 7)))) (fC (.int 2147483647))) (fC (.int 11))) (ab 2)))))
def ae:List Dv→Option (Rs Dv):=aS 4 bT
def T2:bI:=("_law_drawn",2,["_law_script","_law_k","_law_many"],ae) :: T1
theorem kl (A:Af K "_law_drawn" (top 93) f) (t:HA P w K mg base T1):HA P w K mg base T2 :=
 aj (ax XI Gn ["_law_script","_law_k","_law_many","_law_cell_here"] ["_law_script","_law_k","_law_many"] bT A (by walk_at "d") (by delta bT; walk_at "b")) t
def fF:FnS:=(aA (bq 2 (cO (aa (fC (.str "a.b")) (aa (fC (.str "b")) (aa (fC (.str "x.a.b")) (aa (fC (.str "y.x.a.b")) (aa (fC (.str "c.uk")) (aa (fC (.str "uk")) (aa (fC (.str "d.c.uk")) (aa (fC (.str "e.d.c.uk")) ag)))))))))) (aA (bq 2 (f2 dM (ab 2) (cO (aa (fC (.str "w.ck")) (aa (fC (.str "v.w.ck")) (aa (fC (.str "ck")) (aa (fC (.str "g-1.a.b")) (aa (fC (.str "7.b")) (aa (fC (.str "p.q")) ag))))))))) (aE (f2 ixD (ab 2) (ac ae 3 (aa (ab 0) (aa (ab 1) (aa (fB1 cP (aa (ab 2) ag)) ag))))))))
def aG:List Dv→Option (Rs Dv):=aS 3 fF
def T3:bI:=("_law_name",3,["_law_script","_law_at"],aG) :: T2
theorem lV (A:Af K "_law_name" (top 94) f) (t:HA P w K mg base T2):HA P w K mg base T3 :=
 aj (ax XI Gn ["_law_script","_law_at","_law_some"] ["_law_script","_law_at"] fF A (by walk_at "d") (by delta fF; walk_at "b")) t
def fG : FnS := (aA (bq 2 (cO (aa (fC (.str "/")) (aa (fC (.str "/x")) (aa (fC (.str "/x/")) (aa (fC (.str "/x/y")) (aa (fC (.str "/xy")) (aa (fC (.str "/x/y/z.q")) (aa (fC (.str "//")) (aa (fC (.str "/-_.9")) (aa (fC (.str "/x/y/")) ag))))))))))) (aE (f2 ixD (ab 2) (ac ae 3 (aa (ab 0) (aa (ab 1) (aa (fB1 cP (aa (ab 2) ag)) ag)))))))
def bQ:List Dv→Option (Rs Dv):=aS 3 fG
def T4:bI:=("_law_path",3,["_law_script","_law_at"],bQ) :: T3
theorem lW (A:Af K "_law_path" (top 96) f) (t:HA P w K mg base T3):HA P w K mg base T4 :=
 aj (ax XI Gn ["_law_script","_law_at","_law_some"] ["_law_script","_law_at"] fG A (by walk_at "d") (by delta fG; walk_at "b")) t
def dc:FnS:=(aA (bq 2 (f2 ixD (cO (aa (fC .non) (aa (ac aG 2 (aa (ab 0) (aa (f2 dM (ab 1) (fC (.int 3))) ag))) (aa (ac aG 2 (aa (ab 0) (aa (f2 dM (ab 1) (fC (.int 3))) ag))) ag)))) (ac ae 3 (aa (ab 0) (aa (f2 dM (ab 1) (fC (.int 2))) (aa (fC (.int 3)) ag)))))) (aE (dD (aa (f2 eqX (ac ae 3 (aa (ab 0) (aa (ab 1) (aa (fC (.int 2)) ag)))) (fC (.int 0))) (aa (ac aG 2 (aa (ab 0) (aa (f2 dM (ab 1) (fC (.int 1))) ag))) (aa (ac bQ 2 (aa (ab 0) (aa (f2 dM (ab 1) (fC (.int 4))) ag))) (aa (ab 2) ag)))))))
def cj:List Dv→Option (Rs Dv):=aS 3 dc
def T5:bI:=("_law_ask",4,["_law_script","_law_at"],cj) :: T4
theorem mZ (A:Af K "_law_ask" (top 97) f) (t:HA P w K mg base T4):HA P w K mg base T5 :=
 aj (ax XI Gn ["_law_script","_law_at","_law_origin"] ["_law_script","_law_at"] dc A (by walk_at "d") (by delta dc; walk_at "b")) t
def eQ:FnS:=(aE (dD (aa (f2 ixD (ab 0) (fC (.int 0))) (aa (f2 ixD (ab 0) (fC (.int 2))) (aa (f2 ixD (ab 0) (fC (.int 4))) ag)))))
def aH:List Dv→Option (Rs Dv):=aS 1 eQ
def T6:bI:=("_law_key",1,["_law_note"],aH) :: T5
theorem m3 (A:Af K "_law_key" (top 99) f) (t:HA P w K mg base T5):HA P w K mg base T6 :=
 aj (ax XI Gn ["_law_note"] ["_law_note"] eQ A (by walk_at "d") (by delta eQ; walk_at "b")) t
def bF:FnS:=(aA (bq 1 (fM (lb) (ab 0) (aa (fC (.str ".")) ag))) (aE (aN [("parts",1)] (fun ρ=>bnd ((aa (fB1 cP (aa (ab 1) ag)) ag) ρ) iH) none (fM (uj) (fC (.str ".")) (aa (BQ (ab 1) (j7 (ab 0)) k7) ag)))))
def bG:List Dv→Option (Rs Dv):=aS 2 bF
def T7:bI:=("ends_longest_first",1,["name"],bG) :: T6
theorem ei (A:Af K "ends_longest_first" (top 22) f) (t:HA P w K mg base T6):HA P w K mg base T7 :=
 aj (ax XI Gn ["name","parts"] ["name"] bF A (by walk_at "d") (by delta bF; walk_at "b")) t
def bX:FnS:=(aE (f2 ixD (fM (ul) (ab 0) (aa (fC (.str ".")) ag)) (fC (.int 2))))
def bY:List Dv→Option (Rs Dv):=aS 1 bX
def T8:bI:=("behind_first_dot",1,["end"],bY) :: T7
theorem fH (A:Af K "behind_first_dot" (top 23) f) (t:HA P w K mg base T7):HA P w K mg base T8 :=
 aj (ax XI Gn ["end"] ["end"] bX A (by walk_at "d") (by delta bX; walk_at "b")) t
def cW:FnS:=(aA (br (fB (f2 inD (ab 1) (ab 0))) (aE (fC (.bl true))) (fun ρ=>some (.nx ρ))) (aE (gC (f2 inD (fC (.str ".")) (ab 1)) (f2 inD (f2 dM (fC (.str "*.")) (ac bY 1 (aa (ab 1) ag))) (ab 0)))))
def fk:List Dv→Option (Rs Dv):=aS 2 cW
def T9:bI:=("is_told_open",2,["table","end"],fk) :: T8
theorem iZ (A:Af K "is_told_open" (top 24) f) (t:HA P w K mg base T8):HA P w K mg base T9 :=
 aj (ax XI Gn ["table","end"] ["table","end"] cW A (by walk_at "d") (by delta cW; walk_at "b")) t
def de:FnS:=(br (fB (f2 inD (f2 dM (fC (.str "!")) (ab 3)) (ab 0))) (aE (ac bY 1 (aa (ab 3) ag))) (fun ρ=>some (.nx ρ)))
def df:FnS:=(br (fB (ac fk 2 (aa (ab 0) (aa (ab 3) ag)))) (aE (ab 3)) (fun ρ=>some (.nx ρ)))
def cE:FnS:=(aA (bq 2 (ac bG 1 (aa (ab 1) ag))) (aA (tM 3 [] (bM (ab 2)) de) (aA (tM 3 [3] (bM (ab 2)) df) (aE (f2 ixD (ab 2) (f1 yx (fC (.int 1))))))))
def el:List Dv→Option (Rs Dv):=aS 4 cE
def T10:bI:=("find_open_end",3,["table","name"],el) :: T9
theorem ij (A:Af K "find_open_end" (top 25) f) (t:HA P w K mg base T9):HA P w K mg base T10 :=
 aj (ax XI Gn ["table","name","ends","end"] ["table","name"] cE A (by walk_at "d") (by delta cE de df; walk_at "b")) t
def cX:FnS:=(aA (bq 2 (ac el 2 (aa (ab 0) (aa (ab 1) ag)))) (aA (bq 3 (ac bG 1 (aa (ab 1) ag))) (aA (bq 4 (fML C3 (ab 3) (aa (ab 2) ag))) (aA (br (fB (f2 eqX (ab 4) (fC (.int 0)))) (aE (fC .non)) (fun ρ=>some (.nx ρ))) (aE (f2 ixD (ab 3) (f2 wE (ab 4) (fC (.int 1)))))))))
def aV:List Dv→Option (Rs Dv):=aS 5 cX
def T11:bI:=("find_own_end",4,["table","name"],aV) :: T10
theorem i4 (A:Af K "find_own_end" (top 26) f) (t:HA P w K mg base T10):HA P w K mg base T11 :=
 aj (ax XI Gn ["table","name","end","ends","place"] ["table","name"] cX A (by walk_at "d") (by delta cX; walk_at "b")) t
def aB:FnS:=(aA (bq 2 (f2 ixD (ab 1) (fC (.int 1)))) (aA (bq 3 (f2 ixD (ab 1) (fC (.int 3)))) (aA (br (bOr (fB (f2 isN (ab 3) (fC .non))) (fB (f2 eqX (ab 3) (ab 2)))) (aE (fC (.bl true))) (fun ρ=>some (.nx ρ))) (aA (bq 4 (ac aV 2 (aa (ab 0) (aa (ab 2) ag)))) (aE (gC (f2 mB (ab 4) (fC .non)) (f2 eqX (ab 4) (ac aV 2 (aa (ab 0) (aa (ab 3) ag))))))))))
def aw:List Dv→Option (Rs Dv):=aS 5 aB
def T12:bI:=("comes_from_near",5,["table","ask"],aw) :: T11
theorem gh (A:Af K "comes_from_near" (top 44) f) (t:HA P w K mg base T11):HA P w K mg base T12 :=
 aj (ax XI Gn ["table","ask","house","origin","own"] ["table","ask"] aB A (by walk_at "d") (by delta aB; walk_at "b")) t
def dz:FnS:=(aE (gC (f2 mB (f2 ixD (ab 0) (fC (.int 5))) (fC .non)) (f2 leX (f2 ixD (ab 0) (fC (.int 5))) (ab 1))))
def az:List Dv→Option (Rs Dv):=aS 2 dz
def T13:bI:=("has_ended",1,["note","now"],az) :: T12
theorem lX (A:Af K "has_ended" (top 67) f) (t:HA P w K mg base T12):HA P w K mg base T13 :=
 aj (ax XI Gn ["note","now"] ["note","now"] dz A (by walk_at "d") (by delta dz; walk_at "b")) t
def dA:FnS:=(aE (vOr (f2 eqX (ab 0) (ab 1)) (fM (p0 Kc) (ab 0) (aa (f2 dM (fC (.str ".")) (ab 1)) ag))))
def bB:List Dv→Option (Rs Dv):=aS 2 dA
def T14:bI:=("lies_within",1,["one","other"],bB) :: T13
theorem ju (A:Af K "lies_within" (top 21) f) (t:HA P w K mg base T13):HA P w K mg base T14 :=
 aj (ax XI Gn ["one","other"] ["one","other"] dA A (by walk_at "d") (by delta dA; walk_at "b")) t
def iw:FnS:=(aA (br (fB (f2 ixD (ab 0) (fC (.int 3)))) (aE (f2 eqX (f2 ixD (ab 0) (fC (.int 2))) (ab 1))) (fun ρ=>some (.nx ρ))) (aE (ac bB 2 (aa (ab 1) (aa (f2 ixD (ab 0) (fC (.int 2))) ag)))))
def eR:List Dv→Option (Rs Dv):=aS 2 iw
def T15:bI:=("is_for",2,["note","house"],eR) :: T14
theorem sL (A:Af K "is_for" (top 68) f) (t:HA P w K mg base T14):HA P w K mg base T15 :=
 aj (ax XI Gn ["note","house"] ["note","house"] iw A (by walk_at "d") (by delta iw; walk_at "b")) t
def et:FnS:=(aA (br (fB (f2 eqX (ab 0) (ab 1))) (aE (fC (.bl true))) (fun ρ=>some (.nx ρ))) (aA (br (ce (fB (fM (p0 HU) (ab 0) (aa (ab 1) ag)))) (aE (fC (.bl false))) (fun ρ=>some (.nx ρ))) (aE (vOr (fM (p0 Kc) (ab 1) (aa (fC (.str "/")) ag)) (f2 eqX (f2 ixD (ab 0) (fB1 cP (aa (ab 1) ag))) (fC (.str "/")))))))
def aZ:List Dv→Option (Rs Dv):=aS 2 et
def T16:bI:=("lies_under",1,["path","top"],aZ) :: T15
theorem km (A:Af K "lies_under" (top 31) f) (t:HA P w K mg base T15):HA P w K mg base T16 :=
 aj (ax XI Gn ["path","top"] ["path","top"] et A (by walk_at "d") (by delta et; walk_at "b")) t
def sM:FnS:=(aA (br (bOr (fB (ac az 2 (aa (ab 1) (aa (ab 3) ag)))) (ce (fB (ac eR 2 (aa (ab 1) (aa (f2 ixD (ab 2) (fC (.int 1))) ag)))))) (aE (fC (.bl false))) (fun ρ=>some (.nx ρ))) (aA (br (ce (fB (ac aZ 2 (aa (f2 ixD (ab 2) (fC (.int 2))) (aa (f2 ixD (ab 1) (fC (.int 4))) ag))))) (aE (fC (.bl false))) (fun ρ=>some (.nx ρ))) (aA (br (ia (fB (f2 ixD (ab 1) (fC (.int 6)))) (ce (fB (f2 ixD (ab 2) (fC (.int 0)))))) (aE (fC (.bl false))) (fun ρ=>some (.nx ρ))) (aE (vOr (f2 eqX (f2 ixD (ab 1) (fC (.int 7))) (fC (.str "any"))) (ac aw 2 (aa (ab 0) (aa (ab 2) ag))))))))
def h8:List Dv→Option (Rs Dv):=aS 4 sM
def T17:bI:=("goes",6,["table","note","ask","now"],h8) :: T16
theorem xP (A:Af K "goes" (top 69) f) (t:HA P w K mg base T16):HA P w K mg base T17 :=
 aj (ax XI Gn ["table","note","ask","now"] ["table","note","ask","now"] sM A (by walk_at "d") (by delta sM; walk_at "b")) t
def ez:FnS:=(aE (aN [("table",0),("note",1),("asks",2),("now",3)] (fun ρ=>bnd ((aa (fB1 cP (aa (ab 2) ag)) ag) ρ) iH) (some (fB (ac h8 4 (aa (ab 1) (aa (ab 2) (aa (f2 ixD (ab 3) (ab 0)) (aa (ab 4) ag))))))) (ab 0)))
def i5:List Dv→Option (Rs Dv):=aS 4 ez
def T18:bI:=("asks_of",7,["table","note","asks","now"],i5) :: T17
theorem pO (A:Af K "asks_of" (top 90) f) (t:HA P w K mg base T17):HA P w K mg base T18 :=
 aj (ax XI Gn ["table","note","asks","now"] ["table","note","asks","now"] ez A (by walk_at "d") (by delta ez; walk_at "b")) t
def eC:FnS:=(aA (br (ce (fB (f1 (dE dN) (ab 0)))) (aE (fC (.bl false))) (fun ρ=>some (.nx ρ))) (aA (br (bOr (fB (f2 ltX (fB1 cP (aa (ab 0) ag)) (ab 2))) (fB (f2 gtD (fB1 cP (aa (ab 0) ag)) (ab 3)))) (aE (fC (.bl false))) (fun ρ=>some (.nx ρ))) (aE (fB1 j8 (aa (aN [("signs",1)] (bM (ab 0)) none (f2 inD (ab 0) (ab 1))) ag)))))
def cr:List Dv→Option (Rs Dv):=aS 4 eC
def T19:bI:=("is_text_of",1,["thing","signs","least","most"],cr) :: T18
theorem ko (A:Af K "is_text_of" (top 7) f) (t:HA P w K mg base T18):HA P w K mg base T19 :=
 aj (ax XI Gn ["thing","signs","least","most"] ["thing","signs","least","most"] eC A (by walk_at "d") (by delta eC; walk_at "b")) t
def gQ:FnS:=(aA (br (ce (fB (ac cr 4 (aa (ab 0) (aa (fC (.str "abcdefghijklmnopqrstuvwxyz0123456789-")) (aa (fC (.int 1)) (aa (fC (.int 8)) ag))))))) (aE (fC (.bl false))) (fun ρ=>some (.nx ρ))) (aE (gC (mz (fM (p0 HU) (ab 0) (aa (fC (.str "-")) ag))) (mz (fM (p0 Kc) (ab 0) (aa (fC (.str "-")) ag))))))
def jQ:List Dv→Option (Rs Dv):=aS 1 gQ
def T20:bI:=("is_label",2,["thing"],jQ) :: T19
theorem m4 (A:Af K "is_label" (top 16) f) (t:HA P w K mg base T19):HA P w K mg base T20 :=
 aj (ax XI Gn ["thing"] ["thing"] gQ A (by walk_at "d") (by delta gQ; walk_at "b")) t
def i7:FnS:=(aA (br (ce (fB (f1 (dE dN) (ab 0)))) (aE (fC (.bl false))) (fun ρ=>some (.nx ρ))) (aA (bq 1 (fM (lb) (ab 0) (aa (fC (.str ".")) ag))) (aA (br (bOr (fB (f2 gtD (fB1 cP (aa (ab 1) ag)) (fC (.int 5)))) (ce (fB (fB1 j8 (aa (aN [] (bM (ab 1)) none (ac jQ 1 (aa (ab 0) ag))) ag))))) (aE (fC (.bl false))) (fun ρ=>some (.nx ρ))) (aE (mz (ac cr 4 (aa (f2 ixD (ab 1) (f1 yx (fC (.int 1)))) (aa (fC (.str "0123456789")) (aa (fC (.int 1)) (aa (fC (.int 8)) ag))))))))))
def bj:List Dv→Option (Rs Dv):=aS 2 i7
def T21:bI:=("is_name",3,["thing"],bj) :: T20
theorem pP (A:Af K "is_name" (top 17) f) (t:HA P w K mg base T20):HA P w K mg base T21 :=
 aj (ax XI Gn ["thing","parts"] ["thing"] i7 A (by walk_at "d") (by delta i7; walk_at "b")) t
def i8:FnS:=(aE (gC (ac cr 4 (aa (ab 0) (aa (fC (.str "abcdefghijklmnopqrstuvwxyz0123456789-_./")) (aa (fC (.int 1)) (aa (fC (.int 20)) ag))))) (fM (p0 HU) (ab 0) (aa (fC (.str "/")) ag))))
def cF:List Dv→Option (Rs Dv):=aS 1 i8
def T22:bI:=("is_path",2,["thing"],cF) :: T21
theorem pQ (A:Af K "is_path" (top 30) f) (t:HA P w K mg base T21):HA P w K mg base T22 :=
 aj (ax XI Gn ["thing"] ["thing"] i8 A (by walk_at "d") (by delta i8; walk_at "b")) t
def cA:FnS:=(aE (gC (f1 (dE du) (ab 0)) (f2 eqX (fB1 cP (aa (ab 0) ag)) (ab 1))))
def bC:List Dv→Option (Rs Dv):=aS 2 cA
def T23:bI:=("is_tuple_of",1,["thing","parts"],bC) :: T22
theorem jv (A:Af K "is_tuple_of" (top 9) f) (t:HA P w K mg base T22):HA P w K mg base T23 :=
 aj (ax XI Gn ["thing","parts"] ["thing","parts"] cA A (by walk_at "d") (by delta cA; walk_at "b")) t
def gl:FnS:=(aA (br (ce (fB (ac bC 2 (aa (ab 0) (aa (fC (.int 4)) ag))))) (aE (fC (.bl false))) (fun ρ=>some (.nx ρ))) (aE (fB1 j8 (aa (cO (aa (f1 (dE bH) (f2 ixD (ab 0) (fC (.int 0)))) (aa (ac bj 1 (aa (f2 ixD (ab 0) (fC (.int 1))) ag)) (aa (ac cF 1 (aa (f2 ixD (ab 0) (fC (.int 2))) ag)) (aa (vOr (f2 isN (f2 ixD (ab 0) (fC (.int 3))) (fC .non)) (ac bj 1 (aa (f2 ixD (ab 0) (fC (.int 3))) ag))) ag))))) ag))))
def cQ:List Dv→Option (Rs Dv):=aS 1 gl
def T24:bI:=("is_ask",4,["thing"],cQ) :: T23
theorem sN (A:Af K "is_ask" (top 42) f) (t:HA P w K mg base T23):HA P w K mg base T24 :=
 aj (ax XI Gn ["thing"] ["thing"] gl A (by walk_at "d") (by delta gl; walk_at "b")) t
def aW:FnS:=(aA (br (bOr (ce (fB (f1 (dE ri) (ab 0)))) (fB (f2 gtD (fB1 cP (aa (ab 0) ag)) (fC (.int 9))))) (aE (fC (.bl false))) (fun ρ=>some (.nx ρ))) (aE (fB1 j8 (aa (aN [] (bM (ab 0)) none (ac cQ 1 (aa (ab 0) ag))) ag))))
def bD:List Dv→Option (Rs Dv):=aS 1 aW
def T25:bI:=("is_list_of_asks",5,["thing"],bD) :: T24
theorem gm (A:Af K "is_list_of_asks" (top 88) f) (t:HA P w K mg base T24):HA P w K mg base T25 :=
 aj (ax XI Gn ["thing"] ["thing"] aW A (by walk_at "d") (by delta aW; walk_at "b")) t
def u0:FnS:=(aE (dD (aa (f2 ixD (ab 0) (fC (.int 0))) (aa (f2 ixD (ab 0) (fC (.int 2))) (aa (f2 ixD (ab 0) (fC (.int 4))) ag)))))
def jc:List Dv→Option (Rs Dv):=aS 1 u0
def T26:bI:=("key",1,["note"],jc) :: T25
theorem Bl (A:Af K "key" (top 66) f) (t:HA P w K mg base T25):HA P w K mg base T26 :=
 aj (ax XI Gn ["note"] ["note"] u0 A (by walk_at "d") (by delta u0; walk_at "b")) t
def bw:FnS:=(aA (bq 1 (aK 1 [] (bM (ab 0)) (gN 0) none (ac jc 1 (aa (ab 0) ag)))) (aE (f2 eqX (fB1 iN (aa (ab 1) ag)) (fB1 cP (aa (ab 1) ag)))))
def aT:List Dv→Option (Rs Dv):=aS 2 bw
def T27:bI:=("has_no_key_twice",2,["notes"],aT) :: T26
theorem fI (A:Af K "has_no_key_twice" (top 74) f) (t:HA P w K mg base T26):HA P w K mg base T27 :=
 aj (ax XI Gn ["notes","keys"] ["notes"] bw A (by walk_at "d") (by delta bw; walk_at "b")) t
def eD:FnS:=(aE (fB1 j8 (aa (aN [("notes",0)] (fun ρ=>bnd ((aa (fC (.int 1)) (aa (fB1 cP (aa (ab 0) ag)) ag)) ρ) tL) none (f2 leX (f2 ixD (f2 ixD (ab 1) (f2 wE (ab 0) (fC (.int 1)))) (fC (.int 8))) (f2 ixD (f2 ixD (ab 1) (ab 0)) (fC (.int 8))))) ag)))
def cR:List Dv→Option (Rs Dv):=aS 1 eD
def T28:bI:=("is_by_made",1,["notes"],cR) :: T27
theorem kq (A:Af K "is_by_made" (top 73) f) (t:HA P w K mg base T27):HA P w K mg base T28 :=
 aj (ax XI Gn ["notes"] ["notes"] eD A (by walk_at "d") (by delta eD; walk_at "b")) t
def aX:FnS:=(aA (br (bOr (ce (fB (f1 (dE dX) (ab 0)))) (fB (f1 (dE bH) (ab 0)))) (aE (fC (.bl false))) (fun ρ=>some (.nx ρ))) (aE (gC (f2 leX (ab 1) (ab 0)) (f2 leX (ab 0) (ab 2)))))
def aY:List Dv→Option (Rs Dv):=aS 3 aX
def T29:bI:=("is_whole_number",1,["thing","least","most"],aY) :: T28
theorem gp (A:Af K "is_whole_number" (top 8) f) (t:HA P w K mg base T28):HA P w K mg base T29 :=
 aj (ax XI Gn ["thing","least","most"] ["thing","least","most"] aX A (by walk_at "d") (by delta aX; walk_at "b")) t
def dB:FnS:=(aE (ac aY 3 (aa (ab 0) (aa (fC (.int 0)) (aa (fC (.int 9999)) ag)))))
def bf:List Dv→Option (Rs Dv):=aS 1 dB
def T30:bI:=("is_moment",2,["thing"],bf) :: T29
theorem lY (A:Af K "is_moment" (top 39) f) (t:HA P w K mg base T29):HA P w K mg base T30 :=
 aj (ax XI Gn ["thing"] ["thing"] dB A (by walk_at "d") (by delta dB; walk_at "b")) t
def aQ:FnS:=(aE (vOr (f2 isN (ab 0) (fC .non)) (ac bf 1 (aa (ab 0) ag))))
def aI:List Dv→Option (Rs Dv):=aS 1 aQ
def T31:bI:=("is_moment_or_none",3,["thing"],aI) :: T30
theorem ff (A:Af K "is_moment_or_none" (top 40) f) (t:HA P w K mg base T30):HA P w K mg base T31 :=
 aj (ax XI Gn ["thing"] ["thing"] aQ A (by walk_at "d") (by delta aQ; walk_at "b")) t
def cY:FnS:=(aE (ac cr 4 (aa (ab 0) (aa (fC (.str "abcdefghijklmnopqrstuvwxyzABCDEFGHIJKLMNOPQRSTUVWXYZ0123456789-_")) (aa (fC (.int 1)) (aa (fC (.int 10)) ag))))))
def bJ:List Dv→Option (Rs Dv):=aS 1 cY
def T32:bI:=("is_note_name",2,["thing"],bJ) :: T31
theorem jd (A:Af K "is_note_name" (top 50) f) (t:HA P w K mg base T31):HA P w K mg base T32 :=
 aj (ax XI Gn ["thing"] ["thing"] cY A (by walk_at "d") (by delta cY; walk_at "b")) t
def gR:FnS:=(aE (vOr (f2 eqX (ab 0) (fC (.str "any"))) (f2 eqX (ab 0) (fC (.str "near")))))
def gS:List Dv→Option (Rs Dv):=aS 1 gR
def T33:bI:=("is_reach",1,["thing"],gS) :: T32
theorem m5 (A:Af K "is_reach" (top 52) f) (t:HA P w K mg base T32):HA P w K mg base T33 :=
 aj (ax XI Gn ["thing"] ["thing"] gR A (by walk_at "d") (by delta gR; walk_at "b")) t
def gT:FnS:=(aA (br (bOr (ce (fB (f1 (dE dN) (ab 0)))) (fB (f2 gtD (fB1 cP (aa (ab 0) ag)) (fC (.int 12))))) (aE (fC (.bl false))) (fun ρ=>some (.nx ρ))) (aE (fB1 j8 (aa (aN [] (bM (ab 0)) none (gC (f2 leX (fC (.str "!")) (ab 0)) (gC (f2 leX (ab 0) (fC (.str "~"))) (f2 k6 (ab 0) (fC (.str ";,=")))))) ag))))
def dg:List Dv→Option (Rs Dv):=aS 1 gT
def T34:bI:=("is_worth",1,["thing"],dg) :: T33
theorem m7 (A:Af K "is_worth" (top 51) f) (t:HA P w K mg base T33):HA P w K mg base T34 :=
 aj (ax XI Gn ["thing"] ["thing"] gT A (by walk_at "d") (by delta gT; walk_at "b")) t
def gq:FnS:=(aA (br (ce (fB (ac bC 2 (aa (ab 0) (aa (fC (.int 10)) ag))))) (aE (fC (.bl false))) (fun ρ=>some (.nx ρ))) (aA (br (bOr (ce (fB (ac bf 1 (aa (f2 ixD (ab 0) (fC (.int 8))) ag)))) (ce (fB (ac bf 1 (aa (f2 ixD (ab 0) (fC (.int 9))) ag))))) (aE (fC (.bl false))) (fun ρ=>some (.nx ρ))) (aE (fB1 j8 (aa (cO (aa (ac bJ 1 (aa (f2 ixD (ab 0) (fC (.int 0))) ag)) (aa (ac dg 1 (aa (f2 ixD (ab 0) (fC (.int 1))) ag)) (aa (ac bj 1 (aa (f2 ixD (ab 0) (fC (.int 2))) ag)) (aa (f1 (dE bH) (f2 ixD (ab 0) (fC (.int 3)))) (aa (ac cF 1 (aa (f2 ixD (ab 0) (fC (.int 4))) ag)) (aa (ac aI 1 (aa (f2 ixD (ab 0) (fC (.int 5))) ag)) (aa (f1 (dE bH) (f2 ixD (ab 0) (fC (.int 6)))) (aa (ac gS 1 (aa (f2 ixD (ab 0) (fC (.int 7))) ag)) (aa (f2 leX (f2 ixD (ab 0) (fC (.int 8))) (f2 ixD (ab 0) (fC (.int 9)))) ag)))))))))) ag)))))
def cG:List Dv→Option (Rs Dv):=aS 1 gq
def T35:bI:=("is_note",4,["thing"],cG) :: T34
theorem pR (A:Af K "is_note" (top 65) f) (t:HA P w K mg base T34):HA P w K mg base T35 :=
 aj (ax XI Gn ["thing"] ["thing"] gq A (by walk_at "d") (by delta gq; walk_at "b")) t
def gu:FnS:=(aA (br (bOr (ce (fB (f1 (dE du) (ab 0)))) (fB (f2 gtD (fB1 cP (aa (ab 0) ag)) (fC (.int 20))))) (aE (fC (.bl false))) (fun ρ=>some (.nx ρ))) (aA (br (ce (fB (fB1 j8 (aa (aN [] (bM (ab 0)) none (ac cG 1 (aa (ab 0) ag))) ag)))) (aE (fC (.bl false))) (fun ρ=>some (.nx ρ))) (aE (gC (ac cR 1 (aa (ab 0) ag)) (ac aT 1 (aa (ab 0) ag))))))
def iy:List Dv→Option (Rs Dv):=aS 1 gu
def T36:bI:=("is_jar",5,["thing"],iy) :: T35
theorem sO (A:Af K "is_jar" (top 72) f) (t:HA P w K mg base T35):HA P w K mg base T36 :=
 aj (ax XI Gn ["thing"] ["thing"] gu A (by walk_at "d") (by delta gu; walk_at "b")) t
def eS:FnS:=(br (ce (fB (ac iy 1 (aa (ab 0) ag)))) cg (fun ρ=>some (.nx ρ)))
def aO:List Dv→Option (Rs Dv):=aS 1 eS
def T37:bI:=("need_jar",6,["thing"],aO) :: T36
theorem m8 (A:Af K "need_jar" (top 75) f) (t:HA P w K mg base T36):HA P w K mg base T37 :=
 aj (ax XI Gn ["thing"] ["thing"] eS A (by walk_at "d") (by delta eS; walk_at "b")) t
def cB:FnS:=(br (ce (fB (ac bf 1 (aa (ab 0) ag)))) cg (fun ρ=>some (.nx ρ)))
def ay:List Dv→Option (Rs Dv):=aS 1 cB
def T38:bI:=("need_moment",3,["thing"],ay) :: T37
theorem jw (A:Af K "need_moment" (top 41) f) (t:HA P w K mg base T37):HA P w K mg base T38 :=
 aj (ax XI Gn ["thing"] ["thing"] cB A (by walk_at "d") (by delta cB; walk_at "b")) t
def jf:FnS:=(aA (br (ce (fB (f1 (dE dN) (ab 0)))) (aE (fC (.bl false))) (fun ρ=>some (.nx ρ))) (aA (br (fB (fM (p0 HU) (ab 0) (aa (fC (.str "*.")) ag))) (aE (ac bj 1 (aa (BQ (ab 0) (j7 (fC (.int 2))) k7) ag))) (fun ρ=>some (.nx ρ))) (aA (br (fB (fM (p0 HU) (ab 0) (aa (fC (.str "!")) ag))) (aE (gC (f2 inD (fC (.str ".")) (ab 0)) (ac bj 1 (aa (BQ (ab 0) (j7 (fC (.int 1))) k7) ag)))) (fun ρ=>some (.nx ρ))) (aE (ac bj 1 (aa (ab 0) ag))))))
def lZ:List Dv→Option (Rs Dv):=aS 1 jf
def T39:bI:=("is_rule",4,["thing"],lZ) :: T38
theorem pS (A:Af K "is_rule" (top 18) f) (t:HA P w K mg base T38):HA P w K mg base T39 :=
 aj (ax XI Gn ["thing"] ["thing"] jf A (by walk_at "d") (by delta jf; walk_at "b")) t
def gU:FnS:=(aA (br (bOr (ce (fB (f1 (dE du) (ab 0)))) (fB (f2 gtD (fB1 cP (aa (ab 0) ag)) (fC (.int 8))))) (aE (fC (.bl false))) (fun ρ=>some (.nx ρ))) (aA (br (ce (fB (fB1 j8 (aa (aN [] (bM (ab 0)) none (ac lZ 1 (aa (ab 0) ag))) ag)))) (aE (fC (.bl false))) (fun ρ=>some (.nx ρ))) (aE (fB1 j8 (aa (aN [("thing",0)] (fun ρ=>bnd ((aa (fC (.int 1)) (aa (fB1 cP (aa (ab 0) ag)) ag)) ρ) tL) none (f2 ltX (f2 ixD (ab 1) (f2 wE (ab 0) (fC (.int 1)))) (f2 ixD (ab 1) (ab 0)))) ag)))))
def cC:List Dv→Option (Rs Dv):=aS 1 gU
def T40:bI:=("is_table",5,["thing"],cC) :: T39
theorem na (A:Af K "is_table" (top 19) f) (t:HA P w K mg base T39):HA P w K mg base T40 :=
 aj (ax XI Gn ["thing"] ["thing"] gU A (by walk_at "d") (by delta gU; walk_at "b")) t
def cT:FnS:=(br (ce (fB (ac cC 1 (aa (ab 0) ag)))) cg (fun ρ=>some (.nx ρ)))
def aU:List Dv→Option (Rs Dv):=aS 1 cT
def T41:bI:=("need_table",6,["thing"],aU) :: T40
theorem kr (A:Af K "need_table" (top 20) f) (t:HA P w K mg base T40):HA P w K mg base T41 :=
 aj (ax XI Gn ["thing"] ["thing"] cT A (by walk_at "d") (by delta cT; walk_at "b")) t
def jg:FnS:=(aA (bN (ac aU 1 (aa (ab 0) ag))) (aA (bN (ac aO 1 (aa (ab 1) ag))) (aA (br (ce (fB (ac bD 1 (aa (ab 2) ag)))) cg (fun ρ=>some (.nx ρ))) (aA (bN (ac ay 1 (aa (ab 3) ag))) (aE (aN [("table",0),("asks",2),("now",3)] (bM (ab 1)) none (dD (aa (ac jc 1 (aa (ab 0) ag)) (aa (ac i5 4 (aa (ab 1) (aa (ab 0) (aa (ab 2) (aa (ab 3) ag))))) ag)))))))))
def cH:List Dv→Option (Rs Dv):=aS 4 jg
def T42:bI:=("along",8,["table","jar","asks","now"],cH) :: T41
theorem u3 (A:Af K "along" (top 89) f) (t:HA P w K mg base T41):HA P w K mg base T42 :=
 aj (ax XI Gn ["table","jar","asks","now"] ["table","jar","asks","now"] jg A (by walk_at "d") (by delta jg; walk_at "b")) t
def eU:FnS:=(br (ce (fB (ac cQ 1 (aa (ab 0) ag)))) cg (fun ρ=>some (.nx ρ)))
def dh:List Dv→Option (Rs Dv):=aS 1 eU
def T43:bI:=("need_ask",5,["thing"],dh) :: T42
theorem nb (A:Af K "need_ask" (top 43) f) (t:HA P w K mg base T42):HA P w K mg base T43 :=
 aj (ax XI Gn ["thing"] ["thing"] eU A (by walk_at "d") (by delta eU; walk_at "b")) t
def bn:FnS:=(aA (bN (ac aU 1 (aa (ab 0) ag))) (aA (bN (ac aO 1 (aa (ab 1) ag))) (aA (bN (ac dh 1 (aa (ab 2) ag))) (bN (ac ay 1 (aa (ab 3) ag))))))
def bK:List Dv→Option (Rs Dv):=aS 4 bn
def T44:bI:=("need_sending",7,["table","jar","ask","now"],bK) :: T43
theorem jh (A:Af K "need_sending" (top 78) f) (t:HA P w K mg base T43):HA P w K mg base T44 :=
 aj (ax XI Gn ["table","jar","ask","now"] ["table","jar","ask","now"] bn A (by walk_at "d") (by delta bn; walk_at "b")) t
def l0:FnS:=(aA (bN (ac bK 4 (aa (ab 0) (aa (ab 1) (aa (ab 2) (aa (ab 3) ag)))))) (aA (bq 4 (aK 1 [("table",0),("ask",2),("now",3)] (bM (ab 1)) (gN 0) (some (fB (ac h8 4 (aa (ab 1) (aa (ab 0) (aa (ab 2) (aa (ab 3) ag))))))) (ab 0))) (aE (fB1 (pM (yD 1 (f1 yx (fB1 cP (aa (f2 ixD (ab 0) (fC (.int 4))) ag))))) (aa (ab 4) ag)))))
def ji:List Dv→Option (Rs Dv):=aS 5 l0
def TL1:bI:=("sent",8,["table","jar","ask","now"],ji) :: TL0
theorem xQ (A:Af K "sent" (top 79) f) (t:HA P w K mg base T44) (tl:HAT P w K mg base Pt qL TL0) (ct:ctB K f Pt=true):HAT P w K mg base Pt qL TL1 :=
 oR (sE (CT:=fun cdv=>lS K cdv Pt) XI Gn ["table","jar","ask","now","going"] ["table","jar","ask","now"] l0 A (by walk_at "d") (fun _ Fn=>DD ct Fn) (by delta l0; walk_at "b")) tl
def aC:FnS:=(aA (bq 8 (fB1 iS (aa (aN [] (bM (ac ji 4 (aa (ab 1) (aa (ab 2) (aa (ab 7) (aa (ab 4) ag)))))) none (ac aH 1 (aa (ab 0) ag))) ag))) (br (fB (f2 neX (fB1 iS (aa (aK 2 [("_law_number",6)] (bM (ab 5)) (gP 0 1) (some (fB (f2 inX (ab 2) (ab 1)))) (ab 0)) ag)) (ab 8))) (aE (fC (.bl false))) (fun ρ=>some (.nx ρ))))
def aP:FnS:=(br (fB (f2 neX (f2 ixD (f2 ixD (ab 5) (ab 12)) (fC (.int 1))) (f2 cq (f2 ixD (f2 ixD (ab 10) (ab 12)) (fC (.int 1))) (aN [("_law_cut",9)] (bM (f2 ixD (f2 ixD (ab 11) (ab 12)) (fC (.int 1)))) none (f2 cq (ab 1) (ab 0)))))) (aE (fC (.bl false))) (fun ρ=>some (.nx ρ)))
def bx:FnS:=(aA (bq 5 (ac cH 4 (aa (ab 1) (aa (ab 2) (aa (ab 3) (aa (ab 4) ag)))))) (aA (br (fB (f2 neX (aK 2 [] (bM (ab 5)) (gP 0 1) none (ab 0)) (aN [] (bM (ab 2)) none (ac aH 1 (aa (ab 0) ag))))) (aE (fC (.bl false))) (fun ρ=>some (.nx ρ))) (aA (kb (gP 6 7) [7,8] (fun ρ=>bnd ((aa (ab 3) ag) ρ) ll) aC) (aA (bq 9 (ac ae 3 (aa (ab 0) (aa (fC (.int 112)) (aa (f2 cq (fB1 cP (aa (ab 3) ag)) (fC (.int 1))) ag))))) (aA (bq 10 (ac cH 4 (aa (ab 1) (aa (ab 2) (aa (q9 (ab 3) k7 (j7 (ab 9))) (aa (ab 4) ag)))))) (aA (bq 11 (ac cH 4 (aa (ab 1) (aa (ab 2) (aa (q9 (ab 3) (j7 (ab 9)) k7) (aa (ab 4) ag)))))) (aA (tM 12 [12] (fun ρ=>bnd ((aa (fB1 cP (aa (ab 2) ag)) ag) ρ) iH) aP) (aE (f2 eqX (ac cH 4 (aa (ab 1) (aa (ab 2) (aa (cO ag) (aa (ab 4) ag))))) (aN [] (bM (ab 2)) none (dD (aa (ac aH 1 (aa (ab 0) ag)) (aa (cO ag) ag)))))))))))))
def cK:List Dv→Option (Rs Dv):=aS 13 bx
def TL2:bI:=("_law_go_along",9,["_law_script","_law_table_here","_law_jar_here","_law_asks","_law_now"],cK) :: TL1
theorem ik (A:Af K "_law_go_along" (top 100) f) (t:HA P w K mg base T44) (tl:HAT P w K mg base Pt qL TL1):HAT P w K mg base Pt qL TL2 :=
 oR (sE (CT:=fun _=>True) XI Gn ["_law_script","_law_table_here","_law_jar_here","_law_asks","_law_now","_law_told","_law_number","_law_ask_here","_law_going","_law_cut","_law_one","_law_other","_law_k"] ["_law_script","_law_table_here","_law_jar_here","_law_asks","_law_now"] bx A (by walk_at "d") (fun _ _=>trivial) (by delta bx aC aP; walk_at "b")) tl
def aM:jr:=(fA (fW 6 (f2 cq (f2 cq (ab 1) (fC (.int 1))) (f2 fR (fC (.int 14)) (ab 5)))) (fA (fW 4 (f2 cq (ab 4) (ac ae 3 (aa (ab 0) (aa (ab 6) (aa (fC (.int 4)) ag)))))) (fA (fW 7 (f2 ixD (cO (aa (fC (.str "n")) (aa (fC (.str "m-1")) (aa (fC (.str "safe-a")) (aa (fC (.str "N_2")) ag))))) (ac ae 3 (aa (ab 0) (aa (f2 cq (ab 6) (fC (.int 1))) (aa (fC (.int 4)) ag)))))) (fA (fW 8 (f2 ixD (cO (aa (fC (.str "5")) (aa (fC (.str "")) (aa (fC (.str "a!b~")) ag)))) (ac ae 3 (aa (ab 0) (aa (f2 cq (ab 6) (fC (.int 2))) (aa (fC (.int 3)) ag)))))) (fA (fW 9 (f2 ixD (cO (aa (fC .non) (aa (ac ae 3 (aa (ab 0) (aa (f2 cq (ab 6) (fC (.int 7))) (aa (fC (.int 60)) ag)))) ag))) (ac ae 3 (aa (ab 0) (aa (f2 cq (ab 6) (fC (.int 6))) (aa (fC (.int 2)) ag)))))) (fA (fW 10 (f2 eqX (ac ae 3 (aa (ab 0) (aa (f2 cq (ab 6) (fC (.int 4))) (aa (fC (.int 2)) ag)))) (fC (.int 0)))) (fA (fW 11 (dD (aa (ab 7) (aa (ab 8) (aa (ac aG 2 (aa (ab 0) (aa (f2 cq (ab 6) (fC (.int 3))) ag))) (aa (ab 10) (aa (ac bQ 2 (aa (ab 0) (aa (f2 cq (ab 6) (fC (.int 5))) ag))) ag))))))) (fA (fW 12 (f2 ixD (cO (aa (fC (.str "any")) (aa (fC (.str "any")) (aa (fC (.str "near")) ag)))) (ac ae 3 (aa (ab 0) (aa (f2 cq (ab 6) (fC (.int 9))) (aa (fC (.int 3)) ag)))))) (fA (fW 13 (f2 eqX (ac ae 3 (aa (ab 0) (aa (f2 cq (ab 6) (fC (.int 8))) (aa (fC (.int 2)) ag)))) (fC (.int 0)))) (fA (fW 14 (f2 cq (ab 4) (ac ae 3 (aa (ab 0) (aa (f2 cq (ab 6) (fC (.int 10))) (aa (fC (.int 5)) ag)))))) (fA (fW 15 (f2 cq (ab 11) (dD (aa (ab 9) (aa (ab 13) (aa (ab 12) (aa (ab 4) (aa (ab 14) ag)))))))) (wZ 3 (fB (f2 eqX (aN [("_law_note",15)] (bM (ab 3)) (some (fB (f2 eqX (dD (aa (f2 ixD (ab 0) (fC (.int 0))) (aa (f2 ixD (ab 0) (fC (.int 2))) (aa (f2 ixD (ab 0) (fC (.int 4))) ag)))) (dD (aa (f2 ixD (ab 1) (fC (.int 0))) (aa (f2 ixD (ab 1) (fC (.int 2))) (aa (f2 ixD (ab 1) (fC (.int 4))) ag))))))) (ab 0)) (cO ag))) (yA (ab 15)) BW))))))))))))
def gW:FnS:=(yB 3 ag (fA (fW 4 (fC (.int 0))) (fA (w9 5 [5,6,7,8,9,10,11,12,13,14,15] (fun ρ=>bnd ((aa (ac ae 3 (aa (ab 0) (aa (ab 1) (aa (f2 cq (ab 2) (fC (.int 1))) ag)))) ag) ρ) iH) aM) (yz 3 (fB1 fV (aa (ab 3) ag))))))
def eV:List Dv→Option (Rs Dv):=aS 16 gW
def T45:bI:=("_law_jar",4,["_law_script","_law_at","_law_many"],eV) :: T44
theorem ng (A:Af K "_law_jar" (top 98) f) (t:HA P w K mg base T44):HA P w K mg base T45 :=
 aj (ax XI Gn ["_law_script","_law_at","_law_many","_law_found","_law_now","_law_k","_law_here","_law_name_here","_law_worth","_law_ends","_law_exact","_law_head","_law_reach","_law_safe","_law_late","_law_note"] ["_law_script","_law_at","_law_many"] gW A (by walk_at "d") (by delta gW aM; walk_at "b")) t
def eE:FnS:=(aA (bq 2 (cO (aa (fC (.str "!w.ck")) (aa (fC (.str "*.ck")) (aa (fC (.str "*.uk")) (aa (fC (.str "a.b")) (aa (fC (.str "b")) (aa (fC (.str "c.uk")) (aa (fC (.str "q")) (aa (fC (.str "uk")) ag)))))))))) (aE (fB1 fV (aa (aK 2 [("_law_script",0),("_law_at",1)] (fun ρ=>bnd ((aa (ab 2) ag) ρ) ll) (gP 0 1) (some (fB (f2 eqX (ac ae 3 (aa (ab 2) (aa (f2 dM (ab 3) (ab 0)) (aa (fC (.int 2)) ag)))) (fC (.int 0))))) (ab 1)) ag))))
def cu:List Dv→Option (Rs Dv):=aS 3 eE
def T46:bI:=("_law_table",3,["_law_script","_law_at"],cu) :: T45
theorem kv (A:Af K "_law_table" (top 95) f) (t:HA P w K mg base T45):HA P w K mg base T46 :=
 aj (ax XI Gn ["_law_script","_law_at","_law_some"] ["_law_script","_law_at"] eE A (by walk_at "d") (by delta eE; walk_at "b")) t
def di:FnS:=(aA (bq 2 (ac aV 2 (aa (ab 0) (aa (f2 ixD (ab 1) (fC (.int 2))) ag)))) (aA (br (fB (f2 isN (ab 2) (fC .non))) (aE (f2 ixD (ab 1) (fC (.int 2)))) (fun ρ=>some (.nx ρ))) (aE (ab 2))))
def bp:List Dv→Option (Rs Dv):=aS 3 di
def T47:bI:=("group_of",5,["table","note"],bp) :: T46
theorem nh (A:Af K "group_of" (top 81) f) (t:HA P w K mg base T46):HA P w K mg base T47 :=
 aj (ax XI Gn ["table","note","own"] ["table","note"] di A (by walk_at "d") (by delta di; walk_at "b")) t
def gx:FnS:=(aA (bN (ac aU 1 (aa (ab 0) ag))) (aA (bN (ac aO 1 (aa (ab 1) ag))) (aA (bq 2 (aN [("table",0)] (bM (ab 1)) none (ac bp 2 (aa (ab 1) (aa (ab 0) ag))))) (aE (aN [("names",2)] (bM (fB1 iQ (aa (ab 2) ag))) none (dD (aa (ab 0) (aa (fML BU (ab 1) (aa (ab 0) ag)) ag))))))))
def eW:List Dv→Option (Rs Dv):=aS 3 gx
def T48:bI:=("groups",7,["table","jar"],eW) :: T47
theorem sP (A:Af K "groups" (top 82) f) (t:HA P w K mg base T47):HA P w K mg base T48 :=
 aj (ax XI Gn ["table","jar","names"] ["table","jar"] gx A (by walk_at "d") (by delta gx; walk_at "b")) t
def bz:FnS:=(aE (fB1 iS (aa (aN [("table",0),("group",2)] (bM (ab 1)) (some (fB (f2 eqX (ac bp 2 (aa (ab 1) (aa (ab 0) ag))) (ab 2)))) (ac jc 1 (aa (ab 0) ag))) ag)))
def bZ:List Dv→Option (Rs Dv):=aS 3 bz
def T49:bI:=("keys_of_group",6,["table","jar","group"],bZ) :: T48
theorem il (A:Af K "keys_of_group" (top 86) f) (t:HA P w K mg base T48):HA P w K mg base T49 :=
 aj (ax XI Gn ["table","jar","group"] ["table","jar","group"] bz A (by walk_at "d") (by delta bz; walk_at "b")) t
def dj:FnS:=(aE (aN [("table",0),("jar",1)] (bM (ac eW 2 (aa (ab 0) (aa (ab 1) ag)))) none (dD (aa (f2 ixD (ab 0) (fC (.int 0))) (aa (ac bZ 3 (aa (ab 1) (aa (ab 2) (aa (f2 ixD (ab 0) (fC (.int 0))) ag)))) ag)))))
def eX:List Dv→Option (Rs Dv):=aS 2 dj
def T50:bI:=("by_group",8,["table","jar"],eX) :: T49
theorem ni (A:Af K "by_group" (top 85) f) (t:HA P w K mg base T49):HA P w K mg base T50 :=
 aj (ax XI Gn ["table","jar"] ["table","jar"] dj A (by walk_at "d") (by delta dj; walk_at "b")) t
def gy:FnS:=(aA (bN (ac aO 1 (aa (ab 0) ag))) (aA (bN (ac ay 1 (aa (ab 1) ag))) (aA (bN (ac ay 1 (aa (ab 2) ag))) (aE (aN [("now",1),("far",2)] (bM (ab 0)) (some (ia (fB (ac az 2 (aa (ab 0) (aa (f2 dM (ab 1) (ab 2)) ag)))) (ce (fB (ac az 2 (aa (ab 0) (aa (ab 1) ag))))))) (ab 0))))))
def eY:List Dv→Option (Rs Dv):=aS 3 gy
def T51:bI:=("ending",7,["jar","now","far"],eY) :: T50
theorem sQ (A:Af K "ending" (top 87) f) (t:HA P w K mg base T50):HA P w K mg base T51 :=
 aj (ax XI Gn ["jar","now","far"] ["jar","now","far"] gy A (by walk_at "d") (by delta gy; walk_at "b")) t
def bA:FnS:=(aE (fB1 fV (aa (aN [("now",1)] (bM (ab 0)) (some (ce (fB (ac az 2 (aa (ab 0) (aa (ab 1) ag)))))) (ab 0)) ag)))
def ca:List Dv→Option (Rs Dv):=aS 2 bA
def T52:bI:=("without_ended",2,["notes","now"],ca) :: T51
theorem io (A:Af K "without_ended" (top 77) f) (t:HA P w K mg base T51):HA P w K mg base T52 :=
 aj (ax XI Gn ["notes","now"] ["notes","now"] bA A (by walk_at "d") (by delta bA; walk_at "b")) t
def jj:FnS:=(aA (bN (ac aO 1 (aa (ab 0) ag))) (aA (bN (ac ay 1 (aa (ab 1) ag))) (aE (ac ca 2 (aa (ab 0) (aa (ab 1) ag))))))
def fJ:List Dv→Option (Rs Dv):=aS 2 jj
def T53:bI:=("swept",7,["jar","now"],fJ) :: T52
theorem u4 (A:Af K "swept" (top 76) f) (t:HA P w K mg base T52):HA P w K mg base T53 :=
 aj (ax XI Gn ["jar","now"] ["jar","now"] jj A (by walk_at "d") (by delta jj; walk_at "b")) t
def nj:FnE:=(ac cu 2 (aa (ab 0) (aa (fC (.int 0)) ag)))
def nk:FnE:=(ac eV 3 (aa (ab 0) (aa (fC (.int 20)) (aa (fC (.int 6)) ag))))
def kx:FnE:=(aK 1 [("_law_script",0)] (fun ρ=>bnd ((aa (ac ae 3 (aa (ab 0) (aa (fC (.int 110)) (aa (fC (.int 4)) ag)))) ag) ρ) iH) (gN 0) none (ac cj 2 (aa (ab 1) (aa (f2 cq (fC (.int 120)) (f2 fR (fC (.int 10)) (ab 0))) ag))))
def nn:FnE:=(ac ae 3 (aa (ab 0) (aa (fC (.int 111)) (aa (fC (.int 40)) ag))))
def ky:FnE:=(ac eX 2 (aa (ab 1) (aa (ab 2) ag)))
def nq:FnE:=(cO ag)
def nr:FnE:=(f2 cq (ab 6) (ab 8))
def nu:FnB:=(fB (f2 neX (ab 8) (fB1 eP (aa (ab 8) ag))))
def eG:FnS:=(aA (bq 6 nr) (br nu (aE (fC (.bl false))) (fun ρ=>some (.nx ρ))))
def nv:FnB:=(fB (f2 neX (fB1 iS (aa (ab 6) ag)) (fB1 iS (aa (aN [] (bM (ab 2)) none (ac aH 1 (aa (ab 0) ag))) ag))))
def ny:FnB:=(fB (f2 neX (aK 2 [] (bM (ab 5)) (gP 0 1) none (dD (aa (ab 0) (aa (fB1 cP (aa (ab 1) ag)) ag)))) (ac eW 2 (aa (ab 1) (aa (ab 2) ag)))))
def nz:FnE:=(cO ag)
def kz:FnE:=(ac eY 3 (aa (ab 2) (aa (ab 4) (aa (ab 10) ag))))
def nA:FnB:=(fB (f2 neX (aN [("_law_soon",11)] (bM (ab 9)) (some (fB (f2 dU (ab 0) (ab 1)))) (ab 0)) (cO ag)))
def kA:FnE:=(fB1 fV (aa (aN [("_law_soon",11)] (bM (ac fJ 2 (aa (ab 2) (aa (ab 4) ag)))) (some (fB (f2 dU (ab 0) (ab 1)))) (ab 0)) ag))
def kB:FnB:=(ia (fB (f2 ltX (ab 10) (fC (.int 9000)))) (fB (f2 neX (ab 12) (ac fJ 2 (aa (ab 2) (aa (f2 cq (ab 4) (ab 10)) ag))))))
def oU:FnE:=(ab 11)
def dC:FnS:=(aA (bq 11 kz) (aA (br nA (aE (fC (.bl false))) (fun ρ=>some (.nx ρ))) (aA (bq 12 kA) (aA (br kB (aE (fC (.bl false))) (fun ρ=>some (.nx ρ))) (bq 9 oU)))))
def nB:FnB:=(fB (f2 neX (ac eY 3 (aa (ab 2) (aa (ab 4) (aa (fC (.int 0)) ag)))) (cO ag)))
def nE:FnB:=(fB (f2 neX (aN [("_law_last",9)] (bM (ab 2)) (some (ia (fB (f2 isN (f2 ixD (ab 0) (fC (.int 5))) (fC .non))) (fB (f2 inX (ab 0) (ab 1))))) (ab 0)) (cO ag)))
def sS:FnE:=(ac cK 5 (aa (ab 0) (aa (ab 1) (aa (ab 2) (aa (ab 3) (aa (ab 4) ag))))))
def sU:FnS:=(aA (bq 1 nj) (aA (bq 2 nk) (aA (bq 3 kx) (aA (bq 4 nn) (aA (bq 5 ky) (aA (bq 6 nq) (aA (kb (gP 7 8) [] (bM (ab 5)) eG) (aA (br nv (aE (fC (.bl false))) (fun ρ=>some (.nx ρ))) (aA (br ny (aE (fC (.bl false))) (fun ρ=>some (.nx ρ))) (aA (bq 9 nz) (aA (tM 10 [10,11,12] (bM (dD (aa (fC (.int 0)) (aa (fC (.int 3)) (aa (fC (.int 10)) (aa (fC (.int 40)) (aa (fC (.int 9999)) ag))))))) dC) (aA (br nB (aE (fC (.bl false))) (fun ρ=>some (.nx ρ))) (aA (br nE (aE (fC (.bl false))) (fun ρ=>some (.nx ρ))) (aE sS))))))))))))))
def sV:List Dv→Option (Rs Dv):=aS 13 sU
theorem Bm {fd:Gp} (A:Fun K "law" "law" (top 101) f fd) (t:HA P w K mg base T53) (tl:HAT P w K mg base Pt qL TL2):FnOk P w K mg base CX0 10 f fd ["_law_script"] (spT Pt qL K sV 1) :=
 vW (CT:=fun _=>True) ["_law_script","_law_table_here","_law_jar_here","_law_asks","_law_now","_law_rows","_law_keys","_law_name_here","_law_some","_law_last","_law_far","_law_soon","_law_rest"] ["_law_script"] sU (by kernel_rfl) (by kernel_rfl) A (BY (by kernel_rfl)) trivial (by delta sU nj nk kx nn ky nq nr nu eG nv ny nz kz nA kA kB oU dC nB nE sS; walk_at "b")
end
theorem af {K:ck} {x:Str} {st:Stmt} (f:Addr) (m:String) (t c:Nat) (a:nsM K x=some (some (.ref f)):=by kernel_rfl) (l:K.lookup f=some ⟨r_ "function",none,.func (H_ x x (gF st) (cw st) (aD st) .none .none .none (kS m t) none (kR c) .none),#[]⟩:=by kernel_rfl) (cc:Kn K (kR c) x=true:=by kernel_rfl) (k:GD K (.ref f)=true:=by kernel_rfl):Af K x st f:=⟨a,⟨_,zl l cc k⟩,k⟩
theorem all_mk {l:J4} {w:uk} {K:ck} {h:Heap} {mg:Str→Option Value} {fa:Addr} (X:K.In h) (G:h.Ns t_ mg) (hfa:mg "law"=some (.ref fa))
 {f1 f2 f3 f4 f5 f6 f7 f8 f9 f10 f11 f12 f13 f14 f15 f16 f17 f18 f19 f20 f21 f22 f23 f24 f25 f26 f27 f28 f29 f30 f31 f32 f33 f34 f35 f36 f37 f38 f39 f40 f41 f42 f43 f44 f45 f46 f47 f48 f49 f50 f51 f52 f53 f54 f55 fl:Addr}
 (A1:Af K "_law_cell" (top 92) f1)
 (A2:Af K "_law_drawn" (top 93) f2)
 (A3:Af K "_law_name" (top 94) f3)
 (A4:Af K "_law_path" (top 96) f4)
 (A5:Af K "_law_ask" (top 97) f5)
 (A6:Af K "_law_key" (top 99) f6)
 (A7:Af K "ends_longest_first" (top 22) f7)
 (A8:Af K "behind_first_dot" (top 23) f8)
 (A9:Af K "is_told_open" (top 24) f9)
 (A10:Af K "find_open_end" (top 25) f10)
 (A11:Af K "find_own_end" (top 26) f11)
 (A12:Af K "comes_from_near" (top 44) f12)
 (A13:Af K "has_ended" (top 67) f13)
 (A14:Af K "lies_within" (top 21) f14)
 (A15:Af K "is_for" (top 68) f15)
 (A16:Af K "lies_under" (top 31) f16)
 (A17:Af K "goes" (top 69) f17)
 (A18:Af K "asks_of" (top 90) f18)
 (A19:Af K "is_text_of" (top 7) f19)
 (A20:Af K "is_label" (top 16) f20)
 (A21:Af K "is_name" (top 17) f21)
 (A22:Af K "is_path" (top 30) f22)
 (A23:Af K "is_tuple_of" (top 9) f23)
 (A24:Af K "is_ask" (top 42) f24)
 (A25:Af K "is_list_of_asks" (top 88) f25)
 (A26:Af K "key" (top 66) f26)
 (A27:Af K "has_no_key_twice" (top 74) f27)
 (A28:Af K "is_by_made" (top 73) f28)
 (A29:Af K "is_whole_number" (top 8) f29)
 (A30:Af K "is_moment" (top 39) f30)
 (A31:Af K "is_moment_or_none" (top 40) f31)
 (A32:Af K "is_note_name" (top 50) f32)
 (A33:Af K "is_reach" (top 52) f33)
 (A34:Af K "is_worth" (top 51) f34)
 (A35:Af K "is_note" (top 65) f35)
 (A36:Af K "is_jar" (top 72) f36)
 (A37:Af K "need_jar" (top 75) f37)
 (A38:Af K "need_moment" (top 41) f38)
 (A39:Af K "is_rule" (top 18) f39)
 (A40:Af K "is_table" (top 19) f40)
 (A41:Af K "need_table" (top 20) f41)
 (A42:Af K "along" (top 89) f42)
 (A43:Af K "need_ask" (top 43) f43)
 (A44:Af K "need_sending" (top 78) f44)
 (A45:Af K "sent" (top 79) f45)
 (A46:Af K "_law_go_along" (top 100) f46)
 (A47:Af K "_law_jar" (top 98) f47)
 (A48:Af K "_law_table" (top 95) f48)
 (A49:Af K "group_of" (top 81) f49)
 (A50:Af K "groups" (top 82) f50)
 (A51:Af K "keys_of_group" (top 86) f51)
 (A52:Af K "by_group" (top 85) f52)
 (A53:Af K "ending" (top 87) f53)
 (A54:Af K "without_ended" (top 77) f54)
 (A55:Af K "swept" (top 76) f55)
 (AL:Af K "law" (top 101) fl) (ma:CC.all (Do K)=true) {Pt:Addr} (ct:ctB K f45 Pt=true) (bb:bmB K=true) :
 ∃ fd:Gp,(∀ (s:Shared) (v:Value),Ke s fd ⟨[v],[]⟩ [("_law_script",v)])∧∀ base:Heap,K.In base→base.Ns t_ mg→FnOk l.prog w K mg base CX0 10 fa fd ["_law_script"] (spT Pt qL K sV 1):=by
 have e:=hfa.symm.trans (IL X G AL.a)
 cases e
 have M:=AK X G CC ma
 obtain ⟨fd,Fn⟩:=AL.F
 refine ⟨fd,?_,fun base _ _=>?_⟩
 · obtain ⟨oc,od,kV,doc,pm,an,cdv,ct,osl,rfl,lk,hcd⟩:=Fn.ex
   exact fun s v=>.of_eq rfl
 have bi:=DE X G bb
 have t0:HA l.prog w K mg base T0:=AJ
 have tl0:HAT l.prog w K mg base Pt qL TL0:=xI
 have t1:=lU X G M bi A1 t0
 have t2:=kl X G M bi A2 t1
 have t3:=lV X G M bi A3 t2
 have t4:=lW X G M bi A4 t3
 have t5:=mZ X G M bi A5 t4
 have t6:=m3 X G M bi A6 t5
 have t7:=ei X G M bi A7 t6
 have t8:=fH X G M bi A8 t7
 have t9:=iZ X G M bi A9 t8
 have t10:=ij X G M bi A10 t9
 have t11:=i4 X G M bi A11 t10
 have t12:=gh X G M bi A12 t11
 have t13:=lX X G M bi A13 t12
 have t14:=ju X G M bi A14 t13
 have t15:=sL X G M bi A15 t14
 have t16:=km X G M bi A16 t15
 have t17:=xP X G M bi A17 t16
 have t18:=pO X G M bi A18 t17
 have t19:=ko X G M bi A19 t18
 have t20:=m4 X G M bi A20 t19
 have t21:=pP X G M bi A21 t20
 have t22:=pQ X G M bi A22 t21
 have t23:=jv X G M bi A23 t22
 have t24:=sN X G M bi A24 t23
 have t25:=gm X G M bi A25 t24
 have t26:=Bl X G M bi A26 t25
 have t27:=fI X G M bi A27 t26
 have t28:=kq X G M bi A28 t27
 have t29:=gp X G M bi A29 t28
 have t30:=lY X G M bi A30 t29
 have t31:=ff X G M bi A31 t30
 have t32:=jd X G M bi A32 t31
 have t33:=m5 X G M bi A33 t32
 have t34:=m7 X G M bi A34 t33
 have t35:=pR X G M bi A35 t34
 have t36:=sO X G M bi A36 t35
 have t37:=m8 X G M bi A37 t36
 have t38:=jw X G M bi A38 t37
 have t39:=pS X G M bi A39 t38
 have t40:=na X G M bi A40 t39
 have t41:=kr X G M bi A41 t40
 have t42:=u3 X G M bi A42 t41
 have t43:=nb X G M bi A43 t42
 have t44:=jh X G M bi A44 t43
 have tl1:=xQ X G M bi A45 t44 tl0 ct
 have tl2:=ik X G M bi A46 t44 tl1
 have t45:=ng X G M bi A47 t44
 have t46:=kv X G M bi A48 t45
 have t47:=nh X G M bi A49 t46
 have t48:=sP X G M bi A50 t47
 have t49:=il X G M bi A51 t48
 have t50:=ni X G M bi A52 t49
 have t51:=sQ X G M bi A53 t50
 have t52:=io X G M bi A54 t51
 have t53:=u4 X G M bi A55 t52
 exact Bm X G M bi Fn t53 tl2
end G
set_option maxHeartbeats 4000000
namespace FD
open PySem PySem.Spec PyProof.Rows L2
theorem oV {elt:FnE} {cap:Ev} {α:Type} (en:α→Dv) (f:α→Dv):∀ {l:List α},(∀ a∈l,elt (cap.set 0 (some (en a)))=some (.ok (f a)))→qN none elt cap (l.map en)=some (l.map f)
 | [],_=>rfl
 | a :: l,h=>by
  have ih:=oV (elt:=elt) (cap:=cap) en f (l:=l) fun b hb=>h b (ge _ hb)
  rw [xy,xy]
  unfold qN
  dsimp only
  rw [h a g_,ih]
theorem l4 {tst:FnB} {elt:FnE} {cap:Ev} {α:Type} (en:α→Dv) (p:α→Bool) (f:α→Dv):∀ {l:List α},(∀ a∈l,tst (cap.set 0 (some (en a)))=some (.ok (p a))∧elt (cap.set 0 (some (en a)))=some (.ok (f a)))→qN (some tst) elt cap (l.map en)=some ((l.filter p).map f)
 | [],_=>rfl
 | a :: l,h=>by
  have ih:=l4 (tst:=tst) (elt:=elt) (cap:=cap) en p f (l:=l) fun b hb=>h b (ge _ hb)
  obtain ⟨h1,h2⟩:=h a g_
  rw [xy]
  unfold qN
  dsimp only
  rw [h1,ih]
  cases q:p a with
  | true=>dsimp only; rw [h2,G9 q]; rfl
  | false=>dsimp only; rw [G_ (by rw [q]; decide)]
theorem oW {elt:FnE} {cap:Ev} {α:Type} (en:α→Dv) (f:α→Dv):∀ {l:List α},(∀ a∈l,elt (cap.set 0 (some (en a)))=some (.ok (f a)))→eM (gN 0) none elt cap (l.map en)=some (l.map f)
 | [],_=>rfl
 | a :: l,h=>by
  have ih:=oW (elt:=elt) (cap:=cap) en f (l:=l) fun b hb=>h b (ge _ hb)
  rw [xy,xy]
  unfold eM
  show (match elt (cap.set 0 (some (en a))) with | some (.ok y)=>_ | _=>_)=_
  rw [h a g_,ih]
theorem l7 {tst:FnB} {elt:FnE} {cap:Ev} {α:Type} (en:α→Dv) (p:α→Bool) (f:α→Dv):∀ {l:List α},(∀ a∈l,tst (cap.set 0 (some (en a)))=some (.ok (p a))∧elt (cap.set 0 (some (en a)))=some (.ok (f a)))→eM (gN 0) (some tst) elt cap (l.map en)=some ((l.filter p).map f)
 | [],_=>rfl
 | a :: l,h=>by
  have ih:=l7 (tst:=tst) (elt:=elt) (cap:=cap) en p f (l:=l) fun b hb=>h b (ge _ hb)
  obtain ⟨h1,h2⟩:=h a g_
  rw [xy]
  unfold eM
  show (match tst (cap.set 0 (some (en a))) with | some (.ok true)=>_ | some (.ok false)=>_ | _=>_)=_
  rw [h1,ih]
  cases q:p a with
  | true=>dsimp only; rw [h2,G9 q]; rfl
  | false=>dsimp only; rw [G_ (by rw [q]; decide)]
theorem cb {cs:List (Str×Nat)} {src:FnA} {elt:FnE} {ρ:Ev} {α:Type} (en f:α→Dv) {l:List α} (hs:src ρ=some (.ok (l.map en))) (hl:l.length≤100000) (h:∀ a∈l,elt ((vz cs ρ).set 0 (some (en a)))=some (.ok (f a))):aN cs src none elt ρ=some (.ok (.lst (l.map f))):=by
 unfold aN
 rw [hs]
 show (match qN none elt (vz cs ρ) (l.map en) with | some ys=>_ | none=>_)=_
 rw [oV en f h]
 dsimp only
 rw [if_pos ⟨by simpa using hl,by simpa using hl⟩]
theorem cv {cs:List (Str×Nat)} {src:FnA} {tst:FnB} {elt:FnE} {ρ:Ev} {α:Type} (en:α→Dv) (p:α→Bool) (f:α→Dv) {l:List α} (hs:src ρ=some (.ok (l.map en))) (hl:l.length≤100000) (h:∀ a∈l,tst ((vz cs ρ).set 0 (some (en a)))=some (.ok (p a))∧elt ((vz cs ρ).set 0 (some (en a)))=some (.ok (f a))) :
 aN cs src (some tst) elt ρ=some (.ok (.lst ((l.filter p).map f))):=by
 unfold aN
 rw [hs]
 show (match qN (some tst) elt (vz cs ρ) (l.map en) with | some ys=>_ | none=>_)=_
 rw [l4 en p f h]
 dsimp only
 have:=FK p l
 rw [if_pos ⟨by simp; omega,by simpa using hl⟩]
theorem sW {cs:List (Str×Nat)} {src:FnA} {elt:FnE} {ρ:Ev} {α:Type} (en f:α→Dv) {l:List α} (hs:src ρ=some (.ok (l.map en))) (hl:l.length≤100000) (h:∀ a∈l,elt ((dR 1 cs ρ).set 0 (some (en a)))=some (.ok (f a))):aK 1 cs src (gN 0) none elt ρ=some (.ok (.lst (l.map f))):=by
 unfold aK
 rw [hs]
 show (match eM (gN 0) none elt (dR 1 cs ρ) (l.map en) with | some ys=>_ | none=>_)=_
 rw [oW en f h]
 dsimp only
 rw [if_pos ⟨by simpa using hl,by simpa using hl⟩]
theorem pU {cs:List (Str×Nat)} {src:FnA} {tst:FnB} {elt:FnE} {ρ:Ev} {α:Type} (en:α→Dv) (p:α→Bool) (f:α→Dv) {l:List α} (hs:src ρ=some (.ok (l.map en))) (hl:l.length≤100000) (h:∀ a∈l,tst ((dR 1 cs ρ).set 0 (some (en a)))=some (.ok (p a))∧elt ((dR 1 cs ρ).set 0 (some (en a)))=some (.ok (f a))) :
 aK 1 cs src (gN 0) (some tst) elt ρ=some (.ok (.lst ((l.filter p).map f))):=by
 unfold aK
 rw [hs]
 show (match eM (gN 0) (some tst) elt (dR 1 cs ρ) (l.map en) with | some ys=>_ | none=>_)=_
 rw [l7 en p f h]
 dsimp only
 have:=FK p l
 rw [if_pos ⟨by simp; omega,by simpa using hl⟩]
theorem xR {i j:Int} (h:-(2 ^ 62)≤i∧i < 2 ^ 62∧-(2 ^ 62)≤j∧j < 2 ^ 62):tL [.int i,.int j]=some (.ok (rng i (j - i).toNat)):=by rw [tL,if_pos h]
theorem xS {j:Int} (h:-(2 ^ 62)≤j∧j < 2 ^ 62):iH [.int j]=some (.ok (rng 0 j.toNat)):=by rw [iH,if_pos h]
theorem xT {n:Nat} (h:n≤1000):-(2 ^ 62)≤(1:Int)∧(1:Int) < 2 ^ 62∧-(2 ^ 62)≤(n:Int)∧(n:Int) < 2 ^ 62:=by omega
theorem Bn {n:Nat} (h:n≤1000):tL [.int 1,.int (n:Int)]=some (.ok (rng 1 ((n:Int) - 1).toNat)):=xR (xT h)
theorem oX {n:Nat} (h:n≤1000):iH [.int (n:Int)]=some (.ok (rng 0 n)):=by
 rw [xS (by omega)]; rfl
theorem l8 {α:Type} (p:α→Bool):∀ l:List α,iI (l.map fun a=>Dv.bl (p a))=some (l.map p)
 | []=>rfl
 | a :: l=>by
  show (match iI (l.map fun a=>Dv.bl (p a)) with | some bs=>some (p a :: bs) | none=>none)=_
  rw [l8 p l]
  rfl
mutual
def pln:Dv→Bool
 | .exn _=>false
 | .tup ds=>plns ds
 | .lst ds=>plns ds
 | _=>true
def plns:List Dv→Bool
 | []=>true
 | d :: ds=>pln d && plns ds
end
mutual
theorem kG:∀ d:Dv,pln d=true→Gc (bU d) (bU d)=true
 | .non,_=>by simp [bU,Gc]
 | .bl b,_=>by simp [bU,Gc]
 | .int b,_=>by simp [bU,Gc]
 | .str b,_=>by simp [bU,Gc]
 | .tup ds,h=>by simp only [bU,Gc]; exact eqvs_refl ds (by simpa [pln] using h)
 | .lst ds,h=>by simp only [bU,Gc]; exact eqvs_refl ds (by simpa [pln] using h)
 | .scr ns,_=>by
  simp only [bU,Gc]
  induction ns with
  | nil=>simp [HJ]
  | cons n ns ih=>simp [HJ,Gc]; exact ih rfl
 | .exn _,h=>by simp [pln] at h
theorem eqvs_refl:∀ ds:List Dv,plns ds=true→HJ (toPys ds) (toPys ds)=true
 | [],_=>by simp [toPys,HJ]
 | d :: ds,h=>by
  have h':pln d=true∧plns ds=true:=by simpa [plns] using h
  simp only [toPys,HJ,k_]
  exact ⟨kG d h'.1,eqvs_refl ds h'.2⟩
end
theorem xU {d:Dv} (h1:okP d=true) (h2:pln d=true):neX d d=some (.ok (.bl false)):=by
 unfold neX
 split
 · rename_i b hb
   have:b=true:=by
    cases d <;> simp [eqS] at hb
    · exact hb
    · exact hb
    · exact hb
    · rw [← hb]; unfold seq; simp
   rw [this]; rfl
 · rw [h1,kG d h2]; rfl
theorem xV {d:Dv} (h1:okP d=true) (h2:pln d=true):eqX d d=some (.ok (.bl true)):=by
 unfold eqX
 split
 · rename_i b hb
   have:b=true:=by
    cases d <;> simp [eqS] at hb
    · exact hb
    · exact hb
    · exact hb
    · rw [← hb]; unfold seq; simp
   rw [this]
 · rw [h1,kG d h2]; rfl
structure It1 (k:Nat) (d:Dv):Prop where
 c:FR (bU d)=true
 dp:(bU d).depth≤k
 p:pln d=true
theorem u5 {k:Nat}:∀ {ds:List Dv},(∀ d∈ds,It1 k d)→GJ (toPys ds)=true∧Hw (toPys ds)≤k∧plns ds=true
 | [],_=>by simp [toPys,GJ,Hw,plns]
 | d :: ds,h=>by
  obtain ⟨h1,h2,h3⟩:=u5 (ds:=ds) fun d' hd=>h d' (ge _ hd)
  have h0:=h d g_
  simp only [toPys,GJ,Hw,plns,k_]
  exact ⟨⟨h0.c,h1⟩,by have:=h0.dp; omega,h0.p,h3⟩
theorem mf {k:Nat} {ds:List Dv} (h:∀ d∈ds,It1 k d):It1 (k + 1) (.tup ds):=by
 obtain ⟨h1,h2,h3⟩:=u5 h
 exact ⟨by simpa [bU,FR] using h1,by simp [bU,Jq]; exact h2,by simpa [pln] using h3⟩
theorem jk {k:Nat} {ds:List Dv} (h:∀ d∈ds,It1 k d):It1 (k + 1) (.lst ds):=by
 obtain ⟨h1,h2,h3⟩:=u5 h
 exact ⟨by simpa [bU,FR] using h1,by simp [bU,Jq]; exact h2,by simpa [pln] using h3⟩
theorem It1.okP {k:Nat} {d:Dv} (h:It1 k d) (hk:k≤64):okP d=true:=by
 unfold FD.okP SeqAt.shaped
 rw [h.c]
 have:=h.dp
 simp
 omega
theorem It1.le {k m:Nat} {d:Dv} (h:It1 k d) (hk:k≤m):It1 m d:=⟨h.c,FH h.dp hk,h.p⟩
theorem gz {x:Str} (h:FR (.str x)=true):It1 0 (.str x):=⟨h,by simp [bU,Jq],rfl⟩
theorem it_int {i:Int}:It1 0 (.int i):=⟨rfl,by simp [bU,Jq],rfl⟩
theorem Bo {i:Bool}:It1 0 (.bl i):=⟨rfl,by simp [bU,Jq],rfl⟩
theorem Bp:It1 0 .non:=⟨rfl,by simp [bU,Jq],rfl⟩
theorem mh {α:Type} (f:α→Dv):∀ l:List α,toPys (l.map f)=l.map fun a=>bU (f a)
 | []=>rfl
 | a :: l=>by simp [toPys,mh f l]
theorem DF {x:Dv} {α:Type} {en:α→Dv} {l:List α} {p:α→Bool} (hx:It1 5 x) (hf:cU x=false) (hl:∀ a∈l,It1 5 (en a)) (hp:∀ a∈l,Gc (bU (en a)) (bU x)=p a):inX x (.lst (l.map en))=some (.ok (.bl (l.any p)))∧dU x (.lst (l.map en))=some (.ok (.bl (!l.any p)))∧inX x (.tup (l.map en))=some (.ok (.bl (l.any p)))∧dU x (.tup (l.map en))=some (.ok (.bl (!l.any p))):=by
 have e:inP x (l.map en)=some (l.any p):=by
  unfold inP
  have h1:=hx.okP (by omega)
  have h2:=(u5 (k:=5) (ds:=l.map en) (by intro d hd; obtain ⟨a,ha,rfl⟩:=C_.mp hd; exact hl a ha)).1
  have h3:decide ((bU x).depth≤63)=true:=by have:=hx.dp; simp; omega
  rw [h1,h2,h3]
  simp only [Bool.and_self,if_true]
  rw [mh]
  congr 1
  clear h1 h2 h3 hl hx
  induction l with
  | nil=>rfl
  | cons a l ih =>
   simp only [xy,JR]
   rw [hp a g_,ih fun b hb=>hp b (ge _ hb)]
 have e0:∀ ys,inL x ys=none:=fun ys=>by unfold inL; rw [hf]; rfl
 have n1:wF x (.lst (l.map en))=none:=by cases x <;> first | exact e0 _ | rfl
 have n2:wF x (.tup (l.map en))=none:=by cases x <;> first | exact e0 _ | rfl
 refine ⟨?_,?_,?_,?_⟩ <;> simp [inX,dU,Ag,n1,n2,e]
end FD
namespace G
open PySem PySem.Spec PyProof.Rows L2 FD
theorem xW (ns:List Int) (hl:ns.length≤63) (k:Int):∃ c,bP [.scr ns,.int k]=some (.ok (.int c)):=by
 cases ns with
 | nil=>exact ⟨7 * k,by kernel_rfl⟩
 | cons n r =>
  have h0:0 < (n :: r).length:=by simp
  have h1:(0:Int) < ((n :: r).length:Int):=by omega
  have h2:((n :: r).length:Int) < 1073741824:=by omega
  have h3:0≤k % ((n :: r).length:Int):=Hx _ (by omega)
  have h4:k % ((n :: r).length:Int) < ((n :: r).length:Int):=G4 _ h1
  have h5:(k % ((n :: r).length:Int)).toNat < (n :: r).length:=by omega
  refine ⟨(n :: r)[(k % ((n :: r).length:Int)).toNat] + 6553 * (k / ((n :: r).length:Int)),?_⟩
  have hat:atD (n :: r) (k % ((n :: r).length:Int))=some (n :: r)[(k % ((n :: r).length:Int)).toNat]:=by
   unfold atD
   rw [if_pos h3,i_ h5]
  have hm:fL (.int k) (.int ((n :: r).length:Int))=some (.ok (.int (k % ((n :: r).length:Int)))):=by
   show (if 0 < ((n :: r).length:Int) then _ else _)=_
   rw [if_pos h1]
  have hd:fT (.int k) (.int ((n :: r).length:Int))=some (.ok (.int (k / ((n :: r).length:Int)))):=by
   show (if 0 < ((n :: r).length:Int)∧((n :: r).length:Int) < 1073741824 then _ else _)=_
   rw [if_pos ⟨h1,h2⟩]
  have hi:ixD (.scr (n :: r)) (.int (k % ((n :: r).length:Int)))=some (.ok (.int (n :: r)[(k % ((n :: r).length:Int)).toNat])):=by
   show (match atD (n :: r) (k % ((n :: r).length:Int)) with | some d=>_ | none=>_)=_
   rw [hat]
  show (match cD [some (.scr (n :: r)),some (.int k)] with | some (.nx _)=>_ | some (.rt d)=>_ | _=>_)=_
  have e:cD [some (.scr (n :: r)),some (.int k)]=cx (bnd (bnd (fL (.int k) (.int ((n :: r).length:Int))) fun i=>ixD (.scr (n :: r)) i) fun x=>bnd (bnd (fT (.int k) (.int ((n :: r).length:Int))) fun q=>fR (.int 6553) q) fun y=>dM x y) fun d=>some (.rt d):=by kernel_rfl
  rw [e,hm,hd]
  show (match cx (bnd (ixD (.scr (n :: r)) (.int (k % ((n :: r).length:Int)))) fun x=>_) _ with | some (.nx _)=>_ | some (.rt d)=>_ | _=>_)=_
  rw [hi]
  kernel_rfl
def dr1 (c k:Int):Int:=(c % 2147483563 * 69069 + 104723 * (k + 1)) % 2147483563
def dr2 (c:Int):Int:=(c * c + c / 3) % 2147483399
def dr3 (c m:Int):Int:=(c * c + c / 7) % 2147483647 / 11 % m
theorem jR {i j:Int} (h:(-18446744073709551616 < i∧i < 18446744073709551616)∨(-18446744073709551616 < j∧j < 18446744073709551616)):fR (.int i) (.int j)=some (.ok (.int (i * j))):=by
 show (if _ then _ else _)=_
 rw [if_pos h]
theorem mi {i j:Int} (h:0 < j):fL (.int i) (.int j)=some (.ok (.int (i % j))):=by
 show (if _ then _ else _)=_
 rw [if_pos h]
theorem aR (ns:List Int) (hl:ns.length≤63) (k m:Int) (hm:0 < m):∃ d:Int,0≤d∧d < m∧ae [.scr ns,.int k,.int m]=some (.ok (.int d)):=by
 obtain ⟨c,hc⟩:=xW ns hl k
 refine ⟨dr3 (dr2 (dr1 c k)) m,Hx _ (by omega),G4 _ hm,?_⟩
 have b1:0≤dr1 c k∧dr1 c k < 2147483563:=⟨Hx _ (by omega),G4 _ (by omega)⟩
 have b2:0≤dr2 (dr1 c k)∧dr2 (dr1 c k) < 2147483399:=⟨Hx _ (by omega),G4 _ (by omega)⟩
 have b0:0≤c % 2147483563∧c % 2147483563 < 2147483563:=⟨Hx _ (by omega),G4 _ (by omega)⟩
 show aS 4 bT [.scr ns,.int k,.int m]=_
 have s1:(ac bP 2 (aa (ab 0) (aa (ab 1) ag))) [some (.scr ns),some (.int k),some (.int m),none]=some (.ok (.int c)):=by
  show (match bP [.scr ns,.int k] with | some (.ok d)=>(some (.ok d):Option (Rs Dv)) | _=>none)=_
  rw [hc]
 have e1:(bq 3 (f2 fL (f2 dM (f2 fR (f2 fL (ac bP 2 (aa (ab 0) (aa (ab 1) ag))) (fC (.int 2147483563))) (fC (.int 69069))) (f2 fR (fC (.int 104723)) (f2 dM (ab 1) (fC (.int 1))))) (fC (.int 2147483563)))) [some (.scr ns),some (.int k),some (.int m),none]=some (.nx [some (.scr ns),some (.int k),some (.int m),some (.int (dr1 c k))]):=by
  show cx (bnd (bnd (bnd (bnd ((ac bP 2 (aa (ab 0) (aa (ab 1) ag))) [some (.scr ns),some (.int k),some (.int m),none]) fun x=>fL x (.int 2147483563)) fun x=>fR x (.int 69069)) fun x=>bnd (fR (.int 104723) (.int (k + 1))) fun y=>dM x y) fun x=>fL x (.int 2147483563)) (fun d=>some (.nx [some (.scr ns),some (.int k),some (.int m),some d]))=_
  rw [s1]
  show cx (bnd (bnd (bnd (fL (.int c) (.int 2147483563)) fun x=>fR x (.int 69069)) fun x=>bnd (fR (.int 104723) (.int (k + 1))) fun y=>dM x y) fun x=>fL x (.int 2147483563)) _=_
  rw [mi (by omega),jR (i:=104723) (.inl (by omega))]
  show cx (bnd (bnd (fR (.int (c % 2147483563)) (.int 69069)) fun x=>dM x (.int (104723 * (k + 1)))) fun x=>fL x (.int 2147483563)) _=_
  rw [jR (.inl (by omega))]
  show cx (fL (.int (c % 2147483563 * 69069 + 104723 * (k + 1))) (.int 2147483563)) _=_
  rw [mi (by omega)]
  rfl
 generalize hd1:dr1 c k=d1 at *
 have e2:(bq 3 (f2 fL (f2 dM (f2 fR (ab 3) (ab 3)) (f2 fT (ab 3) (fC (.int 3)))) (fC (.int 2147483399)))) [some (.scr ns),some (.int k),some (.int m),some (.int d1)]=some (.nx [some (.scr ns),some (.int k),some (.int m),some (.int (dr2 d1))]):=by
  show cx (bnd (bnd (fR (.int d1) (.int d1)) fun x=>dM x (.int (d1 / 3))) fun x=>fL x (.int 2147483399)) (fun d=>some (.nx [some (.scr ns),some (.int k),some (.int m),some d]))=_
  rw [jR (.inl (by omega))]
  show cx (fL (.int (d1 * d1 + d1 / 3)) (.int 2147483399)) _=_
  rw [mi (by omega)]
  rfl
 generalize hd2:dr2 d1=d2 at *
 have e3:(aE (f2 fL (f2 fT (f2 fL (f2 dM (f2 fR (ab 3) (ab 3)) (f2 fT (ab 3) (fC (.int 7)))) (fC (.int 2147483647))) (fC (.int 11))) (ab 2))) [some (.scr ns),some (.int k),some (.int m),some (.int d2)]=some (.rt (.int (dr3 d2 m))):=by
  show cx (bnd (bnd (bnd (bnd (fR (.int d2) (.int d2)) fun x=>dM x (.int (d2 / 7))) fun x=>fL x (.int 2147483647)) fun x=>fT x (.int 11)) fun x=>fL x (.int m)) (fun d=>some (.rt d))=_
  rw [jR (.inl (by omega))]
  show cx (bnd (bnd (fL (.int (d2 * d2 + d2 / 7)) (.int 2147483647)) fun x=>fT x (.int 11)) fun x=>fL x (.int m)) _=_
  rw [mi (by omega)]
  show cx (fL (.int ((d2 * d2 + d2 / 7) % 2147483647 / 11)) (.int m)) _=_
  rw [mi hm]
  rfl
 show (match bT [some (.scr ns),some (.int k),some (.int m),none] with | some (.nx _)=>_ | some (.rt d)=>_ | _=>_)=_
 have e:bT [some (.scr ns),some (.int k),some (.int m),none]=some (.rt (.int (dr3 d2 m))):=by
  show sq ((bq 3 _) _) (fun ρ=>sq ((bq 3 _) ρ) _)=_
  rw [e1]
  show sq ((bq 3 _) [some (.scr ns),some (.int k),some (.int m),some (.int d1)]) _=_
  rw [e2]
  exact e3
 rw [e]
def menu:List Str:=[a_ "a.b",a_ "b",a_ "x.a.b",a_ "y.x.a.b",a_ "c.uk",a_ "uk",a_ "d.c.uk",a_ "e.d.c.uk",a_ "w.ck",a_ "v.w.ck",a_ "ck",a_ "g-1.a.b",a_ "7.b",a_ "p.q"]
def okO (o:Option (Rs Dv)):Option (Rs Dv):=match o with
 | some (.ok d)=>some (.ok d)
 | _=>none
theorem nF (ns:List Int) (hl:ns.length≤63) (k:Int):∃ p∈menu,aG [.scr ns,.int k]=some (.ok (.str p)):=by
 obtain ⟨d,h0,h1,hd⟩:=aR ns hl k 14 (by omega)
 have e:aG [.scr ns,.int k]=(match cx (bnd (match ae [.scr ns,.int k,.int 14] with | some (.ok d)=>(some (.ok d):Option (Rs Dv)) | _=>none) fun i=>ixD (.lst (menu.map Dv.str)) i) fun d=>some (.rt d) with
  | some (.nx _)=>some (.ok .non)
  | some (.rt d)=>some (.ok d)
  | _=>none):=by kernel_rfl
 rw [e,hd]
 have hc:d=0∨d=1∨d=2∨d=3∨d=4∨d=5∨d=6∨d=7∨d=8∨d=9∨d=10∨d=11∨d=12∨d=13:=by omega
 rcases hc with rfl | rfl | rfl | rfl | rfl | rfl | rfl | rfl | rfl | rfl | rfl | rfl | rfl | rfl
 · exact ⟨a_ "a.b",by simp [menu],by kernel_rfl⟩
 · exact ⟨a_ "b",by simp [menu],by kernel_rfl⟩
 · exact ⟨a_ "x.a.b",by simp [menu],by kernel_rfl⟩
 · exact ⟨a_ "y.x.a.b",by simp [menu],by kernel_rfl⟩
 · exact ⟨a_ "c.uk",by simp [menu],by kernel_rfl⟩
 · exact ⟨a_ "uk",by simp [menu],by kernel_rfl⟩
 · exact ⟨a_ "d.c.uk",by simp [menu],by kernel_rfl⟩
 · exact ⟨a_ "e.d.c.uk",by simp [menu],by kernel_rfl⟩
 · exact ⟨a_ "w.ck",by simp [menu],by kernel_rfl⟩
 · exact ⟨a_ "v.w.ck",by simp [menu],by kernel_rfl⟩
 · exact ⟨a_ "ck",by simp [menu],by kernel_rfl⟩
 · exact ⟨a_ "g-1.a.b",by simp [menu],by kernel_rfl⟩
 · exact ⟨a_ "7.b",by simp [menu],by kernel_rfl⟩
 · exact ⟨a_ "p.q",by simp [menu],by kernel_rfl⟩
def pths : List Str := [a_ "/", a_ "/x", a_ "/x/", a_ "/x/y", a_ "/xy", a_ "/x/y/z.q", a_ "//", a_ "/-_.9", a_ "/x/y/"]
theorem sX (ns:List Int) (hl:ns.length≤63) (k:Int):∃ p∈pths,bQ [.scr ns,.int k]=some (.ok (.str p)):=by
 obtain ⟨d,h0,h1,hd⟩:=aR ns hl k 9 (by omega)
 have e:bQ [.scr ns,.int k]=(match cx (bnd (match ae [.scr ns,.int k,.int 9] with | some (.ok d)=>(some (.ok d):Option (Rs Dv)) | _=>none) fun i=>ixD (.lst (pths.map Dv.str)) i) fun d=>some (.rt d) with
  | some (.nx _)=>some (.ok .non)
  | some (.rt d)=>some (.ok d)
  | _=>none):=by kernel_rfl
 rw [e,hd]
 have hc:d=0∨d=1∨d=2∨d=3∨d=4∨d=5∨d=6∨d=7∨d=8:=by omega
 rcases hc with rfl | rfl | rfl | rfl | rfl | rfl | rfl | rfl | rfl
 · exact ⟨a_ "/",by simp [pths],by kernel_rfl⟩
 · exact ⟨a_ "/x",by simp [pths],by kernel_rfl⟩
 · exact ⟨a_ "/x/",by simp [pths],by kernel_rfl⟩
 · exact ⟨a_ "/x/y",by simp [pths],by kernel_rfl⟩
 · exact ⟨a_ "/xy",by simp [pths],by kernel_rfl⟩
 · exact ⟨a_ "/x/y/z.q",by simp [pths],by kernel_rfl⟩
 · exact ⟨a_ "//",by simp [pths],by kernel_rfl⟩
 · exact ⟨a_ "/-_.9", by simp [pths], by kernel_rfl⟩
 · exact ⟨a_ "/x/y/",by simp [pths],by kernel_rfl⟩
theorem kH (F:List Dv→Option (Rs Dv)) {f g k:FnE} {ρ:Ev} {a b c d:Dv} (h:f ρ=some (.ok a)) (h':g ρ=some (.ok b)) (h'':k ρ=some (.ok c)) (hF:F [a,b,c]=some (.ok d)):ac F 3 (aa f (aa g (aa k ag))) ρ=some (.ok d):=dv (ah h (ah h' (ah h'' av))) rfl hF
theorem sY {f:FnE} {ρ:Ev} {ds:List Dv} (h:f ρ=some (.ok (.tup ds))):bM f ρ=some (.ok ds):=by unfold bM; rw [h]; rfl
theorem u8 (ns:List Int) (hl:ns.length≤63) (z:Int):∃ s h p O,h∈menu∧p∈pths∧(O=Dv.non∨∃ o∈menu,O=.str o)∧cj [.scr ns,.int z]=some (.ok (.tup [.bl s,.str h,.str p,O])):=by
 obtain ⟨d2,a0,a1,hd2⟩:=aR ns hl (z + 2) 3 (by omega)
 obtain ⟨o,ho,hn3⟩:=nF ns hl (z + 3)
 obtain ⟨d0,b0,b1,hd0⟩:=aR ns hl z 2 (by omega)
 obtain ⟨h,hh,hn1⟩:=nF ns hl (z + 1)
 obtain ⟨p,hp,hp4⟩:=sX ns hl (z + 4)
 have hO:∃ O,(O=Dv.non∨∃ o∈menu,O=.str o)∧ixD (.lst [.non,.str o,.str o]) (.int d2)=some (.ok O):=by
  have hc:d2=0∨d2=1∨d2=2:=by omega
  rcases hc with rfl | rfl | rfl
  · exact ⟨.non,.inl rfl,rfl⟩
  · exact ⟨.str o,.inr ⟨o,ho,rfl⟩,rfl⟩
  · exact ⟨.str o,.inr ⟨o,ho,rfl⟩,rfl⟩
 obtain ⟨O,hO,hix⟩:=hO
 refine ⟨(d0 == 0),h,p,O,hh,hp,hO,cm ?_⟩
 show dc [some (.scr ns),some (.int z),none]=_
 unfold dc
 have e:f2 ixD (cO (aa (fC .non) (aa (ac aG 2 (aa (ab 0) (aa (f2 dM (ab 1) (fC (.int 3))) ag))) (aa (ac aG 2 (aa (ab 0) (aa (f2 dM (ab 1) (fC (.int 3))) ag))) ag)))) (ac ae 3 (aa (ab 0) (aa (f2 dM (ab 1) (fC (.int 2))) (aa (fC (.int 3)) ag)))) [some (.scr ns),some (.int z),none]=some (.ok O):=by
  rw [bg (iK (ah rfl (ah (cV aG rfl rfl hn3) (ah (cV aG rfl rfl hn3) av))) (by show 3≤100000; decide)) (kH ae rfl rfl rfl hd2)]
  exact hix
 rw [aq (ρ':=[some (.scr ns),some (.int z),some O]) (bd e rfl)]
 refine bO (fw (ah ?_ (ah (cV aG rfl rfl hn1) (ah (cV bQ rfl rfl hp4) (ah rfl av)))) (by show 4≤100000; decide))
 rw [bg (kH ae rfl rfl rfl hd0) rfl]
 rfl
abbrev bo (k:Bool):Option (Rs Dv):=some (.ok (.bl k))
def En:List Str:=menu
def okY:Option (Rs Dv)→Bool
 | some (.ok (.bl true))=>true
 | _=>false
theorem mj {o:Option (Rs Dv)} (h:okY o=true):o=some (.ok (.bl true)):=by
 unfold okY at h; split at h
 · rfl
 · cases h
def okB:Option (Rs Dv)→Bool
 | some (.ok (.bl _))=>true
 | _=>false
theorem vX {o:Option (Rs Dv)} (h:okB o=true):∃ k,o=bo k:=by
 unfold okB at h; split at h
 · exact ⟨_,rfl⟩
 · cases h
def okF:Option (Rs Dv)→Bool
 | some (.ok (.bl false))=>true
 | _=>false
def nms:List Str:=[a_ "n",a_ "m-1",a_ "safe-a",a_ "N_2"]
def wts:List Str:=[a_ "5",a_ "",a_ "a!b~"]
theorem Bq:(nms.all fun n=>okY (bJ [.str n]))=true:=by kernel_rfl
theorem Br:(wts.all fun n=>okY (dg [.str n]))=true:=by kernel_rfl
theorem Bs:(En.all fun n=>okY (bj [.str n]))=true:=by kernel_rfl
theorem Bt:(pths.all fun n=>okY (cF [.str n]))=true:=by kernel_rfl
theorem E7 {n:Str} (h:n∈nms):bJ [.str n]=bo true:=mj (ci (p:=fun n=>okY (bJ [.str n])) Bq h)
theorem Fa {n:Str} (h:n∈wts):dg [.str n]=bo true:=mj (ci (p:=fun n=>okY (dg [.str n])) Br h)
theorem DG {n:Str} (h:n∈En):bj [.str n]=bo true:=mj (ci (p:=fun n=>okY (bj [.str n])) Bs h)
theorem Eu {n:Str} (h:n∈pths):cF [.str n]=bo true:=mj (ci (p:=fun n=>okY (cF [.str n])) Bt h)
theorem me {h:Str} (q:h∈menu):h∈En:=q
theorem oY {l:List Dv} {d:Int} (h0:0≤d) (h1:d < l.length):∃ x∈l,ixD (.lst l) (.int d)=some (.ok x):=by
 have h2:d.toNat < l.length:=by omega
 refine ⟨l[d.toNat],IE h2,?_⟩
 show (match atD l d with | some d=>_ | none=>_)=_
 unfold atD
 rw [if_pos h0,i_ h2]
theorem DH {f:FnE} {ρ:Ev} {d:Dv} (h:f ρ=some (.ok d)):aE f ρ=some (.rt d):=by unfold aE; rw [h]; rfl
theorem Bu {a b:FnB} {ρ:Ev} {x y:Bool} (ha:a ρ=some (.ok x)) (hb:b ρ=some (.ok y)):bOr a b ρ=some (.ok (x || y)):=by
 unfold bOr; rw [ha]; cases x
 · exact hb
 · rfl
theorem DI (i:Int):bf [.int i]=bo (decide (0≤i) && decide (i≤9999)):=by
 have e:aY [.int i,.int 0,.int 9999]=bo (decide (0≤i) && decide (i≤9999)):=by
  by_cases h0:0≤i
  · simp [aY,aS,aX,aA,sq,br,aE,cx,bnd,bOr,ce,fB,toB,ab,f1,f2,gC,dE,bH,dX,leX,h0]
  · simp [aY,aS,aX,aA,sq,br,aE,cx,bnd,bOr,ce,fB,toB,ab,f1,f2,gC,dE,bH,dX,leX,h0]
 simp [bf,aS,dB,aE,cx,bnd,ac,aa,ag,ab,fC,e]
theorem ml {i:Int} (h0:0≤i) (h1:i≤9999):bf [.int i]=bo true:=by
 rw [DI]; simp [h0,h1]
def Mo (u:Dv):Prop:=u=.non∨∃ i:Int,0≤i∧i≤9999∧u=.int i
theorem Bv {u:Dv} (h:Mo u):aI [u]=bo true:=by
 rcases h with rfl | ⟨i,h0,h1,rfl⟩
 · simp [aI,aS,aQ,aE,cx,bnd,toB,ab,fC,f2,vOr,isN]
 · simp [aI,aS,aQ,aE,cx,bnd,toB,ac,aa,ag,ab,fC,f2,vOr,isN,ml h0 h1]
theorem xX {R:Str} (h:R=a_ "any"∨R=a_ "near"):gS [.str R]=bo true∧∃ r,eqX (.str R) (.str "any")=bo r∧eqX (.str R) (.str "near")=bo (!r):=by
 rcases h with rfl | rfl
 · exact ⟨by kernel_rfl,true,by kernel_rfl,by kernel_rfl⟩
 · exact ⟨by kernel_rfl,false,by kernel_rfl,by kernel_rfl⟩
structure aF where
 nm:Str
 w:Str
 house:Str
 ex:Bool
 path:Str
 ends:Option Int
 S:Bool
 R:Str
 md:Int
 us:Int
deriving DecidableEq
def eO:Option Int→Dv
 | none=>.non
 | some i=>.int i
def enc (n:aF):Dv:=.tup [.str n.nm,.str n.w,.str n.house,.bl n.ex,.str n.path,eO n.ends,.bl n.S,.str n.R,.int n.md,.int n.us]
def ek (n:aF):Dv:=.tup [.str n.nm,.str n.house,.str n.path]
def key (n:aF):List Str:=[n.nm,n.house,n.path]
structure Good (n:aF):Prop where
 nm:n.nm∈nms
 w:n.w∈wts
 house:n.house∈En
 path:n.path∈pths
 R:n.R=a_ "any"∨n.R=a_ "near"
 ends:∀ i,n.ends=some i→0≤i∧i≤59
 mk0:0≤n.md
 mu:n.md≤n.us
 us:n.us≤39
theorem DJ {n:aF} (g:Good n):Mo (eO n.ends):=by
 cases h:n.ends with
 | none=>exact .inl rfl
 | some i=>exact .inr ⟨i,(g.ends i h).1,by have:=(g.ends i h).2; omega,rfl⟩
theorem Bw {n:aF} (g:Good n):cG [enc n]=bo true:=by
 have e0:bC [enc n,.int 10]=bo true:=by kernel_rfl
 have e1:=ml g.mk0 (by have:=g.mu; have:=g.us; omega)
 have e2:=ml (Int.le_trans g.mk0 g.mu) (by have:=g.us; omega)
 have e3:aI [eO n.ends]=bo true:=Bv (DJ g)
 unfold enc at e0 ⊢
 simp [cG,aS,gq,aA,sq,br,aE,cx,bnd,bOr,ce,fB,toB,ac,aa,ag,ab,fC,f1,f2,ixD,atD,cO,fB1,dE,bH,e0,e1,e2,E7 g.nm,Fa g.w,DG g.house,Eu g.path,e3,(xX g.R).1,j8,iI,leX,g.mu]
def signs0:List Str:=nms ++ (wts ++ (En ++ (pths ++ [a_ "any",a_ "near"])))
theorem xY:(signs0.all fun x=>FR (.str x))=true:=by kernel_rfl
theorem kJ {x:Str} (h:x∈signs0):FR (.str x)=true:=ci (p:=fun x=>FR (.str x)) xY h
theorem DK (o:Option Int):It1 0 (eO o):=by cases o; exact Bp; exact it_int
theorem Good.sR {n:aF} (g:Good n):n.R∈signs0:=by
 unfold signs0
 rcases g.R with h | h <;> rw [h] <;> simp
theorem oZ {n:aF} (g:Good n):It1 1 (enc n):=by
 refine mf (k:=0) fun d hd=>?_
 simp only [p_,FP,or_false] at hd
 rcases hd with rfl | rfl | rfl | rfl | rfl | rfl | rfl | rfl | rfl | rfl
 · exact gz (kJ (by simp [signs0,g.nm]))
 · exact gz (kJ (by simp [signs0,g.w]))
 · exact gz (kJ (by simp [signs0,g.house]))
 · exact Bo
 · exact gz (kJ (by simp [signs0,g.path]))
 · exact DK _
 · exact Bo
 · exact gz (kJ g.sR)
 · exact it_int
 · exact it_int
theorem sZ {n:aF} (g:Good n):It1 1 (ek n):=by
 refine mf (k:=0) fun d hd=>?_
 simp only [p_,FP,or_false] at hd
 rcases hd with rfl | rfl | rfl
 · exact gz (kJ (by simp [signs0,g.nm]))
 · exact gz (kJ (by simp [signs0,g.house]))
 · exact gz (kJ (by simp [signs0,g.path]))
theorem Bx (a b:aF):Gc (bU (ek a)) (bU (ek b))=decide (key a=key b):=by
 rw [FY]
 simp [ek,key,bU,toPys,Gc,HJ]
theorem By (a b:Option Int):Gc (bU (eO a)) (bU (eO b))=decide (a=b):=by
 cases a <;> cases b <;> simp [eO,bU,Gc]
 rw [FY]; simp
theorem xZ (a b:aF):Gc (bU (enc a)) (bU (enc b))=decide (a=b):=by
 rw [FY]
 have e:=By a.ends b.ends
 cases a; cases b
 simp [enc,bU,toPys,Gc,HJ,e]
theorem DM {a b:aF} (ga:Good a) (gb:Good b):eqX (ek a) (ek b)=bo (decide (key a=key b))∧neX (ek a) (ek b)=bo (!decide (key a=key b)):=by
 have h1:=(sZ ga).okP (by omega)
 have h2:=(sZ gb).okP (by omega)
 have h3:=Bx a b
 have h0:eqS (ek a) (ek b)=none:=rfl
 constructor
 · unfold eqX; rw [h0,h1,h2,h3]; rfl
 · unfold neX; rw [h0,h1,h2,h3]; rfl
def dQ (n:aF) (now:Int):Bool:=match n.ends with
 | none=>false
 | some i=>decide (i≤now)
def ej (js:List aF):Dv:=.tup (js.map enc)
structure Jar (js:List aF):Prop where
 g:∀ n∈js,Good n
 s:∀ i (h:i + 1 < js.length),js[i].md≤js[i + 1].md
 k:(js.map key).Nodup
 l:js.length≤18
theorem jm {α β:Type} {o:Option (Rs α)} {a:α} {k:α→Option (Rs β)} (h:o=some (.ok a)):bnd o k=k a:=by rw [h]; rfl
theorem gX:∀ (n:Nat) (lo:Int),rng lo n=(f_ n).map fun i:Nat=>Dv.int (lo + (i:Int))
 | 0,lo=>rfl
 | n + 1,lo=>by
  rw [Lk]
  show Dv.int lo :: rng (lo + 1) n=_
  rw [gX n (lo + 1)]
  simp only [xy,GC]
  congr 1
  · simp
  · congr 1
    funext i
    simp only [Mh]
    congr 1
    omega
theorem s0 {f g:jr} {ρ ρ':Ev} {ds ds':List Dv} (h:f ρ ds=some (.nx ρ' ds')):fA f g ρ ds=g ρ' ds':=by unfold fA; rw [h]
theorem fK {xs:List Dv} {i:Nat} {ρ:Ev} (h:ρ[i]?=some (some (.lst xs))):bM (ab i) ρ=some (.ok xs):=by
 unfold bM ab
 rw [h]
 rfl
theorem eH {js:List aF} {i:Nat} {ρ:Ev} (h:ρ[i]?=some (some (ej js))):bM (ab i) ρ=some (.ok (js.map enc)):=by
 unfold bM ab
 rw [h]
 rfl
theorem x3 {xs:List aF} (hg:∀ o∈xs,Good o):It1 2 (.lst (xs.map enc)):=jk fun d hd=>by
 obtain ⟨x,hx,rfl⟩:=C_.mp hd
 exact oZ (hg x hx)
theorem DN {xs:List aF} (hg:∀ o∈xs,Good o):It1 2 (ej xs):=mf fun d hd=>by
 obtain ⟨x,hx,rfl⟩:=C_.mp hd
 exact oZ (hg x hx)
theorem nil_eq {xs:List aF} (hg:∀ o∈xs,Good o):eqX (.lst (xs.map enc)) (.lst [])=bo xs.isEmpty:=by
 cases xs with
 | nil=>kernel_rfl
 | cons o cz =>
  have i2:=(x3 hg).okP (by omega)
  have i3:okP (.lst [])=true:=by kernel_rfl
  unfold eqX
  rw [show eqS (.lst ((o :: cz).map enc)) (.lst [])=none from rfl,i2,i3]
  simp [bU,toPys,Gc,HJ]
theorem mn:∀ l:List Int,imms (l.map Dv.int)=true
 | []=>rfl
 | i :: l=>by show (imm (.int i) && imms (l.map Dv.int))=true; rw [mn l]; rfl
theorem gY (a b:Int):cq (.int a) (.int b)=some (.ok (.int (a + b))):=rfl
structure JI (B:Nat) (js:List aF) (now:Int):Prop where
 g:∀ n∈js,Good n
 s:js.Pairwise fun a b=>a.md≤b.md
 k:(js.map key).Nodup
 l:js.length≤B
 n0:0≤now
 n1:now≤3 * B
 m:∀ n∈js,n.md≤now
theorem JI.keep {B:Nat} {js:List aF} {now d:Int} (J:JI B js now) (h0:0≤d) (h1:d < 4):JI (B + 1) js (now + d) :=
 ⟨J.g,J.s,J.k,by have:=J.l; omega,by have:=J.n0; omega,by have:=J.n1; omega,fun n hn=>by have:=J.m n hn; omega⟩
theorem JI.add {B:Nat} {js:List aF} {now d:Int} {n:aF} (J:JI B js now) (h0:0≤d) (h1:d < 4) (g:Good n) (hm:n.md=now + d) (hf:js.filter (fun o=>decide (key o=key n))=[]):JI (B + 1) (js ++ [n]) (now + d):=by
 have hk:∀ o∈js,key o≠key n:=fun o ho e=>by
  have:o∈js.filter (fun o=>decide (key o=key n)):=FX.mpr ⟨ho,by simp [e]⟩
  rw [hf] at this; cases this
 refine ⟨fun x hx=>?_,?_,?_,by have:=J.l; simp; omega,by have:=J.n0; omega,by have:=J.n1; omega,fun x hx=>?_⟩
 · rcases Gj.mp hx with h | h
   · exact J.g x h
   · rw [Gs.mp h]; exact g
 · refine List.pairwise_append.mpr ⟨J.s,List.pairwise_singleton ..,fun a ha b hb=>?_⟩
   rw [Gs.mp hb,hm]
   have:=J.m a ha
   omega
 · rw [G0]
   refine List.nodup_append.mpr ⟨J.k,by simp,fun a ha b hb e=>?_⟩
   obtain ⟨o,ho,rfl⟩:=C_.mp ha
   simp only [xy,List.map_nil,Gs] at hb
   exact hk o ho (e.trans hb)
 · rcases Gj.mp hx with h | h
   · have:=J.m x h; omega
   · rw [Gs.mp h,hm]; omega
theorem JI.jar {B:Nat} {js:List aF} {now:Int} (J:JI B js now) (hB:B≤18):Jar js :=
 ⟨J.g,fun i h=>Ky.mp J.s i (i + 1) (by omega) h (by omega),J.k,by have:=J.l; omega⟩
def jb (ns:List Int) (z m now:Int):Ev:=[some (.scr ns),some (.int z),some (.int m),none,some (.int now),none,none,none,none,none,none,none,none,none,none,none]
def cJ:FnB:=(fB (f2 eqX (aN [("_law_note",15)] (bM (ab 3)) (some (fB (f2 eqX (dD (aa (f2 ixD (ab 0) (fC (.int 0))) (aa (f2 ixD (ab 0) (fC (.int 2))) (aa (f2 ixD (ab 0) (fC (.int 4))) ag)))) (dD (aa (f2 ixD (ab 1) (fC (.int 0))) (aa (f2 ixD (ab 1) (fC (.int 2))) (aa (f2 ixD (ab 1) (fC (.int 4))) ag))))))) (ab 0)) (cO ag)))
theorem DO {js:List aF} {n:aF} {ρ:Ev} (hg:∀ o∈js,Good o) (gn:Good n) (hl:js.length≤18) (h3:ρ[3]?=some (some (.lst (js.map enc)))) (h15:ρ[15]?=some (some (enc n))):cJ ρ=some (.ok (js.filter (fun o=>decide (key o=key n))).isEmpty):=by
 have hc:vz [("_law_note",15)] ρ=[none,some (enc n)]:=by simp [vz,h15]
 have e1:=cv (cs:=[("_law_note",15)]) (src:=bM (ab 3)) (tst:=(fB (f2 eqX (dD (aa (f2 ixD (ab 0) (fC (.int 0))) (aa (f2 ixD (ab 0) (fC (.int 2))) (aa (f2 ixD (ab 0) (fC (.int 4))) ag)))) (dD (aa (f2 ixD (ab 1) (fC (.int 0))) (aa (f2 ixD (ab 1) (fC (.int 2))) (aa (f2 ixD (ab 1) (fC (.int 4))) ag))))))) (elt:=ab 0) (ρ:=ρ) enc (fun o=>decide (key o=key n)) enc (fK h3) (by omega) fun o ho=>⟨by
  rw [hc]
  exact bV ((bg (x:=ek o) (y:=ek n) rfl rfl).trans (DM (hg o ho) gn).1),by rw [hc]; rfl⟩
 exact bV ((bg e1 rfl).trans (nil_eq fun o ho=>hg o (FX.mp ho).1))
theorem td (ns:List Int) (hl:ns.length≤63) (z m now k:Int) {B:Nat} {js:List aF} (J:JI B js now) (hB:B≤10) :
 ∃ ρ' js' now',aM ((jb ns z m now).set 5 (some (.int k))) (js.map enc)=some (.nx ρ' (js'.map enc))∧fgt [5,6,7,8,9,10,11,12,13,14,15] ρ'=jb ns z m now'∧JI (B + 1) js' now':=by
 obtain ⟨here,hh⟩:∃ here,here=z + 1 + 14 * k:=⟨_,rfl⟩
 obtain ⟨d0,a0,b0,e0⟩:=aR ns hl here 4 (by omega)
 obtain ⟨d1,a1,b1,e1⟩:=aR ns hl (here + 1) 4 (by omega)
 obtain ⟨d2,a2,b2,e2⟩:=aR ns hl (here + 2) 3 (by omega)
 obtain ⟨d4,a4,b4,e4⟩:=aR ns hl (here + 4) 2 (by omega)
 obtain ⟨d6,a6,b6,e6⟩:=aR ns hl (here + 6) 2 (by omega)
 obtain ⟨d7,a7,b7,e7⟩:=aR ns hl (here + 7) 60 (by omega)
 obtain ⟨d8,a8,b8,e8⟩:=aR ns hl (here + 8) 2 (by omega)
 obtain ⟨d9,a9,b9,e9⟩:=aR ns hl (here + 9) 3 (by omega)
 obtain ⟨d10,a10,b10,e10⟩:=aR ns hl (here + 10) 5 (by omega)
 obtain ⟨n3,hn3,e3⟩:=nF ns hl (here + 3)
 obtain ⟨p5,hp5,e5⟩:=sX ns hl (here + 5)
 obtain ⟨x1,m1,i1⟩:=oY (l:=[.str "n",.str "m-1",.str "safe-a",.str "N_2"]) a1 b1
 obtain ⟨x2,m2,i2⟩:=oY (l:=[.str "5",.str "",.str "a!b~"]) a2 b2
 obtain ⟨x6,m6,i6⟩:=oY (l:=[.non,.int d7]) a6 b6
 obtain ⟨x9,m9,i9⟩:=oY (l:=[.str "any",.str "any",.str "near"]) a9 b9
 have g1:∃ nm∈nms,x1=.str nm:=by
  simp only [p_,FP,or_false] at m1
  rcases m1 with rfl | rfl | rfl | rfl <;> exact ⟨_,by simp [nms],rfl⟩
 have g2:∃ nm∈wts,x2=.str nm:=by
  simp only [p_,FP,or_false] at m2
  rcases m2 with rfl | rfl | rfl <;> exact ⟨_,by simp [wts],rfl⟩
 have g6:∃ o:Option Int,(∀ i,o=some i→0≤i∧i≤59)∧x6=eO o:=by
  simp only [p_,FP,or_false] at m6
  rcases m6 with rfl | rfl
  · exact ⟨none,by simp,rfl⟩
  · exact ⟨some d7,fun i hi=>by cases hi; omega,rfl⟩
 have g9:∃ R,(R=a_ "any"∨R=a_ "near")∧x9=.str R:=by
  simp only [p_,FP,or_false] at m9
  rcases m9 with rfl | rfl | rfl
  · exact ⟨_,.inl rfl,rfl⟩
  · exact ⟨_,.inl rfl,rfl⟩
  · exact ⟨_,.inr rfl,rfl⟩
 obtain ⟨nm,hnm,rfl⟩:=g1
 obtain ⟨w,hw,rfl⟩:=g2
 obtain ⟨o,ho,rfl⟩:=g6
 obtain ⟨R,hR,rfl⟩:=g9
 let n:aF:=⟨nm,w,n3,d4 == 0,p5,o,d8 == 0,R,now + d0,now + d0 + d10⟩
 have q0:=J.n0
 have q1:=J.n1
 have gn:Good n:=⟨hnm,hw,me hn3,hp5,hR,ho,by show 0≤now + d0; omega,by show now + d0≤now + d0 + d10; omega,by show now + d0 + d10≤39; omega⟩
 let E15:Ev:=[some (.scr ns),some (.int z),some (.int m),none,some (.int (now + d0)),some (.int k),some (.int here),some (.str nm),some (.str w),some (eO o),some (.bl (d4 == 0)),some (.tup [.str nm,.str w,.str n3,.bl (d4 == 0),.str p5]),some (.str R),some (.bl (d8 == 0)),some (.int (now + d0 + d10)),some (enc n)]
 have hc:=DO (ρ:=E15.set 3 (some (.lst (js.map enc)))) J.g gn (by have:=J.l; omega) rfl rfl
 have hmul:fR (.int 14) (.int k)=some (.ok (.int (14 * k))):=jR (.inl (by omega))
 have hrun:aM ((jb ns z m now).set 5 (some (.int k))) (js.map enc)=wZ 3 cJ (yA (ab 15)) BW E15 (js.map enc):=by
  have eB:aM=(fA (fW 6 (f2 cq (f2 cq (ab 1) (fC (.int 1))) (f2 fR (fC (.int 14)) (ab 5)))) (fA (fW 4 (f2 cq (ab 4) (ac ae 3 (aa (ab 0) (aa (ab 6) (aa (fC (.int 4)) ag)))))) (fA (fW 7 (f2 ixD (cO (aa (fC (.str "n")) (aa (fC (.str "m-1")) (aa (fC (.str "safe-a")) (aa (fC (.str "N_2")) ag))))) (ac ae 3 (aa (ab 0) (aa (f2 cq (ab 6) (fC (.int 1))) (aa (fC (.int 4)) ag)))))) (fA (fW 8 (f2 ixD (cO (aa (fC (.str "5")) (aa (fC (.str "")) (aa (fC (.str "a!b~")) ag)))) (ac ae 3 (aa (ab 0) (aa (f2 cq (ab 6) (fC (.int 2))) (aa (fC (.int 3)) ag)))))) (fA (fW 9 (f2 ixD (cO (aa (fC .non) (aa (ac ae 3 (aa (ab 0) (aa (f2 cq (ab 6) (fC (.int 7))) (aa (fC (.int 60)) ag)))) ag))) (ac ae 3 (aa (ab 0) (aa (f2 cq (ab 6) (fC (.int 6))) (aa (fC (.int 2)) ag)))))) (fA (fW 10 (f2 eqX (ac ae 3 (aa (ab 0) (aa (f2 cq (ab 6) (fC (.int 4))) (aa (fC (.int 2)) ag)))) (fC (.int 0)))) (fA (fW 11 (dD (aa (ab 7) (aa (ab 8) (aa (ac aG 2 (aa (ab 0) (aa (f2 cq (ab 6) (fC (.int 3))) ag))) (aa (ab 10) (aa (ac bQ 2 (aa (ab 0) (aa (f2 cq (ab 6) (fC (.int 5))) ag))) ag))))))) (fA (fW 12 (f2 ixD (cO (aa (fC (.str "any")) (aa (fC (.str "any")) (aa (fC (.str "near")) ag)))) (ac ae 3 (aa (ab 0) (aa (f2 cq (ab 6) (fC (.int 9))) (aa (fC (.int 3)) ag)))))) (fA (fW 13 (f2 eqX (ac ae 3 (aa (ab 0) (aa (f2 cq (ab 6) (fC (.int 8))) (aa (fC (.int 2)) ag)))) (fC (.int 0)))) (fA (fW 14 (f2 cq (ab 4) (ac ae 3 (aa (ab 0) (aa (f2 cq (ab 6) (fC (.int 10))) (aa (fC (.int 5)) ag)))))) (fA (fW 15 (f2 cq (ab 11) (dD (aa (ab 9) (aa (ab 13) (aa (ab 12) (aa (ab 4) (aa (ab 14) ag)))))))) (wZ 3 cJ (yA (ab 15)) BW)))))))))))):=rfl
  rw [eB]
  subst hh
  simp [jb,fA,fW,yy,bnd,ac,aa,ag,ab,fC,f2,dD,cO,gY,hmul,e0,e1,e2,e3,e4,e5,e6,e7,e8,e9,e10,i1,i2,i6,i9,eqX,eqS,E15,enc,n]
  simp [cq]
 rw [hrun]
 cases hf:(js.filter (fun o=>decide (key o=key n))) with
 | nil =>
  rw [hf] at hc
  refine ⟨E15,js ++ [n],now + d0,?_,rfl,J.add a0 b0 gn rfl hf⟩
  unfold wZ
  rw [hc]
  show (if (js.map enc).length < 100000 then _ else _)=_
  rw [if_pos (by have:=J.l; simp; omega)]
  show some (Fo.nx _ (js.map enc ++ [enc n]))=_
  simp
 | cons c r =>
  rw [hf] at hc
  refine ⟨E15,js,now + d0,?_,rfl,J.keep a0 b0⟩
  unfold wZ
  rw [hc]
  rfl
theorem o6 (ns:List Int) (hl:ns.length≤63) (z m:Int):∀ (ks:List Int) (ρ:Ev) (now:Int) (B:Nat) (js:List aF),B + ks.length≤10→fgt [5,6,7,8,9,10,11,12,13,14,15] ρ=jb ns z m now→JI B js now →
 ∃ js' now',lm 5 [5,6,7,8,9,10,11,12,13,14,15] aM (ks.map Dv.int) ρ (js.map enc)=some (.nx (jb ns z m now') (js'.map enc))∧JI (B + ks.length) js' now'
 | [],ρ,now,B,js,_,hρ,J=>⟨js,now,by show some (Fo.nx _ _)=_; rw [hρ],J⟩
 | k :: ks,ρ,now,B,js,hb,hρ,J=>by
  simp only [Hh] at hb
  obtain ⟨ρ',js',now',e,hρ',J'⟩:=td ns hl z m now k J (by omega)
  obtain ⟨js2,now2,e2,J2⟩:=o6 ns hl z m ks ρ' now' (B + 1) js' (by omega) hρ' J'
  refine ⟨js2,now2,?_,by rw [Hh,show B + (ks.length + 1)=B + 1 + ks.length by omega]; exact J2⟩
  show (match aM ((fgt _ ρ).set 5 (some (.int k))) (js.map enc) with
   | some (.nx ρ' xs')=>lm 5 _ aM (ks.map Dv.int) ρ' xs'
   | o=>o)=_
  rw [hρ,e]
  exact e2
theorem Bz (ns:List Int) (hl:ns.length≤63) (z:Int) (m:Nat) (hm:m≤8):∃ js now,eV [.scr ns,.int z,.int m]=some (.ok (ej js))∧Jar js∧js.length≤m∧JI m js now:=by
 obtain ⟨d,a0,b0,e0⟩:=aR ns hl z (m + 1) (by omega)
 obtain ⟨c,rfl⟩:∃ c:Nat,d=(c:Int):=⟨d.toNat,by omega⟩
 have hr:iH [.int (c:Int)]=some (.ok (((f_ c).map fun i:Nat=>(i:Int)).map Dv.int)):=by
  rw [oX (by omega),gX]
  simp
 obtain ⟨js,now,e,J⟩:=o6 ns hl z m ((f_ c).map fun i:Nat=>(i:Int)) (jb ns z m 0) 0 0 [] (by simp; omega) rfl ⟨by simp,Jz,by simp,by simp,by omega,by omega,by simp⟩
 have hlen:((f_ c).map fun i:Nat=>(i:Int)).length=c:=by simp
 rw [hlen] at J
 have J5:=J.l
 refine ⟨js,now,?_,J.jar (by omega),by omega,⟨J.g,J.s,J.k,by omega,J.n0,by have:=J.n1; omega,J.m⟩⟩
 refine cm (d:=ej js) ?_
 show yB 3 ag _ [some (.scr ns),some (.int z),some (.int m),none,none,none,none,none,none,none,none,none,none,none,none,none]=_
 have hsrc:(fun ρ=>bnd ((aa (ac ae 3 (aa (ab 0) (aa (ab 1) (aa (f2 cq (ab 2) (fC (.int 1))) ag)))) ag) ρ) iH) (jb ns z m 0)=some (.ok (((f_ c).map fun i:Nat=>(i:Int)).map Dv.int)):=by
  have h:(aa (ac ae 3 (aa (ab 0) (aa (ab 1) (aa (f2 cq (ab 2) (fC (.int 1))) ag)))) ag) (jb ns z m 0)=some (.ok [.int (c:Int)]):=by
   simp [bnd,aa,ag,ac,fC,ab,f2,jb,gY,e0]
  exact (jm (k:=iH) h).trans hr
 have hfor:w9 5 [5,6,7,8,9,10,11,12,13,14,15] (fun ρ=>bnd ((aa (ac ae 3 (aa (ab 0) (aa (ab 1) (aa (f2 cq (ab 2) (fC (.int 1))) ag)))) ag) ρ) iH) aM (jb ns z m 0) []=some (.nx (jb ns z m now) (js.map enc)):=by
  unfold w9
  rw [hsrc]
  show (if imms (((f_ c).map fun i:Nat=>(i:Int)).map Dv.int)=true then _ else none)=_
  rw [if_pos (mn _)]
  exact e
 have hle:js.length≤100000:=by omega
 have hret:yz 3 (fB1 fV (aa (ab 3) ag)) (jb ns z m now) (js.map enc)=some (.rt (ej js)):=by
  unfold yz
  rw [bS (ah (x:=.lst (js.map enc)) rfl av)]
  rfl
 have hbody:(fA (fW 4 (fC (.int 0))) (fA (w9 5 [5,6,7,8,9,10,11,12,13,14,15] (fun ρ=>bnd ((aa (ac ae 3 (aa (ab 0) (aa (ab 1) (aa (f2 cq (ab 2) (fC (.int 1))) ag)))) ag) ρ) iH) aM) (yz 3 (fB1 fV (aa (ab 3) ag))))) [some (.scr ns),some (.int z),some (.int m),none,none,none,none,none,none,none,none,none,none,none,none,none] []=some (.rt (ej js)):=by
  rw [s0 (show fW 4 (fC (.int 0)) [some (.scr ns),some (.int z),some (.int m),none,none,none,none,none,none,none,none,none,none,none,none,none] []=some (.nx (jb ns z m 0) []) from rfl)]
  rw [s0 hfor]
  exact hret
 unfold yB
 show (if ([]:List Dv).length≤100000 then _ else none)=_
 rw [if_pos (by simp)]
 exact (congrArg (fun o=>match o with | some (Fo.nx ρ' ds')=>some (Fl.nx (List.set ρ' 3 (some (Dv.lst ds')))) | some (Fo.rt d)=>some (Fl.rt d) | none=>none) hbody).trans rfl
theorem tj (n:aF):jc [enc n]=some (.ok (ek n)):=by simp [jc,aS,u0,aA,sq,br,aE,ib,bN,bq,cx,bnd,bOr,ia,ce,fB,toB,ac,dF,aa,ag,ab,fC,f1,f2,ixD,atD,vOr,gC,mz,fIf,dD,cO,fB1,fM,dG,cg,isN,mB,dE,bH,du,dN,dX,enc,ek]
theorem jo:∀ js:List aF,keysOf (js.map ek)=some (js.map key)
 | []=>rfl
 | n :: js=>by
  show (match bh [.str n.nm,.str n.house,.str n.path],keysOf (js.map ek) with | some k,some ks=>some (k :: ks) | _,_=>none)=_
  rw [jo js]
  rfl
theorem u9 {js:List aF} (J:Jar js):aT [ej js]=bo true:=by
 have e1:aK 1 [] (bM (ab 0)) (gN 0) none (ac jc 1 (aa (ab 0) ag)) [some (ej js),none]=some (.ok (.lst (js.map ek))) :=
  sW enc ek (eH rfl) (by have:=J.l; omega) fun n hn=>ie jc rfl (tj n)
 have e2:iN [.lst (js.map ek)]=some (.ok (.int js.length)):=by
  show (match keysOf (js.map ek) with | some ks=>if ks.Nodup∧ks.length≤18 then (some (.ok (.int ks.length)):Option (Rs Dv)) else none | none=>none)=_
  rw [jo]
  dsimp only
  rw [if_pos ⟨J.k,by simpa using J.l⟩]
  simp
 simp only [aT,aS,bw]
 simp [aA,sq,bq,cx,bnd,e1]
 simp [aE,f2,fB1,aa,ag,ab,bnd,cx,e2,cP,eqX,eqS]
theorem all_map {α:Type} (p:α→Bool) (l:List α):j8 [.lst (l.map fun a=>Dv.bl (p a))]=bo (l.all p):=by
 unfold j8
 dsimp only
 rw [l8 p l]
 dsimp only
 rw [List.all_map]
 rfl
theorem kK {α:Type} (l:List α):j8 [.lst (l.map fun _=>Dv.bl true)]=bo true:=by
 rw [all_map (fun _=>true) l]
 simp
theorem BA {js:List aF} {i:Nat} (h:i < js.length):ixD (ej js) (.int i)=some (.ok (enc js[i])):=by
 show (match atD (js.map enc) (i:Int) with | some d=>_ | none=>_)=_
 unfold atD
 rw [if_pos (by omega)]
 simp [h]
theorem BB (n:aF):ixD (enc n) (.int 8)=some (.ok (.int n.md)):=rfl
theorem BC (js:List aF) (hl:js.length≤18):(fun ρ=>bnd ((aa (fC (.int 1)) (aa (fB1 cP (aa (ab 0) ag)) ag)) ρ) tL) [some (ej js)]=some (.ok ((f_ (js.length - 1)).map fun i:Nat=>Dv.int (1 + (i:Int)))):=by
 have h:(aa (fC (.int 1)) (aa (fB1 cP (aa (ab 0) ag)) ag)) [some (ej js)]=some (.ok [.int 1,.int js.length]):=by
  simp [bnd,aa,ag,fB1,fC,ab,ej,cP]
 refine (jm (k:=tL) h).trans ?_
 rw [Bn (by omega),gX,show ((js.length:Int) - 1).toNat=js.length - 1 by omega]
def Ew:FnE:=(f2 leX (f2 ixD (f2 ixD (ab 1) (f2 wE (ab 0) (fC (.int 1)))) (fC (.int 8))) (f2 ixD (f2 ixD (ab 1) (ab 0)) (fC (.int 8))))
theorem x4 {js:List aF} (J:Jar js) {i:Nat} (hi':i + 1 < js.length):Ew [some (.int (1 + (i:Int))),some (ej js)]=some (.ok (.bl true)):=by
 have hs:=J.s i hi'
 have h1:f2 ixD (ab 1) (f2 wE (ab 0) (fC (.int 1))) [some (.int (1 + (i:Int))),some (ej js)]=some (.ok (enc js[i])):=by
  have q:=BA (js:=js) (i:=i) (by omega)
  rw [show (i:Int)=1 + (i:Int) - 1 by omega] at q
  exact q
 have h2:f2 ixD (ab 1) (ab 0) [some (.int (1 + (i:Int))),some (ej js)]=some (.ok (enc js[i + 1])):=by
  have q:=BA (js:=js) (i:=i + 1) hi'
  rw [show ((i + 1:Nat):Int)=1 + (i:Int) by omega] at q
  exact q
 have h3:leX (.int js[i].md) (.int js[i + 1].md)=some (.ok (.bl true)):=by simp [leX,hs]
 exact (bg ((bg h1 rfl).trans (BB _)) ((bg h2 rfl).trans (BB _))).trans h3
theorem DP {js:List aF} (J:Jar js):aN [("notes",0)] (fun ρ=>bnd ((aa (fC (.int 1)) (aa (fB1 cP (aa (ab 0) ag)) ag)) ρ) tL) none Ew [some (ej js)]=some (.ok (.lst ((f_ (js.length - 1)).map fun _=>Dv.bl true))) :=
 cb (fun i:Nat=>Dv.int (1 + (i:Int))) (fun _=>Dv.bl true) (BC js J.l) (by have:=J.l; rw [Ix]; omega) fun i hi=>x4 J (by have:=Gw.mp hi; omega)
theorem ya {js:List aF} (J:Jar js):cR [ej js]=bo true :=
 cm (d:=.bl true) (bO ((bS (ah (DP J) av)).trans (kK _)))
theorem t_a {js:List aF} (J:Jar js):aN [] (bM (ab 0)) none (ac cG 1 (aa (ab 0) ag)) [some (ej js)]=some (.ok (.lst (js.map fun _=>Dv.bl true))) :=
 cb enc (fun _=>Dv.bl true) (eH rfl) (by have:=J.l; omega) fun n hn=>ie cG rfl (Bw (J.g n hn))
theorem t_b {js:List aF} (J:Jar js):(bOr (ce (fB (f1 (dE du) (ab 0)))) (fB (f2 gtD (fB1 cP (aa (ab 0) ag)) (fC (.int 20))))) [some (ej js)]=some (.ok false):=by
 have e3:¬ (20 < (js.length:Int)):=by have:=J.l; omega
 simp [aA,sq,bOr,ce,fB,f1,f2,dE,du,ab,bnd,toB,fB1,aa,ag,fC,ej,cP,CO,e3]
theorem t_c {js:List aF} (J:Jar js):fB1 j8 (aa (aN [] (bM (ab 0)) none (ac cG 1 (aa (ab 0) ag))) ag) [some (ej js)]=bo true:=(bS (ah (t_a J) av)).trans (kK js)
theorem t_d {js:List aF} (J:Jar js):gu [some (ej js)]=some (.rt (.bl true)):=by
 unfold gu
 rw [aq (bt (t_b J))]
 rw [aq (bt (fu (k:=true) (bV (t_c J))))]
 refine bO ?_
 rw [z9 (ie cR rfl (ya J))]
 exact ie aT rfl (u9 J)
theorem tq {js:List aF} (J:Jar js):iy [ej js]=bo true:=cm (d:=.bl true) (t_d J)
def rules:List Dv:=[.str "!w.ck",.str "*.ck",.str "*.uk",.str "a.b",.str "b",.str "c.uk",.str "q",.str "uk"]
def fN:List Dv→List (List Dv)
 | []=>[[]]
 | x :: r=>(fN r).map (x :: ·) ++ fN r
def yb:FnB:=fB (f2 eqX (ac ae 3 (aa (ab 2) (aa (f2 dM (ab 3) (ab 0)) (aa (fC (.int 2)) ag)))) (fC (.int 0)))
theorem vY (ns:List Int) (hl:ns.length≤63) (z:Int):∀ (l:List Dv) (k:Nat),∃ t∈fN l,eM (gP 0 1) (some yb) (ab 1) [none,none,some (.scr ns),some (.int z)] (eZ k l)=some t
 | [],k=>⟨[],by simp [fN],rfl⟩
 | x :: r,k=>by
  obtain ⟨t,ht,e⟩:=vY ns hl z r (k + 1)
  obtain ⟨d,h0,h1,hd⟩:=aR ns hl (z + k) 2 (by omega)
  have ht':yb [some (.int k),some x,some (.scr ns),some (.int z)]=bnd (bnd (okO (ae [.scr ns,.int (z + k),.int 2])) fun x=>eqX x (.int 0)) toB:=by kernel_rfl
  have hu:eM (gP 0 1) (some yb) (ab 1) [none,none,some (.scr ns),some (.int z)] (eZ k (x :: r))=(match yb [some (.int k),some x,some (.scr ns),some (.int z)] with
   | some (.ok true)=>(match eM (gP 0 1) (some yb) (ab 1) [none,none,some (.scr ns),some (.int z)] (eZ (k + 1) r) with | some ys=>some (x :: ys) | none=>none)
   | some (.ok false)=>eM (gP 0 1) (some yb) (ab 1) [none,none,some (.scr ns),some (.int z)] (eZ (k + 1) r)
   | _=>none):=by kernel_rfl
  rw [hu,ht',hd,e]
  have hc:d=0∨d=1:=by omega
  rcases hc with rfl | rfl
  · exact ⟨x :: t,by simp [fN,ht],by kernel_rfl⟩
  · exact ⟨t,by simp [fN,ht],by kernel_rfl⟩
theorem kL:∀ {l t:List Dv},t∈fN l→t.length≤l.length
 | [],t,h=>by simp [fN] at h; simp [h]
 | x :: r,t,h=>by
  simp only [fN,Gj,C_] at h
  rcases h with ⟨u,hu,rfl⟩ | h
  · have:=kL hu; simp; omega
  · have:=kL h; simp; omega
theorem vb (ns:List Int) (hl:ns.length≤63):∃ t∈fN rules,cu [.scr ns,.int 0]=some (.ok (.tup t)):=by
 obtain ⟨t,ht,e⟩:=vY ns hl 0 rules 0
 refine ⟨t,ht,?_⟩
 have hle:t.length≤100000:=by have:=kL ht; have:rules.length=8:=rfl; omega
 have hu:cu [.scr ns,.int 0]=(match cx (bnd (bnd (match eM (gP 0 1) (some yb) (ab 1) [none,none,some (.scr ns),some (.int 0)] (eZ 0 rules) with
  | some ys=>if ys.length≤100000∧(eZ 0 rules).length≤100000 then (some (.ok (.lst ys)):Option (Rs Dv)) else none
  | none=>none) fun x=>bnd (some (.ok [])) fun ys=>some (.ok (x :: ys))) fV) fun d=>some (.rt d) with
  | some (.nx _)=>some (.ok .non)
  | some (.rt d)=>some (.ok d)
  | _=>none):=by kernel_rfl
 rw [hu,e]
 dsimp only
 rw [if_pos ⟨hle,by decide⟩]
 rfl
end G
namespace G
open PySem PySem.Spec PyProof.Rows L2 FD TS
def jS (t:List Dv) (h:Str):Bool:=match aV [.tup t,.str h] with
 | some (.ok .non)=>true
 | some (.ok (.str z))=>FR (.str z)
 | _=>false
def bL:Nat→List (List Dv)
 | 0=>fN rules
 | k + 1=>(bL k).drop 16
theorem nG {α:Type} {l:List α} {p:α→Bool} (n:Nat) (h1:(l.take n).all p=true) (h2:(l.drop n).all p=true):l.all p=true:=by
 rw [← Lv n l,List.all_append,h1,h2]; rfl
theorem Fb:((bL 0).take 16).all (fun t=>En.all (jS t))=true:=by kernel_rfl
theorem Fc:((bL 1).take 16).all (fun t=>En.all (jS t))=true:=by kernel_rfl
theorem Fd:((bL 2).take 16).all (fun t=>En.all (jS t))=true:=by kernel_rfl
theorem Fe:((bL 3).take 16).all (fun t=>En.all (jS t))=true:=by kernel_rfl
theorem Ff:((bL 4).take 16).all (fun t=>En.all (jS t))=true:=by kernel_rfl
theorem Fg:((bL 5).take 16).all (fun t=>En.all (jS t))=true:=by kernel_rfl
theorem Fh:((bL 6).take 16).all (fun t=>En.all (jS t))=true:=by kernel_rfl
theorem Fj:((bL 7).take 16).all (fun t=>En.all (jS t))=true:=by kernel_rfl
theorem Fk:((bL 8).take 16).all (fun t=>En.all (jS t))=true:=by kernel_rfl
theorem Fm:((bL 9).take 16).all (fun t=>En.all (jS t))=true:=by kernel_rfl
theorem DQ:((bL 10).take 16).all (fun t=>En.all (jS t))=true:=by kernel_rfl
theorem DR:((bL 11).take 16).all (fun t=>En.all (jS t))=true:=by kernel_rfl
theorem DS:((bL 12).take 16).all (fun t=>En.all (jS t))=true:=by kernel_rfl
theorem DT:((bL 13).take 16).all (fun t=>En.all (jS t))=true:=by kernel_rfl
theorem DU:((bL 14).take 16).all (fun t=>En.all (jS t))=true:=by kernel_rfl
theorem DV:((bL 15).take 16).all (fun t=>En.all (jS t))=true:=by kernel_rfl
theorem BD:(fN rules).all (fun t=>En.all (jS t))=true:=nG (l:=bL 0) 16 Fb (nG (l:=bL 1) 16 Fc (nG (l:=bL 2) 16 Fd (nG (l:=bL 3) 16 Fe (nG (l:=bL 4) 16 Ff (nG (l:=bL 5) 16 Fg (nG (l:=bL 6) 16 Fh (nG (l:=bL 7) 16 Fj (nG (l:=bL 8) 16 Fk (nG (l:=bL 9) 16 Fm (nG (l:=bL 10) 16 DQ (nG (l:=bL 11) 16 DR (nG (l:=bL 12) 16 DS (nG (l:=bL 13) 16 DT (nG (l:=bL 14) 16 DU DV))))))))))))))
theorem tu {t:List Dv} (ht:t∈fN rules) {h:Str} (hh:h∈En):∃ o,aV [.tup t,.str h]=some (.ok o)∧(o=.non∨∃ z,o=.str z∧FR (.str z)=true):=by
 have q:=ci (p:=jS t) (ci (p:=fun t=>En.all (jS t)) BD ht) hh
 unfold jS at q
 split at q
 · rename_i e
   exact ⟨_,e,.inl rfl⟩
 · rename_i z e
   exact ⟨_,e,.inr ⟨_,rfl,q⟩⟩
 · cases q
def mC (t:List Dv) (h:Str):Str:=match aV [.tup t,.str h] with
 | some (.ok (.str z))=>z
 | _=>h
def gnm (t:List Dv) (n:aF):Str:=mC t n.house
theorem yc {t:List Dv} (ht:t∈fN rules) {n:aF} (g:Good n):bp [.tup t,enc n]=some (.ok (.str (gnm t n)))∧FR (.str (gnm t n))=true:=by
 have hh:=g.house
 obtain ⟨o,e,q⟩:=tu ht hh
 unfold gnm mC
 rw [e]
 rcases q with rfl | ⟨z,rfl,q⟩
 · refine ⟨by simp [bp,aS,di,aA,sq,br,aE,bq,cx,bnd,fB,toB,ac,aa,ag,ab,fC,f2,ixD,atD,isN,enc,e],?_⟩
   exact kJ (by unfold signs0; simp [hh])
 · exact ⟨by simp [bp,aS,di,aA,sq,br,aE,bq,cx,bnd,fB,toB,ac,aa,ag,ab,fC,f2,ixD,atD,isN,enc,e],q⟩
theorem o7 {f:FnE} {ρ:Ev} {ds:List Dv} (h:f ρ=some (.ok (.lst ds))):bM f ρ=some (.ok ds):=by unfold bM; rw [h]; rfl
theorem yd (a b:Str):eqX (.str a) (.str b)=some (.ok (.bl (decide (a=b)))):=by
 show some (Rs.ok (Dv.bl (seq a b)))=_
 congr 3
 rw [← oj]
 rw [FY]
 simp
theorem jT:∀ ks:List Str,bh (ks.map Dv.str)=some ks
 | []=>rfl
 | x :: ks=>by
  show (bh (ks.map Dv.str)).map (x :: ·)=_
  rw [jT ks]
  rfl
theorem pV {ks:List Str} (h:ks.length≤59):iQ [.lst (ks.map Dv.str)]=some (.ok (.lst ((isortB leS (ST.ddk ks)).map Dv.str))):=by
 show (match bh (ks.map Dv.str) with | some ks=>if ks.length≤59 then (some (.ok (.lst ((isortB leS (ST.ddk ks)).map Dv.str))):Option (Rs Dv)) else none | none=>none)=_
 rw [jT]
 dsimp only
 rw [if_pos h]
section
variable {t:List Dv} {js xs:List aF}
def mem (f:aF→Str) (l:List aF) (g:Str):List aF:=l.filter fun i=>decide (f i=g)
def gls (t:List Dv) (xs:List aF):List Str:=isortB leS (ST.ddk (xs.map (gnm t)))
theorem nH {t:List Dv} {xs:List aF}:(gls t xs).length≤xs.length:=by
 unfold gls
 rw [(isortB_perm leS _).length_eq]
 have:=ST.ddk_le (xs.map (gnm t))
 simpa using this
theorem o8 {α:Type} [DecidableEq α]:∀ (ks acc:List α) (x:α),x∈ks.foldl ST.addK acc→x∈ks∨x∈acc
 | [],acc,x,h=>.inr h
 | k :: ks,acc,x,h=>by
  rcases o8 ks _ x h with q | q
  · exact .inl (ge _ q)
  · unfold ST.addK at q
    split at q
    · exact .inr q
    · rcases p_.mp q with rfl | q
      · exact .inl g_
      · exact .inr q
theorem ye (ht:t∈fN rules) (hg:∀ n∈xs,Good n) {g:Str} (h:g∈gls t xs):FR (.str g)=true:=by
 unfold gls at h
 rw [(isortB_perm leS _).mem_iff] at h
 rcases o8 _ _ _ h with q | q
 · obtain ⟨n,hn,rfl⟩:=C_.mp q
   exact (yc ht (hg n hn)).2
 · simp at q
def row (t:List Dv) (xs:List aF) (g:Str):Dv:=.tup [.str g,.int (mem (gnm t) xs g).length]
theorem BE (g:Str):BU ((xs.map (gnm t)).map Dv.str) [.str g]=some (.ok (.int (mem (gnm t) xs g).length))∨100000 < xs.length:=by
 by_cases hl:xs.length≤100000
 · left
   have h1:((xs.map (gnm t)).map Dv.str).all cU=true:=by simp [List.all_map,cU]
   have h2:((xs.map (gnm t)).map Dv.str).countP (fun y=>eqF y (.str g))=(mem (gnm t) xs g).length:=by
    rw [GC,List.countP_map]
    unfold mem
    rw [List.countP_eq_length_filter]
    congr 1
    apply KH
    intro n _
    show seq (gnm t n) g=_
    rw [← oj,FY]
    simp
   show (if _ then some (Rs.ok (Dv.int (((xs.map (gnm t)).map Dv.str).countP (fun y=>eqF y (.str g)):Nat))) else none)=_
   rw [h1,h2,if_pos (by simp [cU,hl])]
 · right; omega
end
theorem gZ:∀ rs:List (List Dv),dZ (rs.map Dv.tup)=some rs
 | []=>rfl
 | r :: rs=>by
  show (dZ (rs.map Dv.tup)).map (r :: ·)=_
  rw [gZ rs]
  rfl
theorem nI {k:Nat} {d:Dv} (h:It1 k d) (hk:k≤64):neX d d=some (.ok (.bl false)):=xU (h.okP hk) h.p
structure Ask where
 s:Bool
 h:Str
 p:Str
 O:Dv
def ba (a:Ask):Dv:=.tup [.bl a.s,.str a.h,.str a.p,a.O]
structure gA (a:Ask):Prop where
 h:a.h∈menu
 p:a.p∈pths
 o:a.O=.non∨∃ o∈menu,a.O=.str o
def no:FnS:=aE (fC (.bl false))
def sk:FnS:=(fun ρ=>some (.nx ρ))
theorem yf {c:FnB} {cz:FnS} {ρ:Ev} {b:Bool} (hc:c ρ=some (.ok b)):aA (br c no sk) cz ρ=if b=true then some (.rt (.bl false)) else cz ρ:=by
 unfold aA br
 rw [hc]
 cases b <;> rfl
theorem iz (n:aF) (k:Int):az [enc n,.int k]=bo (dQ n k):=by
 cases h:n.ends <;> simp [az,aS,dz,aA,sq,br,aE,ib,bN,bq,cx,bnd,bOr,ia,ce,fB,toB,ac,dF,aa,ag,ab,fC,f1,f2,ixD,atD,vOr,gC,mz,fIf,dD,cO,fB1,fM,dG,cg,isN,mB,dE,bH,du,dN,dX,enc,eO,dQ,h,leX]
theorem BF {t:List Dv} (ht:t∈fN rules) {a:Ask} (g:gA a):∃ k,aw [.tup t,ba a]=bo k:=by
 obtain ⟨s,h,p,O⟩:=a
 have ha:h∈menu:=g.h
 have ho:O=.non∨∃ o∈menu,O=.str o:=g.o
 rcases ho with rfl | ⟨o,ho,rfl⟩
 · exact ⟨true,by simp [aw,aS,aB,ba,aA,sq,br,aE,ib,bN,bq,cx,bnd,bOr,ia,ce,fB,toB,ac,dF,aa,ag,ab,fC,f1,f2,ixD,atD,vOr,gC,mz,fIf,dD,cO,fB1,fM,dG,cg,isN,mB,dE,bH,du,dN,dX]⟩
 · obtain ⟨o1,e1,h1⟩:=tu ht (me ha)
   obtain ⟨o2,e2,h2⟩:=tu ht (me ho)
   cases q:seq o h with
   | true=>exact ⟨true,by simp [aw,aS,aB,ba,aA,sq,br,aE,ib,bN,bq,cx,bnd,bOr,ia,ce,fB,toB,ac,dF,aa,ag,ab,fC,f1,f2,ixD,atD,vOr,gC,mz,fIf,dD,cO,fB1,fM,dG,cg,isN,mB,dE,bH,du,dN,dX,eqX,eqS,q]⟩
   | false =>
    rcases h1 with rfl | ⟨z1,rfl,_⟩
    · exact ⟨false,by simp [aw,aS,aB,ba,aA,sq,br,aE,ib,bN,bq,cx,bnd,bOr,ia,ce,fB,toB,ac,dF,aa,ag,ab,fC,f1,f2,ixD,atD,vOr,gC,mz,fIf,dD,cO,fB1,fM,dG,cg,isN,mB,dE,bH,du,dN,dX,eqX,eqS,q,e1,e2]⟩
    · rcases h2 with rfl | ⟨z2,rfl,_⟩
      · exact ⟨false,by simp [aw,aS,aB,ba,aA,sq,br,aE,ib,bN,bq,cx,bnd,bOr,ia,ce,fB,toB,ac,dF,aa,ag,ab,fC,f1,f2,ixD,atD,vOr,gC,mz,fIf,dD,cO,fB1,fM,dG,cg,isN,mB,dE,bH,du,dN,dX,eqX,eqS,q,e1,e2]⟩
      · exact ⟨seq z1 z2,by simp [aw,aS,aB,ba,aA,sq,br,aE,ib,bN,bq,cx,bnd,bOr,ia,ce,fB,toB,ac,dF,aa,ag,ab,fC,f1,f2,ixD,atD,vOr,gC,mz,fIf,dD,cO,fB1,fM,dG,cg,isN,mB,dE,bH,du,dN,dX,eqX,eqS,q,e1,e2]⟩
theorem BG:(En.all fun p=>menu.all fun q=>okB (bB [.str p,.str q]))=true:=by kernel_rfl
theorem Fp {p q:Str} (h:p∈En) (h':q∈menu):∃ k,bB [.str p,.str q]=bo k:=vX (ci (p:=fun q=>okB (bB [.str p,.str q])) (ci (p:=fun p=>menu.all fun q=>okB (bB [.str p,.str q])) BG h) h')
theorem yg:(pths.all fun p=>pths.all fun q=>okB (aZ [.str p,.str q]))=true:=by kernel_rfl
theorem DW {p q:Str} (h:p∈pths) (h':q∈pths):∃ k,aZ [.str p,.str q]=bo k:=vX (ci (p:=fun q=>okB (aZ [.str p,.str q])) (ci (p:=fun p=>pths.all fun q=>okB (aZ [.str p,.str q])) yg h) h')
theorem vd (x y:Str):seq x y=seq y x:=by
 unfold seq
 rw [FY]
 simp
 exact ⟨fun h=>h.symm,fun h=>h.symm⟩
theorem yh {t:List Dv} (ht:t∈fN rules) {n:aF} (g:Good n) {a:Ask} (ga:gA a) (now:Int) :
 ∃ k,h8 [.tup t,enc n,ba a,.int now]=bo k:=by
 obtain ⟨kn,n1⟩:=BF ht ga
 obtain ⟨s,h,p,O⟩:=a
 have hh:h∈menu:=ga.h
 have hp:p∈pths:=ga.p
 obtain ⟨kwi,w1⟩:=Fp (me hh) g.house
 obtain ⟨ku,u1⟩:=DW hp g.path
 have q1:eqX (.str n.house) (.str h)=bo (seq h n.house):=by rw [vd]; rfl
 have e1:=iz n now
 obtain ⟨ak,hak⟩:∃ d,d=ba ⟨s,h,p,O⟩:=⟨_,rfl⟩
 have i0:ixD ak (.int 0)=some (.ok (.bl s)):=by rw [hak]; rfl
 have i1:ixD ak (.int 1)=some (.ok (.str h)):=by rw [hak]; rfl
 have i2:ixD ak (.int 2)=some (.ok (.str p)):=by rw [hak]; rfl
 rw [← hak] at n1 ⊢
 obtain ⟨r,hr⟩:∃ r,eqX (.str n.R) (.str "any")=bo r:=⟨_,rfl⟩
 have f1:eR [enc n,.str h]=bo (if n.ex=true then seq h n.house else kwi):=by
  cases hx:n.ex <;> simp [eR,aS,iw,aA,sq,br,aE,ib,bN,bq,cx,bnd,bOr,ia,ce,fB,toB,ac,dF,aa,ag,ab,fC,f1,f2,ixD,atD,vOr,gC,mz,fIf,dD,cO,fB1,fM,dG,cg,isN,mB,dE,bH,du,dN,dX,enc,hx,q1,w1]
 have c3:(ia (fB (f2 ixD (ab 1) (fC (.int 6)))) (ce (fB (f2 ixD (ab 2) (fC (.int 0)))))) [some (.tup t),some (enc n),some ak,some (.int now)]=some (.ok (n.S && !s)):=by
  cases hS:n.S <;> simp [aA,sq,br,aE,ib,bN,bq,cx,bnd,bOr,ia,ce,fB,toB,ac,dF,aa,ag,ab,fC,f1,f2,ixD,atD,vOr,gC,mz,fIf,dD,cO,fB1,fM,dG,cg,isN,mB,dE,bH,du,dN,dX,enc,hS,i0,-ixD]
 have z1:f2 eqX (f2 ixD (ab 1) (fC (.int 7))) (fC (.str "any")) [some (.tup t),some (enc n),some ak,some (.int now)]=bo r:=(bg (x:=.str n.R) (y:=.str "any") rfl rfl).trans hr
 refine ⟨!dQ n now && (if n.ex=true then seq h n.house else kwi) && ku && (!(n.S && !s)) && (r || kn),?_⟩
 · have c1:(bOr (fB (ac az 2 (aa (ab 1) (aa (ab 3) ag)))) (ce (fB (ac eR 2 (aa (ab 1) (aa (f2 ixD (ab 2) (fC (.int 1))) ag)))))) [some (.tup t),some (enc n),some ak,some (.int now)]=some (.ok (dQ n now || !(if n.ex=true then seq h n.house else kwi))) :=
    Bu (bV (cV az rfl rfl e1)) (fu (bV (cV eR rfl ((bg (x:=ak) (y:=.int 1) rfl rfl).trans i1) f1)))
   have c2:(ce (fB (ac aZ 2 (aa (f2 ixD (ab 2) (fC (.int 2))) (aa (f2 ixD (ab 1) (fC (.int 4))) ag))))) [some (.tup t),some (enc n),some ak,some (.int now)]=some (.ok (!ku)) :=
    fu (bV (cV aZ ((bg (x:=ak) (y:=.int 2) rfl rfl).trans i2) rfl u1))
   have c4:(vOr (f2 eqX (f2 ixD (ab 1) (fC (.int 7))) (fC (.str "any"))) (ac aw 2 (aa (ab 0) (aa (ab 2) ag)))) [some (.tup t),some (enc n),some ak,some (.int now)]=bo (r || kn):=by
    have z2:ac aw 2 (aa (ab 0) (aa (ab 2) ag)) [some (.tup t),some (enc n),some ak,some (.int now)]=bo kn:=cV aw rfl rfl n1
    unfold vOr
    rw [z1]
    cases r
    · exact z2
    · rfl
   refine cm ?_
   show (aA (br _ no sk) (aA (br _ no sk) (aA (br _ no sk) (aE _)))) [some (.tup t),some (enc n),some ak,some (.int now)]=_
   rw [yf c1,yf c2,yf c3,DH c4]
   cases dQ n now <;> cases (if n.ex=true then seq h n.house else kwi) <;> cases ku <;> cases (n.S && !s) <;> rfl
def go (t:List Dv) (n:aF) (a:Ask) (now:Int):Bool:=okY (h8 [.tup t,enc n,ba a,.int now])
theorem mD {t:List Dv} (ht:t∈fN rules) {n:aF} (g:Good n) {a:Ask} (ga:gA a) (now:Int):h8 [.tup t,enc n,ba a,.int now]=bo (go t n a now):=by
 obtain ⟨k,h1⟩:=yh ht g ga now
 have:go t n a now=k:=by unfold go; rw [h1]; cases k <;> rfl
 rw [this]
 exact h1
theorem BH {a:Ask} (g:gA a):cQ [ba a]=bo true:=by
 obtain ⟨s,h,p,O⟩:=a
 have e1:bj [.str h]=bo true:=DG (me g.h)
 have e2:cF [.str p]=bo true:=Eu g.p
 have e0:bC [ba ⟨s,h,p,O⟩,.int 4]=bo true:=by simp [bC,aS,cA,aA,sq,br,aE,ib,bN,bq,cx,bnd,bOr,ia,ce,fB,toB,ac,dF,aa,ag,ab,fC,f1,f2,ixD,atD,vOr,gC,mz,fIf,dD,cO,fB1,fM,dG,cg,isN,mB,dE,bH,du,dN,dX,ba,cP,eqX,eqS]
 have ho:O=.non∨∃ o∈menu,O=.str o:=g.o
 rcases ho with rfl | ⟨o,ho,rfl⟩
 · simp only [ba] at e0 ⊢
   simp [cQ,aS,gl,aA,sq,br,aE,ib,bN,bq,cx,bnd,bOr,ia,ce,fB,toB,ac,dF,aa,ag,ab,fC,f1,f2,ixD,atD,vOr,gC,mz,fIf,dD,cO,fB1,fM,dG,cg,isN,mB,dE,bH,du,dN,dX,e0,e1,e2,j8,iI]
 · have e3:bj [.str o]=bo true:=DG (me ho)
   simp only [ba] at e0 ⊢
   simp [cQ,aS,gl,aA,sq,br,aE,ib,bN,bq,cx,bnd,bOr,ia,ce,fB,toB,ac,dF,aa,ag,ab,fC,f1,f2,ixD,atD,vOr,gC,mz,fIf,dD,cO,fB1,fM,dG,cg,isN,mB,dE,bH,du,dN,dX,e0,e1,e2,e3,j8,iI]
section
variable {T J a b d:Dv} {t:List Dv} {xs js:List aF}
theorem DX (h:cC [T]=bo true):aU [T]=some (.ok .non):=by simp [aU,aS,cT,aA,sq,br,cx,bnd,ce,fB,toB,ac,aa,ag,ab,h]
theorem BI (h:iy [J]=bo true):aO [J]=some (.ok .non):=by simp [aO,aS,eS,aA,sq,br,cx,bnd,ce,fB,toB,ac,aa,ag,ab,h]
theorem tw (h:bf [a]=bo true):ay [a]=some (.ok .non):=by simp [ay,aS,cB,aA,sq,br,cx,bnd,ce,fB,toB,ac,aa,ag,ab,h]
theorem Fq (h:cQ [a]=bo true):dh [a]=some (.ok .non):=by simp [dh,aS,eU,aA,sq,br,cx,bnd,ce,fB,toB,ac,aa,ag,ab,h]
theorem dY (F:List Dv→Option (Rs Dv)) {f:FnE} {ρ:Ev} (hf:f ρ=some (.ok a)) (h:F [a]=some (.ok .non)):bN (ac F 1 (aa f ag)) ρ=some (.nx ρ):=oq (ie F hf h)
theorem tx:((fN rules).all fun t=>okY (cC [.tup t]))=true:=by kernel_rfl
theorem jp (ht:t∈fN rules):cC [.tup t]=bo true:=mj (ci (p:=fun t=>okY (cC [.tup t])) tx ht)
def pW (n:aF):List Dv:=[.str n.nm,.str n.house,.str n.path]
def jU (xs:List aF):Dv:=.lst ((isortB (fun a b=>!ltL b a) (xs.map pW)).map Dv.tup)
theorem dk (hl:xs.length < 64):iS [.lst (xs.map ek)]=some (.ok (jU xs)):=by
 have e0:xs.map ek=(xs.map pW).map Dv.tup:=by rw [GC]; rfl
 rw [e0]
 show (match dZ ((xs.map pW).map Dv.tup) with
  | some rows=>if fj rows=true then some (Rs.ok (Dv.lst ((isortB (fun a b=>!ltL b a) rows).map Dv.tup))) else none
  | none=>Ax [.lst ((xs.map pW).map Dv.tup)])=_
 rw [gZ]
 dsimp only
 rw [if_pos]
 · rfl
 · unfold fj
   rw [k_,decide_eq_true_eq,Gz]
   refine ⟨by simpa using hl,fun r hr=>?_⟩
   obtain ⟨n,hn,rfl⟩:=C_.mp hr
   cases xs with
   | nil=>simp at hn
   | cons x xs=>rfl
theorem nJ (hg:∀ n∈xs,Good n):It1 2 (jU xs):=jk fun d hd=>by
 obtain ⟨r,hr,rfl⟩:=C_.mp hd
 rw [(isortB_perm _ _).mem_iff] at hr
 obtain ⟨n,hn,rfl⟩:=C_.mp hr
 exact sZ (hg n hn)
theorem yi (ht:t∈fN rules) (hg:∀ n∈xs,Good n) (hl:xs.length≤18) (g:Str):bZ [.tup t,ej xs,.str g]=some (.ok (jU (mem (gnm t) xs g))):=by
 refine cm ?_
 show bz [some (.tup t),some (ej xs),some (.str g)]=_
 unfold bz
 refine bO ?_
 have e:(aN [("table",0),("group",2)] (bM (ab 1)) (some (fB (f2 eqX (ac bp 2 (aa (ab 1) (aa (ab 0) ag))) (ab 2)))) (ac jc 1 (aa (ab 0) ag))) [some (.tup t),some (ej xs),some (.str g)]=some (.ok (.lst ((mem (gnm t) xs g).map ek))) :=
  cv enc (fun n=>decide (gnm t n=g)) ek (eH rfl) (by omega) fun n hn=>⟨bV ((bg (x:=.str (gnm t n)) (y:=.str g) (cV bp rfl rfl (yc ht (hg n hn)).1) rfl).trans (yd _ _)),ie jc rfl (tj n)⟩
 exact (bS (ah e av)).trans (dk (by have:(mem (gnm t) xs g).length≤xs.length:=FK _ _; omega))
theorem jV (ht:t∈fN rules) (J:Jar xs):eW [.tup t,ej xs]=some (.ok (.lst ((gls t xs).map (row t xs)))):=by
 have hl:=J.l
 refine cm ?_
 show gx [some (.tup t),some (ej xs),none]=_
 unfold gx
 rw [aq (dY aU rfl (DX (jp ht))),aq (dY aO rfl (BI (tq J)))]
 have e1:(aN [("table",0)] (bM (ab 1)) none (ac bp 2 (aa (ab 1) (aa (ab 0) ag)))) [some (.tup t),some (ej xs),none]=some (.ok (.lst ((xs.map (gnm t)).map Dv.str))):=by
  rw [GC]
  exact cb enc (fun n=>.str (gnm t n)) (eH rfl) (by omega) fun n hn=>cV bp rfl rfl (yc ht (J.g n hn)).1
 rw [aq (bd e1 rfl)]
 simp only [Hn,Hm]
 refine bO ?_
 have hgl:=nH (t:=t) (xs:=xs)
 refine cb Dv.str (row t xs) (o7 ((bS (ah (x:=.lst ((xs.map (gnm t)).map Dv.str)) rfl av)).trans (pV (by simp; omega)))) (by show (gls t xs).length≤100000; omega) fun g hg=>?_
 refine fw (ah rfl (ah ?_ av)) (by show 2≤100000; decide)
 exact (BE (t:=t) (xs:=xs) g).resolve_right (by omega)
def gk (t:List Dv) (xs:List aF) (g:Str):Dv:=.tup [.str g,jU (mem (gnm t) xs g)]
theorem DY (ht:t∈fN rules) (J:Jar xs):eX [.tup t,ej xs]=some (.ok (.lst ((gls t xs).map (gk t xs)))):=by
 have hl:=J.l
 refine cm ?_
 show dj [some (.tup t),some (ej xs)]=_
 unfold dj
 refine bO ?_
 have hgl:=nH (t:=t) (xs:=xs)
 exact cb (row t xs) (gk t xs) (o7 (cV eW rfl rfl (jV ht J))) (by omega) fun g hg =>
  fw (ah (x:=.str g) rfl (ah (x:=jU (mem (gnm t) xs g)) (kH bZ rfl rfl rfl (yi ht J.g hl g)) av)) (by show 2≤100000; decide)
def dq (js:List aF) (now far:Int):List aF:=js.filter fun n=>dQ n (now + far) && !dQ n now
theorem mo (J:Jar js) {now far:Int} (h1:0≤now) (h2:now < 40) (h3:0≤far) (h4:far≤9999):eY [ej js,.int now,.int far]=some (.ok (.lst ((dq js now far).map enc))):=by
 have hl:=J.l
 refine cm ?_
 show gy [some (ej js),some (.int now),some (.int far)]=_
 unfold gy
 rw [aq (dY aO rfl (BI (tq J))),aq (dY ay rfl (tw (ml h1 (by omega)))),aq (dY ay rfl (tw (ml h3 (by omega))))]
 refine bO (cv enc _ enc (eH rfl) (by omega) fun n hn=>⟨?_,rfl⟩)
 have k1:fB (ac az 2 (aa (ab 0) (aa (f2 dM (ab 1) (ab 2)) ag))) [some (enc n),some (.int now),some (.int far)]=some (.ok (dQ n (now + far))):=bV (cV az rfl rfl (iz n (now + far)))
 have k2:ce (fB (ac az 2 (aa (ab 0) (aa (ab 1) ag)))) [some (enc n),some (.int now),some (.int far)]=some (.ok (!dQ n now)):=fu (bV (cV az rfl rfl (iz n now)))
 show ia _ _ [some (enc n),some (.int now),some (.int far)]=_
 cases h:dQ n (now + far) with
 | false=>rw [h] at k1; exact qY k1
 | true=>rw [h] at k1; rw [qX k1,k2]; rfl
variable {as:List Ask} {now:Int}
def nmb (t:List Dv) (n:aF) (as:List Ask) (now:Int):List Dv:=(as.zipIdx.filter fun p=>go t n p.1 now).map fun p=>Dv.int (p.2:Int)
theorem yj (as:List Ask):rng 0 as.length=as.zipIdx.map fun p=>Dv.int (p.2:Int):=by
 rw [gX]
 have e:f_ as.length=as.zipIdx.map Prod.snd:=by
  rw [List.range_eq_range']
  simp
 rw [e,GC]
 apply Ma
 intro p _
 simp
theorem nK {p:Ask×Nat} (h:p∈as.zipIdx):p.1∈as∧ixD (.lst (as.map ba)) (.int (p.2:Int))=some (.ok (ba p.1)):=by
 have q:as[p.2]?=some p.1:=Im.mp h
 refine ⟨GR q,?_⟩
 show (match atD (as.map ba) (p.2:Int) with | some d=>_ | none=>_)=_
 unfold atD
 rw [if_pos (by omega)]
 simp [q]
theorem asks_of (ht:t∈fN rules) {n:aF} (g:Good n) (ga:∀ a∈as,gA a) (hl:as.length≤9):i5 [.tup t,enc n,.lst (as.map ba),.int now]=some (.ok (.lst (nmb t n as now))):=by
 refine cm ?_
 show ez [some (.tup t),some (enc n),some (.lst (as.map ba)),some (.int now)]=_
 unfold ez
 refine bO (cv (fun p:Ask×Nat=>Dv.int (p.2:Int)) (fun p=>go t n p.1 now) (fun p=>Dv.int (p.2:Int)) (l:=as.zipIdx) ?_ (by simp; omega) fun p hp=>⟨?_,rfl⟩)
 · have e:(aa (fB1 cP (aa (ab 2) ag)) ag) [some (.tup t),some (enc n),some (.lst (as.map ba)),some (.int now)]=some (.ok [.int (as.length:Int)]) :=
    ah ((bS (ah (x:=.lst (as.map ba)) rfl av)).trans (by show some (Rs.ok (Dv.int ((as.map ba).length:Int)))=_; rw [y_])) av
   exact (jm (k:=iH) e).trans (by rw [oX (by omega),yj])
 · exact bV (dv (ah (x:=.tup t) rfl (ah (x:=enc n) rfl (ah (x:=ba p.1) ((bg (x:=.lst (as.map ba)) (y:=.int (p.2:Int)) rfl rfl).trans (nK hp).2) (ah (x:=.int now) rfl av)))) rfl (mD ht g (ga p.1 (nK hp).1) now))
theorem DZ (ga:∀ a∈as,gA a) (hl:as.length≤9):bD [.lst (as.map ba)]=bo true:=by
 refine cm ?_
 show aW [some (.lst (as.map ba))]=_
 unfold aW
 have e0:(bOr (ce (fB (f1 (dE ri) (ab 0)))) (fB (f2 gtD (fB1 cP (aa (ab 0) ag)) (fC (.int 9))))) [some (.lst (as.map ba))]=some (.ok false):=by
  have h1:ce (fB (f1 (dE ri) (ab 0))) [some (.lst (as.map ba))]=some (.ok false):=fu (k:=true) (bV rfl)
  rw [C7 h1]
  have:¬ ((as.length:Int) > 9):=by omega
  refine bV ((bg (x:=.int (as.length:Int)) (y:=.int 9) ((bS (ah (x:=.lst (as.map ba)) rfl av)).trans ?_) rfl).trans ?_)
  · show some (Rs.ok (Dv.int ((as.map ba).length:Int)))=_
    rw [y_]
  · show some (Rs.ok (Dv.bl (decide ((as.length:Int) > 9))))=_
    rw [decide_eq_false this]
 rw [aq (bt e0)]
 refine bO ((bS (ah (x:=.lst (as.map fun _=>Dv.bl true)) (cb ba (fun _=>Dv.bl true) (fK rfl) (by omega) fun a ha=>ie cQ rfl (BH (ga a ha))) av)).trans (kK as))
def alo (t:List Dv) (as:List Ask) (now:Int) (n:aF):Dv:=.tup [ek n,.lst (nmb t n as now)]
theorem ve (ht:t∈fN rules) (J:Jar js) (ga:∀ a∈as,gA a) (hl:as.length≤9) (h1:0≤now) (h2:now < 40):cH [.tup t,ej js,.lst (as.map ba),.int now]=some (.ok (.lst (js.map (alo t as now)))):=by
 have hjl:=J.l
 refine cm ?_
 show jg [some (.tup t),some (ej js),some (.lst (as.map ba)),some (.int now)]=_
 unfold jg
 rw [aq (dY aU rfl (DX (jp ht))),aq (dY aO rfl (BI (tq J))),aq (bt (fu (bV (ie bD rfl (DZ ga hl))))),aq (dY ay rfl (tw (ml h1 (by omega))))]
 exact bO (cb enc (alo t as now) (eH rfl) (by omega) fun n hn=>fw (ah (x:=ek n) (ie jc rfl (tj n)) (ah (x:=.lst (nmb t n as now)) (dv (ah (x:=.tup t) rfl (ah (x:=enc n) rfl (ah (x:=.lst (as.map ba)) rfl (ah (x:=.int now) rfl av)))) rfl (asks_of ht (J.g n hn) ga hl)) av)) (by show 2≤100000; decide))
theorem tz (hg:∀ n∈js,Good n):It1 3 (.lst (js.map (alo t as now))):=jk fun d hd=>by
 obtain ⟨n,hn,rfl⟩:=C_.mp hd
 refine mf fun d hd=>?_
 simp only [p_,FP,or_false] at hd
 rcases hd with rfl | rfl
 · exact sZ (hg n hn)
 · refine jk fun d hd=>?_
   obtain ⟨p,_,rfl⟩:=C_.mp hd
   exact it_int
end
theorem mq (ns:List Int) (hl:ns.length≤63):∀ ks:List Int,∃ as:List Ask,eM (gN 0) none (ac cj 2 (aa (ab 1) (aa (f2 cq (fC (.int 120)) (f2 fR (fC (.int 10)) (ab 0))) ag))) [none,some (.scr ns)] (ks.map Dv.int)=some (as.map ba)∧as.length=ks.length∧(∀ a∈as,gA a)∨∃ k∈ks,¬ (-18446744073709551616 < k∧k < 18446744073709551616)
 | []=>⟨[],.inl ⟨rfl,rfl,fun _ h=>by simp at h⟩⟩
 | k :: ks=>by
  obtain ⟨as,h | h⟩:=mq ns hl ks
  · obtain ⟨h1,h2,h3⟩:=h
    by_cases hk:-18446744073709551616 < k∧k < 18446744073709551616
    · obtain ⟨s,h,p,O,g1,g2,g3,e⟩:=u8 ns hl (120 + 10 * k)
      refine ⟨⟨s,h,p,O⟩ :: as,.inl ⟨?_,by simp [h2],fun a ha=>?_⟩⟩
      · have ek:ac cj 2 (aa (ab 1) (aa (f2 cq (fC (.int 120)) (f2 fR (fC (.int 10)) (ab 0))) ag)) [some (.int k),some (.scr ns)]=some (.ok (ba ⟨s,h,p,O⟩)) :=
         cV cj rfl ((bg (x:=.int 120) (y:=.int (10 * k)) rfl ((bg (x:=.int 10) (y:=.int k) rfl rfl).trans (jR (.inl (by omega))))).trans (gY _ _)) e
        rw [xy,xy]
        unfold eM
        show (match ac cj 2 (aa (ab 1) (aa (f2 cq (fC (.int 120)) (f2 fR (fC (.int 10)) (ab 0))) ag)) [some (.int k),some (.scr ns)] with | some (.ok y)=>_ | _=>_)=_
        rw [ek,h1]
      · rcases p_.mp ha with rfl | ha
        · exact ⟨g1,g2,g3⟩
        · exact h3 a ha
    · exact ⟨[],.inr ⟨k,g_,hk⟩⟩
  · obtain ⟨k',hk',h⟩:=h
    exact ⟨[],.inr ⟨k',ge _ hk',h⟩⟩
theorem yk (ns:List Int) (hl:ns.length≤63) (t js:Dv):∃ as:List Ask,kx [some (.scr ns),some t,some js,none,none,none,none,none,none,none,none,none,none]=some (.ok (.lst (as.map ba)))∧as.length≤3∧∀ a∈as,gA a:=by
 obtain ⟨d,a0,a1,hd⟩:=aR ns hl 110 4 (by omega)
 obtain ⟨m,rfl⟩:∃ m:Nat,d=m:=⟨d.toNat,by omega⟩
 have hr:rng 0 m=((f_ m).map fun i:Nat=>(0 + (i:Int))).map Dv.int:=by rw [gX,GC]; rfl
 obtain ⟨as,h | h⟩:=mq ns hl ((f_ m).map fun i:Nat=>(0 + (i:Int)))
 · obtain ⟨h1,h2,h3⟩:=h
   simp at h2
   refine ⟨as,?_,by omega,h3⟩
   unfold kx aK
   have e:(aa (ac ae 3 (aa (ab 0) (aa (fC (.int 110)) (aa (fC (.int 4)) ag)))) ag) [some (.scr ns),some t,some js,none,none,none,none,none,none,none,none,none,none]=some (.ok [.int (m:Int)]):=ah (kH ae rfl rfl rfl hd) av
   have e2:bnd ((aa (ac ae 3 (aa (ab 0) (aa (fC (.int 110)) (aa (fC (.int 4)) ag)))) ag) [some (.scr ns),some t,some js,none,none,none,none,none,none,none,none,none,none]) iH=some (.ok (rng 0 m)):=(jm (k:=iH) e).trans (oX (by omega))
   refine (jm e2).trans ?_
   rw [hr]
   show (match eM (gN 0) none _ [none,some (.scr ns)] _ with | some ys=>_ | none=>_)=_
   rw [h1]
   dsimp only
   rw [if_pos ⟨by simp; omega,by simp; omega⟩]
 · obtain ⟨k,hk,h⟩:=h
   obtain ⟨i,hi,rfl⟩:=C_.mp hk
   have:=Gw.mp hi
   exact absurd ⟨by omega,by omega⟩ h
theorem mr {tst:FnB} {elt:FnE} {cap:Ev} {α:Type} (u v f:α→Dv) (p:α→Bool):∀ {l:List α},(∀ a∈l,tst ((cap.set 0 (some (u a))).set 1 (some (v a)))=some (.ok (p a))∧elt ((cap.set 0 (some (u a))).set 1 (some (v a)))=some (.ok (f a)))→eM (gP 0 1) (some tst) elt cap (l.map fun a=>.tup [u a,v a])=some ((l.filter p).map f)
 | [],_=>rfl
 | a :: l,h=>by
  have ih:=mr (tst:=tst) (elt:=elt) (cap:=cap) u v f p (l:=l) fun b hb=>h b (ge _ hb)
  obtain ⟨h1,h2⟩:=h a g_
  rw [xy]
  unfold eM
  show (match tst ((cap.set 0 (some (u a))).set 1 (some (v a))) with | some (.ok true)=>_ | some (.ok false)=>_ | _=>_)=_
  rw [h1,ih]
  cases q:p a with
  | true=>dsimp only; rw [h2,G9 q]; rfl
  | false=>dsimp only; rw [G_ (by rw [q]; decide)]
theorem pX {cs:List (Str×Nat)} {src:FnA} {tst:FnB} {elt:FnE} {ρ:Ev} {α:Type} (u v f:α→Dv) (p:α→Bool) {l:List α} (hs:src ρ=some (.ok (l.map fun a=>.tup [u a,v a]))) (hl:l.length≤100000) (h:∀ a∈l,tst (((dR 2 cs ρ).set 0 (some (u a))).set 1 (some (v a)))=some (.ok (p a))∧elt (((dR 2 cs ρ).set 0 (some (u a))).set 1 (some (v a)))=some (.ok (f a))):aK 2 cs src (gP 0 1) (some tst) elt ρ=some (.ok (.lst ((l.filter p).map f))):=by
 unfold aK
 rw [hs]
 show (match eM (gP 0 1) (some tst) elt (dR 2 cs ρ) (l.map fun a=>.tup [u a,v a]) with | some ys=>_ | none=>_)=_
 rw [mr u v f p h]
 dsimp only
 have:=FK p l
 rw [if_pos ⟨by simp; omega,by simpa using hl⟩]
theorem o9:∀ (as:List Ask) (k:Nat),eZ k (as.map ba)=(as.zipIdx k).map fun p=>Dv.tup [.int (p.2:Int),ba p.1]
 | [],_=>rfl
 | a :: as,k=>by
  show Dv.tup [.int (k:Int),ba a] :: eZ (k + 1) (as.map ba)=_
  rw [o9 as (k + 1),MW]
  rfl
theorem nM (n:aF):aH [enc n]=some (.ok (ek n)):=by simp [aH,aS,eQ,aE,cx,bnd,aa,ag,ab,fC,f2,ixD,atD,dD,enc,ek]
theorem pb {elt:FnE} {cap:Ev} {α:Type} (u v f:α→Dv):∀ {l:List α},(∀ a∈l,elt ((cap.set 0 (some (u a))).set 1 (some (v a)))=some (.ok (f a)))→eM (gP 0 1) none elt cap (l.map fun a=>.tup [u a,v a])=some (l.map f)
 | [],_=>rfl
 | a :: l,h=>by
  have ih:=pb (elt:=elt) (cap:=cap) u v f (l:=l) fun b hb=>h b (ge _ hb)
  have h2:=h a g_
  rw [xy]
  unfold eM
  show (match elt ((cap.set 0 (some (u a))).set 1 (some (v a))) with | some (.ok y)=>_ | _=>_)=_
  rw [h2,ih]
  rfl
theorem ms {cs:List (Str×Nat)} {src:FnA} {elt:FnE} {ρ:Ev} {α:Type} (u v f:α→Dv) {l:List α} (hs:src ρ=some (.ok (l.map fun a=>.tup [u a,v a]))) (hl:l.length≤100000) (h:∀ a∈l,elt (((dR 2 cs ρ).set 0 (some (u a))).set 1 (some (v a)))=some (.ok (f a))):aK 2 cs src (gP 0 1) none elt ρ=some (.ok (.lst (l.map f))):=by
 unfold aK
 rw [hs]
 show (match eM (gP 0 1) none elt (dR 2 cs ρ) (l.map fun a=>.tup [u a,v a]) with | some ys=>_ | none=>_)=_
 rw [pb u v f h]
 dsimp only
 rw [if_pos ⟨by simpa using hl,by simpa using hl⟩]
section
variable {t:List Dv} {xs ys js:List aF}
theorem vf (n:aF):DB 3 (pW n):=⟨key n,rfl,rfl⟩
theorem kM (h:xs.Perm ys):jU xs=jU ys:=by
 unfold jU
 rw [lP (oO 3) (h.map pW) fun z hz=>by
  obtain ⟨n,_,rfl⟩:=C_.mp hz
  exact vf n]
def fm (xs:List aF):List aF:=isortB (fun a b=>!ltL (pW b) (pW a)) xs
theorem eI (xs:List aF):(fm xs).Perm xs:=isortB_perm _ _
theorem pc (xs:List aF):jU xs=.lst ((fm xs).map ek):=by
 unfold jU fm
 rw [← gd (le:=fun a b=>!ltL (pW b) (pW a)) pW xs fun _ _ _ _=>rfl,GC]
 rfl
theorem nN (hl:xs.length < 64):fj (xs.map pW)=true:=by
 unfold fj
 rw [k_,decide_eq_true_eq,Gz]
 refine ⟨by simpa using hl,fun r hr=>?_⟩
 obtain ⟨n,hn,rfl⟩:=C_.mp hr
 cases xs with
 | nil=>simp at hn
 | cons x xs=>rfl
theorem tD (hk:(xs.map key).Nodup) (hl:xs.length≤18):eP [.lst (xs.map ek)]=some (.ok (jU xs)):=by
 have e0:xs.map ek=(xs.map pW).map Dv.tup:=by rw [GC]; rfl
 show (match dZ (xs.map ek),keysOf (xs.map ek) with
  | some rows,some ks=>if ks.Nodup∧ks.length≤18∧fj rows=true then some (Rs.ok (Dv.lst ((isortB (fun a b=>!ltL b a) rows).map Dv.tup))) else none
  | _,_=>none)=_
 rw [jo,e0,gZ]
 dsimp only
 rw [if_pos ⟨hk,by simpa using hl,nN (by omega)⟩]
 rfl
theorem tE {α:Type} [DecidableEq α]:∀ (ks acc:List α) (x:α),x∈acc∨x∈ks→x∈ks.foldl ST.addK acc
 | [],acc,x,h=>by simpa using h
 | k :: ks,acc,x,h=>by
  refine tE ks _ x ?_
  unfold ST.addK
  rcases h with h | h
  · exact .inl (by split; exact h; exact ge _ h)
  · rcases p_.mp h with rfl | h
    · exact .inl (by split; assumption; exact g_)
    · exact .inr h
theorem tG {α:Type} [DecidableEq α]:∀ (ks acc:List α),acc.Nodup→(ks.foldl ST.addK acc).Nodup
 | [],acc,h=>h
 | k :: ks,acc,h=>by
  refine tG ks _ ?_
  unfold ST.addK
  split
  · exact h
  · rename_i hk
    exact Ha.mpr ⟨hk,h⟩
theorem BJ {n:aF} (h:n∈xs):gnm t n∈gls t xs:=by
 unfold gls
 rw [(isortB_perm leS _).mem_iff]
 exact tE _ _ _ (.inr (J_ h))
theorem BK:(gls t xs).Nodup:=by
 unfold gls
 rw [(isortB_perm leS _).nodup_iff]
 exact tG _ _ List.nodup_nil
theorem jq {α:Type} (p:α→Bool):∀ l:List α,(l.filter p ++ l.filter fun a=>!p a).Perm l
 | []=>.refl _
 | a :: l=>by
  cases h:p a with
  | true =>
   rw [G9 h,G_ (by simp [h])]
   exact (jq p l).cons a
  | false =>
   rw [G_ (by simp [h]),G9 (by simp [h])]
   exact MX.trans ((jq p l).cons a)
theorem mv (f:aF→Str):∀ (gs:List Str) (js:List aF),gs.Nodup→(∀ n∈js,f n∈gs)→(gs.flatMap fun g=>mem f js g).Perm js
 | [],js,_,h=>by
  cases js with
  | nil=>exact .refl _
  | cons n js=>exact absurd (h n g_) (by simp)
 | g :: gs,js,hn,h=>by
  rw [Ha] at hn
  rw [Jx]
  have ih:=mv f gs (js.filter fun n=>!decide (f n=g)) hn.2 fun n hn'=>by
   obtain ⟨h1,h2⟩:=FX.mp hn'
   rcases p_.mp (h n h1) with e | e
   · simp [e] at h2
   · exact e
  have e:(gs.flatMap fun x=>mem f js x)=gs.flatMap fun x=>mem f (js.filter fun n=>!decide (f n=g)) x:=by
   rw [M3,M3]
   congr 1
   apply Ma
   intro x hx
   unfold mem
   rw [Mr]
   apply KH
   intro n _
   by_cases hx':f n=x
   · have:f n≠g:=fun z=>hn.1 (by rw [← z,hx']; exact hx)
     subst hx'
     simp [this]
   · simp [hx']
  rw [e]
  exact (Lx _ ih).trans (jq (fun n=>decide (f n=g)) js)
theorem pe (js:List aF):((gls t js).flatMap fun g=>fm (mem (gnm t) js g)).Perm js:=by
 refine List.Perm.trans ?_ (mv (gnm t) (gls t js) js BK fun n hn=>BJ hn)
 generalize gls t js=gs
 induction gs with
 | nil=>exact .refl _
 | cons g gs ih=>rw [Jx,Jx]; exact (eI _).append ih
end
section
variable {ns:List Int} {t:List Dv} {js:List aF} {as:List Ask} {now:Int}
def E13 (ns:List Int) (t:List Dv) (js:List aF) (as:List Ask) (now:Int) (x5 x6 x7 x8 x9 x10 x11 x12:Option Dv):Ev:=[some (.scr ns),some (.tup t),some (ej js),some (.lst (as.map ba)),some (.int now),x5,x6,x7,x8,x9,x10,x11,x12]
theorem tH {a b:List Dv} (h:a.length + b.length≤100000):cq (.lst a) (.lst b)=some (.ok (.lst (a ++ b))):=by
 show (if a.length + b.length≤100000 then some (Rs.ok (Dv.lst (a ++ b))) else none)=_
 rw [if_pos h]
theorem BL {f:aF→Str} {g:Str}:(mem f js g).length≤js.length:=FK _ _
theorem BM (J:Jar js) (f:aF→Str) (g:Str):((fm (mem f js g)).map key).Nodup:=by
 rw [((eI (mem f js g)).map key).nodup_iff]
 exact List.Nodup.sublist (List.filter_sublist.map key) J.k
theorem Ft (g:Str):gk t js g=.tup [.str g,.lst ((fm (mem (gnm t) js g)).map ek)]:=by unfold gk; rw [pc]
theorem mw (J:Jar js) {R:Option Dv}:∀ (gs:List Str) (acc:List aF) (x7 x8:Option Dv),acc.length + 18 * gs.length≤90000→∃ y7 y8,ig (gP 7 8) [] eG (gs.map (gk t js)) (E13 ns t js as now R (some (.lst (acc.map ek))) x7 x8 none none none none)=some (.nx (E13 ns t js as now R (some (.lst ((acc ++ gs.flatMap fun g=>fm (mem (gnm t) js g)).map ek))) y7 y8 none none none none))
 | [],acc,x7,x8,_=>⟨x7,x8,by rw [List.flatMap_nil,IT]; rfl⟩
 | g :: gs,acc,x7,x8,hl=>by
  have jl:=J.l
  have h1:(fm (mem (gnm t) js g)).length≤18:=by
   rw [(eI _).length_eq]
   have:=BL (js:=js) (f:=gnm t) (g:=g)
   omega
  rw [Hh] at hl
  obtain ⟨y7,y8,ih⟩:=mw J (R:=R) gs (acc ++ fm (mem (gnm t) js g)) (some (.str g)) (some (.lst ((fm (mem (gnm t) js g)).map ek))) (by rw [GM]; omega)
  refine ⟨y7,y8,?_⟩
  rw [xy,Ft,Jx,← Iy]
  unfold ig
  have v:nr (E13 ns t js as now R (some (.lst (acc.map ek))) (some (.str g)) (some (.lst ((fm (mem (gnm t) js g)).map ek))) none none none none)=some (.ok (.lst ((acc ++ fm (mem (gnm t) js g)).map ek))):=by
   rw [G0]
   exact (bg rfl rfl).trans (tH (by simp; omega))
  have es:eP [.lst ((fm (mem (gnm t) js g)).map ek)]=some (.ok (.lst ((fm (mem (gnm t) js g)).map ek))):=by
   rw [tD (BM J _ _) h1,kM (eI _),pc]
  have it:It1 2 (.lst ((fm (mem (gnm t) js g)).map ek)):=by
   rw [← pc]
   exact nJ fun n hn=>J.g n (FX.mp hn).1
  have c:nu (E13 ns t js as now R (some (.lst ((acc ++ fm (mem (gnm t) js g)).map ek))) (some (.str g)) (some (.lst ((fm (mem (gnm t) js g)).map ek))) none none none none)=some (.ok false) :=
   bV ((bg rfl ((bS (ah rfl av)).trans es)).trans (nI it (by omega)))
  have b:eG (E13 ns t js as now R (some (.lst (acc.map ek))) (some (.str g)) (some (.lst ((fm (mem (gnm t) js g)).map ek))) none none none none)=some (.nx (E13 ns t js as now R (some (.lst ((acc ++ fm (mem (gnm t) js g)).map ek))) (some (.str g)) (some (.lst ((fm (mem (gnm t) js g)).map ek))) none none none none)):=by
   unfold eG
   rw [aq (bd v rfl)]
   exact bt c
  show (match eG (E13 ns t js as now R (some (.lst (acc.map ek))) (some (.str g)) (some (.lst ((fm (mem (gnm t) js g)).map ek))) none none none none) with | some (.nx ρ')=>ig (gP 7 8) [] eG (gs.map (gk t js)) ρ' | o=>o)=_
  rw [b]
  exact ih
theorem tI {n:aF} {l:List aF} (hn:Good n) (hl:∀ a∈l,Good a):inX (enc n) (.lst (l.map enc))=some (.ok (.bl (decide (n∈l))))∧dU (enc n) (.lst (l.map enc))=some (.ok (.bl (!decide (n∈l)))):=by
 have e:(l.any fun a=>decide (a=n))=decide (n∈l):=by
  rw [FY,K6,decide_eq_true_eq]
  constructor
  · rintro ⟨a,ha,h⟩
    have:a=n:=by simpa using h
    rw [← this]; exact ha
  · intro h
    exact ⟨n,h,by simp⟩
 have:=DF (p:=fun a=>decide (a=n)) ((oZ hn).le (by omega)) rfl (fun a ha=>(oZ (hl a ha)).le (by omega)) (fun a _=>xZ a n)
 rw [e] at this
 exact ⟨this.1,this.2.1⟩
def swp (js:List aF) (now:Int):List aF:=js.filter fun n=>!dQ n now
theorem pf (J:Jar js) (h1:0≤now) (h2:now≤9999):fJ [ej js,.int now]=some (.ok (ej (swp js now))):=by
 have hl:=J.l
 have e:ca [ej js,.int now]=some (.ok (ej (swp js now))):=by
  refine cm ?_
  show bA [some (ej js),some (.int now)]=_
  unfold bA
  refine bO ?_
  have e:(aN [("now",1)] (bM (ab 0)) (some (ce (fB (ac az 2 (aa (ab 0) (aa (ab 1) ag)))))) (ab 0)) [some (ej js),some (.int now)]=some (.ok (.lst ((swp js now).map enc))) :=
   cv enc _ enc (eH rfl) (by omega) fun n hn=>⟨fu (bV (cV az rfl rfl (iz n now))),rfl⟩
  exact (bS (ah e av)).trans rfl
 refine cm ?_
 show jj [some (ej js),some (.int now)]=_
 unfold jj
 rw [aq (dY aO rfl (BI (tq J))),aq (dY ay rfl (tw (ml h1 h2)))]
 exact bO (cV ca rfl rfl e)
theorem vZ (J:Jar js) {far:Int}:∀ n∈dq js now far,Good n:=fun n hn=>J.g n (FX.mp hn).1
theorem jW {n:aF} {a b:Int} (h:a≤b) (e:dQ n a=true):dQ n b=true:=by
 unfold dQ at *
 cases h':n.ends with
 | none=>rw [h'] at e; cases e
 | some i =>
  rw [h'] at e
  simp at e ⊢
  omega
theorem gB {a b:Int} (h:a≤b) {n:aF} (hn:n∈dq js now a):n∈dq js now b:=by
 unfold dq at *
 rw [FX,k_] at *
 exact ⟨hn.1,jW (by omega) hn.2.1,hn.2.2⟩
theorem yl (far:Int) (hf:0≤far):(swp js now).filter (fun n=>!decide (n∈dq js now far))=swp js (now + far):=by
 unfold swp
 rw [Mr]
 apply KH
 intro n hn
 unfold dq
 rw [FY]
 simp only [FX,hn,true_and,k_,Go,decide_eq_false_iff_not,not_and]
 constructor
 · rintro ⟨h1,h2⟩
   cases h:dQ n (now + far) with
   | false=>rfl
   | true=>exact absurd h2 (h1 h)
 · intro h
   refine ⟨fun z=>?_,?_⟩
   · rw [h] at z; cases z
   · cases h':dQ n now with
     | false=>rfl
     | true=>rw [jW (show now≤now + far by omega) h'] at h; cases h
theorem vg (J:Jar js) (h1:0≤now) (h2:now < 40) {far:Int} (h3:0≤far) (h4:far≤9999) (h5:far < 9000→far≤40) {L:List aF} (hL:∀ n∈L,n∈dq js now far) (hLl:L.length≤18) {x5 x6 x7 x8:Option Dv} :
 dC (E13 ns t js as now x5 x6 x7 x8 (some (.lst (L.map enc))) (some (.int far)) none none)=some (.nx (E13 ns t js as now x5 x6 x7 x8 (some (.lst ((dq js now far).map enc))) (some (.int far)) (some (.lst ((dq js now far).map enc))) (some (ej (swp js (now + far)))))):=by
 have jl:=J.l
 have gs:=vZ (now:=now) (far:=far) J
 have sl:(dq js now far).length≤js.length:=FK _ _
 have wl:(swp js now).length≤js.length:=FK _ _
 unfold dC
 have v8:kz (E13 ns t js as now x5 x6 x7 x8 (some (.lst (L.map enc))) (some (.int far)) none none)=some (.ok (.lst ((dq js now far).map enc))):=kH eY rfl rfl rfl (mo J h1 h2 h3 h4)
 have s8:bq 11 kz (E13 ns t js as now x5 x6 x7 x8 (some (.lst (L.map enc))) (some (.int far)) none none)=some (.nx (E13 ns t js as now x5 x6 x7 x8 (some (.lst (L.map enc))) (some (.int far)) (some (.lst ((dq js now far).map enc))) none)):=bd v8 rfl
 rw [aq s8]
 have c3:nA (E13 ns t js as now x5 x6 x7 x8 (some (.lst (L.map enc))) (some (.int far)) (some (.lst ((dq js now far).map enc))) none)=some (.ok false):=by
  have e:(aN [("_law_soon",11)] (bM (ab 9)) (some (fB (f2 dU (ab 0) (ab 1)))) (ab 0)) (E13 ns t js as now x5 x6 x7 x8 (some (.lst (L.map enc))) (some (.int far)) (some (.lst ((dq js now far).map enc))) none)=some (.ok (.lst [])):=by
   have e0:L.filter (fun n=>!decide (n∈dq js now far))=[]:=by
    rw [Lm]
    intro n hn
    simp [hL n hn]
   refine (cv enc (fun n=>!decide (n∈dq js now far)) enc (fK rfl) (by omega) fun n hn=>⟨bV ((bg (x:=enc n) (y:=.lst ((dq js now far).map enc)) rfl rfl).trans (tI (gs n (hL n hn)) gs).2),rfl⟩).trans ?_
   rw [e0]
   rfl
  exact bV ((bg e rfl).trans (by kernel_rfl))
 rw [aq (bt c3)]
 have gw:∀ n∈swp js now,Good n:=fun n hn=>J.g n (FX.mp hn).1
 have v9:kA (E13 ns t js as now x5 x6 x7 x8 (some (.lst (L.map enc))) (some (.int far)) (some (.lst ((dq js now far).map enc))) none)=some (.ok (ej (swp js (now + far)))):=by
  have e:(aN [("_law_soon",11)] (bM (ac fJ 2 (aa (ab 2) (aa (ab 4) ag)))) (some (fB (f2 dU (ab 0) (ab 1)))) (ab 0)) (E13 ns t js as now x5 x6 x7 x8 (some (.lst (L.map enc))) (some (.int far)) (some (.lst ((dq js now far).map enc))) none)=some (.ok (.lst ((swp js (now + far)).map enc))):=by
   refine (cv enc (fun n=>!decide (n∈dq js now far)) enc (sY (cV fJ rfl rfl (pf J h1 (by omega)))) (by omega) fun n hn=>⟨bV ((bg (x:=enc n) (y:=.lst ((dq js now far).map enc)) rfl rfl).trans (tI (gw n hn) gs).2),rfl⟩).trans ?_
   rw [yl far h3]
  exact (bS (ah e av)).trans rfl
 have s9:bq 12 kA (E13 ns t js as now x5 x6 x7 x8 (some (.lst (L.map enc))) (some (.int far)) (some (.lst ((dq js now far).map enc))) none)=some (.nx (E13 ns t js as now x5 x6 x7 x8 (some (.lst (L.map enc))) (some (.int far)) (some (.lst ((dq js now far).map enc))) (some (ej (swp js (now + far)))))):=bd v9 rfl
 rw [aq s9]
 have c4:kB (E13 ns t js as now x5 x6 x7 x8 (some (.lst (L.map enc))) (some (.int far)) (some (.lst ((dq js now far).map enc))) (some (ej (swp js (now + far)))))=some (.ok false):=by
  have k1:fB (f2 ltX (ab 10) (fC (.int 9000))) (E13 ns t js as now x5 x6 x7 x8 (some (.lst (L.map enc))) (some (.int far)) (some (.lst ((dq js now far).map enc))) (some (ej (swp js (now + far)))))=some (.ok (decide (far < 9000))):=bV ((bg (x:=.int far) (y:=.int 9000) rfl rfl).trans rfl)
  unfold kB
  by_cases hf:far < 9000
  · rw [decide_eq_true hf] at k1
    rw [qX k1]
    have gs2:∀ n∈swp js (now + far),Good n:=fun n hn=>J.g n (FX.mp hn).1
    exact bV ((bg rfl (cV fJ rfl ((bg (x:=.int now) (y:=.int far) rfl rfl).trans (gY _ _)) (pf J (by omega) (by have:=h5 hf; omega)))).trans (nI (DN gs2) (by omega)))
  · rw [decide_eq_false hf] at k1
    exact qY k1
 rw [aq (bt c4)]
 exact bd rfl rfl
theorem tJ (J:Jar js) (h1:0≤now) (h2:now < 40) {x5 x6 x7 x8:Option Dv}:∃ y10 y11 y12,fq 10 [10,11,12] dC [.int 0,.int 3,.int 10,.int 40,.int 9999] (E13 ns t js as now x5 x6 x7 x8 (some (.lst [])) none none none)=some (.nx (E13 ns t js as now x5 x6 x7 x8 (some (.lst ((dq js now 9999).map enc))) y10 y11 y12)):=by
 have jl:=J.l
 have sl:∀ far,(dq js now far).length≤18:=fun far=>FH (FK _ _) jl
 refine ⟨none,none,none,?_⟩
 have st:∀ (far:Int) (L:List aF) (ds:List Dv) (y10 y11 y12:Option Dv),0≤far→far≤9999→(far < 9000→far≤40)→(∀ n∈L,n∈dq js now far)→L.length≤18 →
  fq 10 [10,11,12] dC (.int far :: ds) (E13 ns t js as now x5 x6 x7 x8 (some (.lst (L.map enc))) y10 y11 y12)=fq 10 [10,11,12] dC ds (E13 ns t js as now x5 x6 x7 x8 (some (.lst ((dq js now far).map enc))) (some (.int far)) (some (.lst ((dq js now far).map enc))) (some (ej (swp js (now + far))))):=by
  intro far L ds y10 y11 y12 h3 h4 h5 hL hl
  rw [fq]
  show (match dC (E13 ns t js as now x5 x6 x7 x8 (some (.lst (L.map enc))) (some (.int far)) none none) with | some (.nx ρ')=>fq 10 [10,11,12] dC ds ρ' | o=>o)=_
  rw [vg J h1 h2 h3 h4 h5 hL hl]
 rw [show (some (Dv.lst []):Option Dv)=some (.lst (([]:List aF).map enc)) from rfl,
  st 0 [] _ _ _ _ (by omega) (by omega) (by omega) (by simp) (by simp),
  st 3 _ _ _ _ _ (by omega) (by omega) (by omega) (fun n hn=>gB (by omega) hn) (sl _),
  st 10 _ _ _ _ _ (by omega) (by omega) (by omega) (fun n hn=>gB (by omega) hn) (sl _),
  st 40 _ _ _ _ _ (by omega) (by omega) (by omega) (fun n hn=>gB (by omega) hn) (sl _),
  st 9999 _ _ _ _ _ (by omega) (by omega) (by omega) (fun n hn=>gB (by omega) hn) (sl _)]
 rfl
end
section
variable {ns:List Int} {t:List Dv} {js:List aF} {as:List Ask} {now:Int}
theorem ym (n:aF):imm (enc n)=true:=by
 unfold enc
 cases h:n.ends <;> simp [imm,imms,eO]
theorem ph:∀ xs:List aF,imms (xs.map enc)=true
 | []=>by simp [imms]
 | n :: xs=>by simp [imms,ym n,ph xs]
theorem vh (F:List Dv→Option (Rs Dv)) {f g k m:FnE} {ρ:Ev} {a b c d e:Dv} (h:f ρ=some (.ok a)) (h':g ρ=some (.ok b)) (h'':k ρ=some (.ok c)) (h3:m ρ=some (.ok d)) (hF:F [a,b,c,d]=some (.ok e)):ac F 4 (aa f (aa g (aa k (aa m ag)))) ρ=some (.ok e) :=
 dv (ah h (ah h' (ah h'' (ah h3 av)))) rfl hF
def kp (n:aF):Int:=-(n.path.length:Int)
theorem yn:(pths.all fun p=>decide (p.length≤100000))=true:=by kernel_rfl
theorem D4 {n:aF} (g:Good n):yD 1 (f1 yx (fB1 cP (aa (f2 ixD (ab 0) (fC (.int 4))) ag))) [enc n]=some (.ok (.int (kp n))):=by
 have h:n.path.length≤100000:=by simpa using ci (p:=fun p:Str=>decide (p.length≤100000)) yn g.path
 show f1 yx (fB1 cP (aa (f2 ixD (ab 0) (fC (.int 4))) ag)) [some (enc n)]=_
 have e:cP [.str n.path]=some (.ok (.int (n.path.length:Int))):=by
  show (if n.path.length≤100000 then some (Rs.ok (Dv.int (n.path.length:Int))) else none)=_
  rw [if_pos h]
 exact (C8 ((bS (ah (x:=.str n.path) rfl av)).trans e)).trans rfl
theorem jX {F:List Dv→Option (Rs Dv)}:∀ {l:List aF},(∀ n∈l,F [enc n]=some (.ok (.int (kp n))))→ec F (l.map enc)=some (l.map kp)
 | [],_=>rfl
 | n :: l,h=>by
  show (match F [enc n],ec F (l.map enc) with | some (.ok (.int k)),some ks=>some (k :: ks) | _,_=>none)=_
  rw [h n g_,jX fun m hm=>h m (ge _ hm)]
  rfl
def snt (l:List aF):List aF:=isortB (fun a b=>!decide (kp b < kp a)) l
theorem pk (l:List aF):(snt l).Perm l:=isortB_perm _ _
theorem vi {F:List Dv→Option (Rs Dv)} {l:List aF} (h:∀ n∈l,F [enc n]=some (.ok (.int (kp n)))) (hl:l.length < 64):pM F [.lst (l.map enc)]=some (.ok (.lst ((snt l).map enc))):=by
 show (match ec F (l.map enc) with | some ks=>if ks.length < 64∧imms (l.map enc)=true then some (Rs.ok (Dv.lst (fE ks (l.map enc)))) else none | none=>none)=_
 rw [jX h]
 dsimp only
 rw [if_pos ⟨by simpa using hl,ph l⟩]
 unfold fE snt
 have e:(l.map kp).zip (l.map enc)=l.map fun n=>(kp n,enc n):=by
  clear h hl
  induction l with
  | nil=>rfl
  | cons n l ih=>rw [xy,xy,List.zip_cons_cons,ih]; rfl
 rw [e,← gd (le:=fun a b=>!decide (kp b < kp a)) (fun n=>(kp n,enc n)) l fun _ _ _ _=>rfl,GC]
 rfl
def gon (t:List Dv) (js:List aF) (a:Ask) (now:Int):List aF:=js.filter fun n=>go t n a now
theorem yo (ht:t∈fN rules) (J:Jar js) {a:Ask} (ga:gA a) (h1:0≤now) (h2:now < 40):ji [.tup t,ej js,ba a,.int now]=some (.ok (.lst ((snt (gon t js a now)).map enc))):=by
 have jl:=J.l
 have hl:(gon t js a now).length≤js.length:=FK _ _
 have n1:bK [.tup t,ej js,ba a,.int now]=some (.ok .non):=by
  have e:bn [some (.tup t),some (ej js),some (ba a),some (.int now)]=some (.nx [some (.tup t),some (ej js),some (ba a),some (.int now)]):=by
   unfold bn
   rw [aq (dY aU rfl (DX (jp ht))),aq (dY aO rfl (BI (tq J))),aq (dY dh rfl (Fq (BH ga)))]
   exact dY ay rfl (tw (ml h1 (by omega)))
  unfold bK aS
  show (match bn [some (.tup t),some (ej js),some (ba a),some (.int now)] with | some (.nx _)=>some (Rs.ok Dv.non) | some (.rt d)=>some (Rs.ok d) | _=>none)=_
  rw [e]
 refine cm ?_
 show l0 [some (.tup t),some (ej js),some (ba a),some (.int now),none]=_
 unfold l0
 rw [aq (oq (vh bK rfl rfl rfl rfl n1))]
 have e1:(aK 1 [("table",0),("ask",2),("now",3)] (bM (ab 1)) (gN 0) (some (fB (ac h8 4 (aa (ab 1) (aa (ab 0) (aa (ab 2) (aa (ab 3) ag))))))) (ab 0)) [some (.tup t),some (ej js),some (ba a),some (.int now),none]=some (.ok (.lst ((gon t js a now).map enc))) :=
  pU enc (fun n=>go t n a now) enc (eH rfl) (by omega) fun n hn=>⟨bV (vh h8 rfl rfl rfl rfl (mD ht (J.g n hn) ga now)),rfl⟩
 rw [aq (bd e1 rfl)]
 simp only [Hn,Hm]
 exact bO ((bS (ah rfl av)).trans (vi (fun n hn=>D4 (J.g n (FX.mp hn).1)) (by omega)))
theorem BN {n:aF} {p:Ask×Nat} (hp:p∈as.zipIdx):inX (.int (p.2:Int)) (.lst (nmb t n as now))=bo (go t n p.1 now):=by
 have hf:(nmb t n as now).all cU=true:=by
  rw [Gz]
  intro d hd
  obtain ⟨q,_,rfl⟩:=C_.mp hd
  rfl
 have e:((nmb t n as now).any fun y=>eqF y (.int (p.2:Int)))=go t n p.1 now:=by
  unfold nmb
  rw [List.any_map,FY,K6]
  have key:∀ q:Ask×Nat,(eqF (Dv.int (q.2:Int)) (.int (p.2:Int)))=decide (q.2=p.2):=fun q=>by
   show ((q.2:Int) == (p.2:Int))=_
   rw [FY]
   simp
   omega
  constructor
  · rintro ⟨q,hq,h⟩
    obtain ⟨q1,q2⟩:=FX.mp hq
    have h':q.2=p.2:=by
     have:=key q
     rw [show eqF (Dv.int (q.2:Int)) (.int (p.2:Int))=true from h] at this
     simpa using this.symm
    have a1:=Im.mp q1
    have a2:=Im.mp hp
    rw [h',a2] at a1
    rw [FU a1]
    exact q2
  · intro h
    exact ⟨p,FX.mpr ⟨hp,h⟩,by show eqF (Dv.int (p.2:Int)) (.int (p.2:Int))=true; rw [key]; simp⟩
 show (match (match inL (.int (p.2:Int)) (nmb t n as now) with | some b=>some b | none=>inP (.int (p.2:Int)) (nmb t n as now)) with | some b=>some (Rs.ok (Dv.bl b)) | none=>none)=_
 unfold inL
 rw [hf,e]
 rfl
theorem yp {n:aF} (c:Nat) (hc:c≤as.length):nmb t n as now=nmb t n (as.take c) now ++ ((as.drop c).zipIdx.filter fun p=>go t n p.1 now).map fun p=>Dv.int ((c:Int) + (p.2:Int)):=by
 unfold nmb
 have e:as.zipIdx=(as.take c).zipIdx ++ ((as.drop c).zipIdx.map fun p=>(p.1,c + p.2)):=by
  conv=>lhs; rw [← Lv c as]
  rw [List.zipIdx_append]
  congr 1
  rw [JK,Nat.min_eq_left hc,List.zipIdx_eq_map_add]
  simp [Nat.add_comm]
 rw [e,List.filter_append,G0,List.filter_map,GC]
 congr 1
end
section
variable {ns:List Int} {t:List Dv} {js:List aF} {as:List Ask} {now:Int}
theorem BO {xs:List aF} (hg:∀ o∈xs,Good o):It1 2 (.lst (xs.map ek)):=jk fun d hd=>by
 obtain ⟨x,hx,rfl⟩:=C_.mp hd
 exact sZ (hg x hx)
theorem mx (J:Jar js) {ρ:Ev} (h:ρ[2]?=some (some (ej js))):aN [] (bM (ab 2)) none (ac aH 1 (aa (ab 0) ag)) ρ=some (.ok (.lst (js.map ek))):=by
 have jl:=J.l
 exact cb enc ek (eH h) (by omega) fun n hn=>ie aH rfl (nM n)
theorem vj (ht:t∈fN rules) (J:Jar js) (h1:0≤now) (h2:now < 40) {p:Ask×Nat} (hp:p∈as.zipIdx) (ga:gA p.1) {y:List (Option Dv)} :
 aC (some (.scr ns) :: some (.tup t) :: some (ej js) :: some (.lst (as.map ba)) :: some (.int now) :: some (.lst (js.map (alo t as now))) :: some (.int (p.2:Int)) :: some (ba p.1) :: none :: y) =
  some (.nx (some (.scr ns) :: some (.tup t) :: some (ej js) :: some (.lst (as.map ba)) :: some (.int now) :: some (.lst (js.map (alo t as now))) :: some (.int (p.2:Int)) :: some (ba p.1) :: some (jU (gon t js p.1 now)) :: y)):=by
 have jl:=J.l
 have hl:(gon t js p.1 now).length≤js.length:=FK _ _
 have sl:(snt (gon t js p.1 now)).length≤18:=by rw [(pk _).length_eq]; omega
 unfold aC
 have e1:(fB1 iS (aa (aN [] (bM (ac ji 4 (aa (ab 1) (aa (ab 2) (aa (ab 7) (aa (ab 4) ag)))))) none (ac aH 1 (aa (ab 0) ag))) ag)) (some (.scr ns) :: some (.tup t) :: some (ej js) :: some (.lst (as.map ba)) :: some (.int now) :: some (.lst (js.map (alo t as now))) :: some (.int (p.2:Int)) :: some (ba p.1) :: none :: y)=some (.ok (jU (gon t js p.1 now))):=by
  have e:(aN [] (bM (ac ji 4 (aa (ab 1) (aa (ab 2) (aa (ab 7) (aa (ab 4) ag)))))) none (ac aH 1 (aa (ab 0) ag))) (some (.scr ns) :: some (.tup t) :: some (ej js) :: some (.lst (as.map ba)) :: some (.int now) :: some (.lst (js.map (alo t as now))) :: some (.int (p.2:Int)) :: some (ba p.1) :: none :: y)=some (.ok (.lst ((snt (gon t js p.1 now)).map ek))) :=
   cb enc ek (o7 (vh ji rfl rfl rfl rfl (yo ht J ga h1 h2))) (by omega) fun n hn=>ie aH rfl (nM n)
  rw [bS (ah e av),dk (by omega),kM (pk _)]
 have s1:bq 8 (fB1 iS (aa (aN [] (bM (ac ji 4 (aa (ab 1) (aa (ab 2) (aa (ab 7) (aa (ab 4) ag)))))) none (ac aH 1 (aa (ab 0) ag))) ag)) (some (.scr ns) :: some (.tup t) :: some (ej js) :: some (.lst (as.map ba)) :: some (.int now) :: some (.lst (js.map (alo t as now))) :: some (.int (p.2:Int)) :: some (ba p.1) :: none :: y)=some (.nx (some (.scr ns) :: some (.tup t) :: some (ej js) :: some (.lst (as.map ba)) :: some (.int now) :: some (.lst (js.map (alo t as now))) :: some (.int (p.2:Int)) :: some (ba p.1) :: some (jU (gon t js p.1 now)) :: y)):=bd e1 rfl
 rw [aq s1]
 refine bt (bV ((bg ?_ rfl).trans (nI (nJ fun n hn=>J.g n (FX.mp hn).1) (by omega))))
 have e:(aK 2 [("_law_number",6)] (bM (ab 5)) (gP 0 1) (some (fB (f2 inX (ab 2) (ab 1)))) (ab 0)) (some (.scr ns) :: some (.tup t) :: some (ej js) :: some (.lst (as.map ba)) :: some (.int now) :: some (.lst (js.map (alo t as now))) :: some (.int (p.2:Int)) :: some (ba p.1) :: some (jU (gon t js p.1 now)) :: y)=some (.ok (.lst ((gon t js p.1 now).map ek))) :=
  pX ek (fun n=>.lst (nmb t n as now)) ek (fun n=>go t n p.1 now) (fK rfl) (by omega) fun n hn=>⟨bV ((bg (x:=.int (p.2:Int)) (y:=.lst (nmb t n as now)) rfl rfl).trans (BN hp)),rfl⟩
 rw [bS (ah e av),dk (by omega)]
 rfl
theorem my (ht:t∈fN rules) (J:Jar js) (h1:0≤now) (h2:now < 40) (ga:∀ a∈as,gA a):∀ (ps:List (Ask×Nat)) (x6 x7 x8:Option Dv),(∀ p∈ps,p∈as.zipIdx) →
 ∃ y6,ig (gP 6 7) [7,8] aC (ps.map fun p=>Dv.tup [.int (p.2:Int),ba p.1]) (E13 ns t js as now (some (.lst (js.map (alo t as now)))) x6 x7 x8 none none none none)=some (.nx (E13 ns t js as now (some (.lst (js.map (alo t as now)))) y6 none none none none none none))
 | [],x6,x7,x8,_=>⟨x6,rfl⟩
 | p :: ps,x6,x7,x8,h=>by
  have hp:=h p g_
  obtain ⟨y6,ih⟩:=my ht J h1 h2 ga ps (some (.int (p.2:Int))) (some (ba p.1)) (some (jU (gon t js p.1 now))) fun q hq=>h q (ge _ hq)
  refine ⟨y6,?_⟩
  rw [xy]
  unfold ig
  have b:=vj (ns:=ns) (as:=as) (y:=[none,none,none,none]) ht J h1 h2 hp (ga p.1 (nK hp).1)
  show (match aC (some (.scr ns) :: some (.tup t) :: some (ej js) :: some (.lst (as.map ba)) :: some (.int now) :: some (.lst (js.map (alo t as now))) :: some (.int (p.2:Int)) :: some (ba p.1) :: none :: [none,none,none,none]) with | some (.nx ρ')=>ig (gP 6 7) [7,8] aC (ps.map fun p:Ask×Nat=>Dv.tup [.int (p.2:Int),ba p.1]) ρ' | o=>o)=_
  rw [b]
  exact ih
theorem yq {α:Type} (l:List α) (n:Nat) (h:n≤l.length):pE l none (some (n:Int))=l.take n:=by
 unfold pE HT.sIx
 simp only [List.drop_zero]
 rw [if_neg (by omega)]
 congr 1
 omega
theorem tK {α:Type} (l:List α) (n:Nat) (h:n≤l.length):pE l (some (n:Int)) none=l.drop n:=by
 unfold pE HT.sIx
 simp only
 rw [if_neg (by omega),show min (n:Int).toNat l.length=n by omega,Lj (by simp)]
theorem Fu {f:aF→Dv} {k:Nat} {n:aF} (h:js[k]?=some n):ixD (.lst (js.map f)) (.int ((0:Int) + (k:Nat)))=some (.ok (f n)):=by
 show (match atD (js.map f) ((0:Int) + (k:Nat)) with | some d=>_ | none=>_)=_
 unfold atD
 rw [if_pos (by omega)]
 simp [h]
theorem vk (c:Nat) (hc:c≤as.length) (hal:as.length≤3) (hg:∀ n∈js,Good n) {k:Nat} (hk:k < js.length) {x6 x7 x8:Option Dv} :
 aP (E13 ns t js as now (some (.lst (js.map (alo t as now)))) x6 x7 x8 (some (.int (c:Int))) (some (.lst (js.map (alo t (as.take c) now)))) (some (.lst (js.map (alo t (as.drop c) now)))) (some (.int ((0:Int) + (k:Nat)))))=some (.nx (E13 ns t js as now (some (.lst (js.map (alo t as now)))) x6 x7 x8 (some (.int (c:Int))) (some (.lst (js.map (alo t (as.take c) now)))) (some (.lst (js.map (alo t (as.drop c) now)))) (some (.int ((0:Int) + (k:Nat)))))):=by
 obtain ⟨n,hn⟩:∃ n,js[k]?=some n:=⟨js[k],by simp [hk]⟩
 have nl:∀ bs:List Ask,(nmb t n bs now).length≤bs.length:=fun bs=>by
  unfold nmb
  rw [y_]
  exact FH (FK _ _) (by simp)
 have fl:(((as.drop c).zipIdx.filter fun p=>go t n p.1 now)).length≤3:=FH (FK _ _) (by simp; omega)
 have tl:(nmb t n (as.take c) now).length≤3:=FH (nl _) (by simp; omega)
 unfold aP
 have it:It1 1 (.lst (nmb t n as now)):=jk fun d hd=>by
  obtain ⟨p,_,rfl⟩:=C_.mp hd
  exact it_int
 have g1:∀ (i:Nat) (bs:List Ask) (ρ:Ev),ρ[i]?=some (some (.lst (js.map (alo t bs now))))→ρ[12]?=some (some (.int ((0:Int) + (k:Nat))))→f2 ixD (f2 ixD (ab i) (ab 12)) (fC (.int 1)) ρ=some (.ok (.lst (nmb t n bs now))):=fun i bs ρ e1 e2 =>
  (bg (x:=alo t bs now n) (y:=.int 1) ((bg (iJ e1) (iJ e2)).trans (Fu hn)) rfl).trans rfl
 refine bt (bV ((bg (g1 5 as _ rfl rfl) (y:=.lst (nmb t n as now)) ?_).trans (nI it (by omega))))
 have e:(aN [("_law_cut",9)] (bM (f2 ixD (f2 ixD (ab 11) (ab 12)) (fC (.int 1)))) none (f2 cq (ab 1) (ab 0))) (E13 ns t js as now (some (.lst (js.map (alo t as now)))) x6 x7 x8 (some (.int (c:Int))) (some (.lst (js.map (alo t (as.take c) now)))) (some (.lst (js.map (alo t (as.drop c) now)))) (some (.int ((0:Int) + (k:Nat)))))=some (.ok (.lst (((as.drop c).zipIdx.filter fun p=>go t n p.1 now).map fun p=>Dv.int ((c:Int) + (p.2:Int))))) :=
  cb (fun p:Ask×Nat=>Dv.int (p.2:Int)) (fun p=>Dv.int ((c:Int) + (p.2:Int))) (o7 (g1 11 (as.drop c) _ rfl rfl)) (by omega) fun p hp=>(bg (x:=.int (c:Int)) (y:=.int (p.2:Int)) rfl rfl).trans (gY _ _)
 rw [bg (g1 10 (as.take c) _ rfl rfl) e,tH (by rw [y_]; omega),← yp c hc]
theorem pY (hl:ns.length≤63) (ht:t∈fN rules) (J:Jar js) (ga:∀ a∈as,gA a) (hal:as.length≤3) (h1:0≤now) (h2:now < 40):cK [.scr ns,.tup t,ej js,.lst (as.map ba),.int now]=bo true:=by
 have jl:=J.l
 refine cm ?_
 show bx (E13 ns t js as now none none none none none none none none)=_
 unfold bx
 have al:∀ (bs:List Ask) (f:FnE) (ρ:Ev),bs.length≤3→(∀ b∈bs,gA b)→ρ[1]?=some (some (.tup t))→ρ[2]?=some (some (ej js))→ρ[4]?=some (some (.int now))→f ρ=some (.ok (.lst (bs.map ba)))→ac cH 4 (aa (ab 1) (aa (ab 2) (aa f (aa (ab 4) ag)))) ρ=some (.ok (.lst (js.map (alo t bs now)))):=fun bs f ρ hb gb e1 e2 e4 ef =>
  vh cH (iJ e1) (iJ e2) ef (iJ e4) (ve ht J gb (by omega) h1 h2)
 have s5:bq 5 (ac cH 4 (aa (ab 1) (aa (ab 2) (aa (ab 3) (aa (ab 4) ag))))) (E13 ns t js as now none none none none none none none none)=some (.nx (E13 ns t js as now (some (.lst (js.map (alo t as now)))) none none none none none none none)):=bd (al as (ab 3) _ hal ga rfl rfl rfl rfl) rfl
 rw [aq s5]
 have c1:(fB (f2 neX (aK 2 [] (bM (ab 5)) (gP 0 1) none (ab 0)) (aN [] (bM (ab 2)) none (ac aH 1 (aa (ab 0) ag))))) (E13 ns t js as now (some (.lst (js.map (alo t as now)))) none none none none none none none)=some (.ok false) :=
  bV ((bg (ms ek (fun n=>.lst (nmb t n as now)) ek (l:=js) (fK rfl) (by omega) fun n hn=>rfl) (mx J rfl)).trans (nI (BO J.g) (by omega)))
 rw [aq (bt c1)]
 obtain ⟨y6,lp⟩:=my (ns:=ns) ht J h1 h2 ga as.zipIdx none none none fun p hp=>hp
 have se:(fun ρ=>bnd ((aa (ab 3) ag) ρ) ll) (E13 ns t js as now (some (.lst (js.map (alo t as now)))) none none none none none none none)=some (.ok (as.zipIdx.map fun p=>Dv.tup [.int (p.2:Int),ba p.1])):=by
  show bnd ((aa (ab 3) ag) (E13 ns t js as now (some (.lst (js.map (alo t as now)))) none none none none none none none)) ll=_
  rw [jm (ah (x:=.lst (as.map ba)) rfl av)]
  show some (Rs.ok (eZ 0 (as.map ba)))=_
  rw [o9 as 0]
 have l1:kb (gP 6 7) [7,8] (fun ρ=>bnd ((aa (ab 3) ag) ρ) ll) aC (E13 ns t js as now (some (.lst (js.map (alo t as now)))) none none none none none none none)=some (.nx (E13 ns t js as now (some (.lst (js.map (alo t as now)))) y6 none none none none none none)):=by
  unfold kb
  rw [se]
  exact lp
 rw [aq l1]
 obtain ⟨d,d0,d1,hd⟩:=aR ns hl 112 ((as.length:Int) + 1) (by omega)
 obtain ⟨c,rfl⟩:∃ c:Nat,d=c:=⟨d.toNat,by omega⟩
 have hc:c≤as.length:=by omega
 have s9:bq 9 (ac ae 3 (aa (ab 0) (aa (fC (.int 112)) (aa (f2 cq (fB1 cP (aa (ab 3) ag)) (fC (.int 1))) ag)))) (E13 ns t js as now (some (.lst (js.map (alo t as now)))) y6 none none none none none none)=some (.nx (E13 ns t js as now (some (.lst (js.map (alo t as now)))) y6 none none (some (.int (c:Int))) none none none)):=by
  refine bd (kH ae rfl rfl ((bg (x:=.int (as.length:Int)) (y:=.int 1) ((bS (ah (x:=.lst (as.map ba)) rfl av)).trans ?_) rfl).trans (gY _ _)) hd) rfl
  show some (Rs.ok (Dv.int ((as.map ba).length:Int)))=_
  rw [y_]
 rw [aq s9]
 have s10:bq 10 (ac cH 4 (aa (ab 1) (aa (ab 2) (aa (q9 (ab 3) k7 (j7 (ab 9))) (aa (ab 4) ag))))) (E13 ns t js as now (some (.lst (js.map (alo t as now)))) y6 none none (some (.int (c:Int))) none none none)=some (.nx (E13 ns t js as now (some (.lst (js.map (alo t as now)))) y6 none none (some (.int (c:Int))) (some (.lst (js.map (alo t (as.take c) now)))) none none)) :=
  bd (al (as.take c) _ _ (by simp; omega) (fun b hb=>ga b (List.mem_of_mem_take hb)) rfl rfl rfl (by
   show some (Rs.ok (Dv.lst (pE (as.map ba) none (some (c:Int)))))=_
   rw [yq _ c (by simpa using hc),List.map_take])) rfl
 rw [aq s10]
 have s11:bq 11 (ac cH 4 (aa (ab 1) (aa (ab 2) (aa (q9 (ab 3) (j7 (ab 9)) k7) (aa (ab 4) ag))))) (E13 ns t js as now (some (.lst (js.map (alo t as now)))) y6 none none (some (.int (c:Int))) (some (.lst (js.map (alo t (as.take c) now)))) none none)=some (.nx (E13 ns t js as now (some (.lst (js.map (alo t as now)))) y6 none none (some (.int (c:Int))) (some (.lst (js.map (alo t (as.take c) now)))) (some (.lst (js.map (alo t (as.drop c) now)))) none)) :=
  bd (al (as.drop c) _ _ (by simp; omega) (fun b hb=>ga b (List.mem_of_mem_drop hb)) rfl rfl rfl (by
   show some (Rs.ok (Dv.lst (pE (as.map ba) (some (c:Int)) none)))=_
   rw [tK _ c (by simpa using hc),List.map_drop])) rfl
 rw [aq s11]
 have l2:tM 12 [12] (fun ρ=>bnd ((aa (fB1 cP (aa (ab 2) ag)) ag) ρ) iH) aP (E13 ns t js as now (some (.lst (js.map (alo t as now)))) y6 none none (some (.int (c:Int))) (some (.lst (js.map (alo t (as.take c) now)))) (some (.lst (js.map (alo t (as.drop c) now)))) none)=some (.nx (E13 ns t js as now (some (.lst (js.map (alo t as now)))) y6 none none (some (.int (c:Int))) (some (.lst (js.map (alo t (as.take c) now)))) (some (.lst (js.map (alo t (as.drop c) now)))) none)):=by
  have sr:(fun ρ=>bnd ((aa (fB1 cP (aa (ab 2) ag)) ag) ρ) iH) (E13 ns t js as now (some (.lst (js.map (alo t as now)))) y6 none none (some (.int (c:Int))) (some (.lst (js.map (alo t (as.take c) now)))) (some (.lst (js.map (alo t (as.drop c) now)))) none)=some (.ok ((f_ js.length).map fun i:Nat=>Dv.int ((0:Int) + (i:Int)))):=by
   have e:(aa (fB1 cP (aa (ab 2) ag)) ag) (E13 ns t js as now (some (.lst (js.map (alo t as now)))) y6 none none (some (.int (c:Int))) (some (.lst (js.map (alo t (as.take c) now)))) (some (.lst (js.map (alo t (as.drop c) now)))) none)=some (.ok [.int (js.length:Int)]) :=
    ah ((bS (ah (x:=ej js) rfl av)).trans (by show some (Rs.ok (Dv.int ((js.map enc).length:Int)))=_; rw [y_])) av
   have e3:iH [.int (js.length:Int)]=some (.ok ((f_ js.length).map fun i:Nat=>Dv.int ((0:Int) + (i:Int)))):=by rw [oX (by omega),gX]
   exact (jm (k:=iH) e).trans e3
  refine (qW (i:=12) (js:=[12]) (src:=fun ρ=>bnd ((aa (fB1 cP (aa (ab 2) ag)) ag) ρ) iH) (body:=aP) sr).trans ?_
  refine iY (fun d hd=>?_) _ rfl
  obtain ⟨i,hi,rfl⟩:=C_.mp hd
  exact ⟨_,vk c hc hal J.g (Gw.mp hi),rfl⟩
 rw [aq l2]
 refine bO ((bg (x:=.lst (js.map (alo t [] now))) (y:=.lst (js.map (alo t [] now))) (al [] (cO ag) _ (by simp) (by simp) rfl rfl rfl (by kernel_rfl)) ?_).trans (xV ((tz J.g).okP (by omega)) (tz J.g).p))
 exact cb enc (alo t [] now) (eH rfl) (by omega) fun n hn=>fw (ah (x:=ek n) (ie aH rfl (nM n)) (ah (x:=.lst []) (by kernel_rfl) av)) (by show 2≤100000; decide)
end
theorem yr {t:List Dv} {xs:List aF} (ht:t∈fN rules) (hg:∀ n∈xs,Good n):It1 4 (.lst ((gls t xs).map (row t xs))):=jk fun d hd=>by
 obtain ⟨g,hgl,rfl⟩:=C_.mp hd
 refine mf fun d hd=>?_
 simp only [p_,FP,or_false] at hd
 rcases hd with rfl | rfl
 · exact (gz (ye ht hg hgl)).le (by omega)
 · exact it_int.le (by omega)
theorem vm (xs:List aF):cP [jU xs]=some (.ok (.int (xs.length:Int))):=by
 rw [pc]
 show some (Rs.ok (Dv.int (((fm xs).map ek).length:Int)))=_
 rw [y_,(eI xs).length_eq]
theorem vn (ns:List Int) (hl:ns.length≤63):sV [.scr ns]=some (.ok (.bl true)):=by
 obtain ⟨t,ht,eT⟩:=vb ns hl
 obtain ⟨js,jn,eJ,J,hjl,_⟩:=Bz ns hl 20 6 (by omega)
 obtain ⟨as,eA,hal,ga⟩:=yk ns hl (.tup t) (ej js)
 obtain ⟨now,a1,b1,e1⟩:=aR ns hl 111 40 (by omega)
 have gj:=J.g
 have jl:=J.l
 have hgl:=nH (t:=t) (xs:=js)
 refine cm ?_
 show sU [some (.scr ns),none,none,none,none,none,none,none,none,none,none,none,none]=_
 unfold sU
 have w1:nj [some (.scr ns),none,none,none,none,none,none,none,none,none,none,none,none]=some (.ok (.tup t)):=cV cu rfl rfl eT
 rw [aq (bd w1 rfl)]
 simp only [Hn,Hm]
 have w2:nk [some (.scr ns),some (.tup t),none,none,none,none,none,none,none,none,none,none,none]=some (.ok (ej js)):=kH eV rfl rfl rfl eJ
 rw [aq (bd w2 rfl)]
 simp only [Hn,Hm]
 rw [aq (bd eA rfl)]
 simp only [Hn,Hm]
 have w4:nn [some (.scr ns),some (.tup t),some (ej js),some (.lst (as.map ba)),none,none,none,none,none,none,none,none,none]=some (.ok (.int now)):=kH ae rfl rfl rfl e1
 rw [aq (bd w4 rfl)]
 simp only [Hn,Hm]
 have s5:bq 5 ky (E13 ns t js as now none none none none none none none none)=some (.nx (E13 ns t js as now (some (.lst ((gls t js).map (gk t js)))) none none none none none none none)):=bd (cV eX rfl rfl (DY ht J)) rfl
 show aA (bq 5 ky) _ (E13 ns t js as now none none none none none none none none)=_
 rw [aq s5]
 have s6:bq 6 nq (E13 ns t js as now (some (.lst ((gls t js).map (gk t js)))) none none none none none none none)=some (.nx (E13 ns t js as now (some (.lst ((gls t js).map (gk t js)))) (some (.lst (([]:List aF).map ek))) none none none none none none)):=bd (iK av (by decide)) rfl
 rw [aq s6]
 obtain ⟨y7,y8,lp⟩:=mw (ns:=ns) (t:=t) (as:=as) (now:=now) J (R:=some (.lst ((gls t js).map (gk t js)))) (gls t js) [] none none (by simp; omega)
 have l1:kb (gP 7 8) [] (bM (ab 5)) eG (E13 ns t js as now (some (.lst ((gls t js).map (gk t js)))) (some (.lst (([]:List aF).map ek))) none none none none none none)=some (.nx (E13 ns t js as now (some (.lst ((gls t js).map (gk t js)))) (some (.lst (((gls t js).flatMap fun g=>fm (mem (gnm t) js g)).map ek))) y7 y8 none none none none)):=by
  unfold kb
  rw [fK (xs:=(gls t js).map (gk t js)) rfl]
  exact lp
 rw [aq l1]
 have hfl:((gls t js).flatMap fun g=>fm (mem (gnm t) js g)).length=js.length:=(pe js).length_eq
 have c1:nv (E13 ns t js as now (some (.lst ((gls t js).map (gk t js)))) (some (.lst (((gls t js).flatMap fun g=>fm (mem (gnm t) js g)).map ek))) y7 y8 none none none none)=some (.ok false):=by
  have e1:(fB1 iS (aa (ab 6) ag)) (E13 ns t js as now (some (.lst ((gls t js).map (gk t js)))) (some (.lst (((gls t js).flatMap fun g=>fm (mem (gnm t) js g)).map ek))) y7 y8 none none none none)=some (.ok (jU js)):=by
   rw [bS (ah (x:=.lst (((gls t js).flatMap fun g=>fm (mem (gnm t) js g)).map ek)) rfl av),dk (by omega),kM (pe js)]
  exact bV ((bg e1 ((bS (ah (mx J rfl) av)).trans (dk (by omega)))).trans (nI (nJ gj) (by omega)))
 rw [aq (bt c1)]
 have c2:ny (E13 ns t js as now (some (.lst ((gls t js).map (gk t js)))) (some (.lst (((gls t js).flatMap fun g=>fm (mem (gnm t) js g)).map ek))) y7 y8 none none none none)=some (.ok false):=by
  have e:(aK 2 [] (bM (ab 5)) (gP 0 1) none (dD (aa (ab 0) (aa (fB1 cP (aa (ab 1) ag)) ag)))) (E13 ns t js as now (some (.lst ((gls t js).map (gk t js)))) (some (.lst (((gls t js).flatMap fun g=>fm (mem (gnm t) js g)).map ek))) y7 y8 none none none none)=some (.ok (.lst ((gls t js).map (row t js)))) :=
   ms Dv.str (fun g=>jU (mem (gnm t) js g)) (row t js) (l:=gls t js) (fK rfl) (by omega) fun g hg=>fw (ah (x:=.str g) rfl (ah ((bS (ah (x:=jU (mem (gnm t) js g)) rfl av)).trans (vm _)) av)) (by show 2≤100000; decide)
  exact bV ((bg e (cV eW rfl rfl (jV ht J))).trans (nI (yr ht gj) (by omega)))
 rw [aq (bt c2)]
 have s9:bq 9 nz (E13 ns t js as now (some (.lst ((gls t js).map (gk t js)))) (some (.lst (((gls t js).flatMap fun g=>fm (mem (gnm t) js g)).map ek))) y7 y8 none none none none)=some (.nx (E13 ns t js as now (some (.lst ((gls t js).map (gk t js)))) (some (.lst (((gls t js).flatMap fun g=>fm (mem (gnm t) js g)).map ek))) y7 y8 (some (.lst [])) none none none)):=bd (iK av (by decide)) rfl
 rw [aq s9]
 generalize some (Dv.lst ((gls t js).map (gk t js)))=x5
 generalize some (Dv.lst (((gls t js).flatMap fun g=>fm (mem (gnm t) js g)).map ek))=x6
 obtain ⟨y10,y11,y12,lq⟩:=tJ (ns:=ns) (t:=t) (as:=as) J a1 b1 (x5:=x5) (x6:=x6) (x7:=y7) (x8:=y8)
 have sf:(bM (dD (aa (fC (.int 0)) (aa (fC (.int 3)) (aa (fC (.int 10)) (aa (fC (.int 40)) (aa (fC (.int 9999)) ag))))))) (E13 ns t js as now x5 x6 y7 y8 (some (.lst [])) none none none)=some (.ok [.int 0,.int 3,.int 10,.int 40,.int 9999]) :=
  sY (fw (ah rfl (ah rfl (ah rfl (ah rfl (ah rfl av))))) (by show 5≤100000; decide))
 rw [aq ((qW sf).trans lq)]
 have so0:dq js now 0=[]:=by
  unfold dq
  rw [Lm]
  intro n _
  rw [Int.add_zero]
  cases dQ n now <;> simp
 have c5:nB (E13 ns t js as now x5 x6 y7 y8 (some (.lst ((dq js now 9999).map enc))) y10 y11 y12)=some (.ok false):=by
  have e:=mo J a1 b1 (far:=0) (by omega) (by omega)
  rw [so0] at e
  exact bV ((bg (kH eY rfl rfl rfl e) (iK av (by decide))).trans (by kernel_rfl))
 rw [aq (bt c5)]
 have c6:nE (E13 ns t js as now x5 x6 y7 y8 (some (.lst ((dq js now 9999).map enc))) y10 y11 y12)=some (.ok false):=by
  have e:(aN [("_law_last",9)] (bM (ab 2)) (some (ia (fB (f2 isN (f2 ixD (ab 0) (fC (.int 5))) (fC .non))) (fB (f2 inX (ab 0) (ab 1))))) (ab 0)) (E13 ns t js as now x5 x6 y7 y8 (some (.lst ((dq js now 9999).map enc))) y10 y11 y12)=some (.ok (.lst ((js.filter fun _=>false).map enc))):=by
   refine cv enc (fun _=>false) enc (eH rfl) (by omega) fun n hn=>⟨?_,rfl⟩
   show ia (fB (f2 isN (f2 ixD (ab 0) (fC (.int 5))) (fC .non))) (fB (f2 inX (ab 0) (ab 1))) [some (enc n),some (.lst ((dq js now 9999).map enc))]=_
   have k1:fB (f2 isN (f2 ixD (ab 0) (fC (.int 5))) (fC .non)) [some (enc n),some (.lst ((dq js now 9999).map enc))]=some (.ok n.ends.isNone):=by
    cases h:n.ends <;> simp [fB,toB,bnd,f2,ixD,atD,ab,fC,isN,enc,eO,h]
   cases h:n.ends with
   | some i=>rw [h] at k1; exact qY k1
   | none =>
    rw [h] at k1
    rw [qX k1]
    have hne:¬ n∈dq js now 9999:=fun z=>by
     have z2:=(FX.mp z).2
     rw [k_] at z2
     have z3:=z2.1
     unfold dQ at z3
     rw [h] at z3
     cases z3
    refine bV ((bg (x:=enc n) (y:=.lst ((dq js now 9999).map enc)) rfl rfl).trans ((tI (gj n hn) (vZ J)).1.trans ?_))
    rw [decide_eq_false hne]
  rw [show (js.filter fun _=>false)=[] by simp] at e
  exact bV ((bg e (iK av (by decide))).trans (by kernel_rfl))
 rw [aq (bt c6)]
 exact bO (dv (ah (x:=.scr ns) rfl (ah (x:=.tup t) rfl (ah (x:=ej js) rfl (ah (x:=.lst (as.map ba)) rfl (ah (x:=.int now) rfl av))))) rfl (pY hl ht J ga hal a1 b1))
end G
namespace G
open PySem PySem.Spec PyProof.Rows L2 FD
theorem walk {l:J4} {q:Program} {loose:List Str} {XP:(Str→Option Value)→Heap→Prop} {YP:uk→Heap→Prop} {d:DefRec} {K:JJ→ck} {Pt:Addr} (hn:l.most=some 63) (hdf:d.params.defaults=[])
 (hY:∀ (w:uk) (h:Heap),YP w h→(K w.params).In h) (hYT:∀ (w:uk) (h:Heap),YP w h→h.get? Pt=some { cls:=.none,data:=.fields #[] }∧LD h Pt∧(K w.params).lookup Pt=none)
 (F:∀ (w:uk) (mg:Str→Option Value) (fa:Addr) (h:Heap),(K w.params).In h→h.Ns t_ mg→mg d.name=some (.ref fa) →
   ∃ fd:Gp,(∀ (s:Shared) (u:Value),Ke s fd ⟨[u],[]⟩ [("_law_script",u)])∧∀ base:Heap,(K w.params).In base→base.Ns t_ mg→FnOk l.prog w (K w.params) mg base CX0 10 fa fd ["_law_script"] (spT Pt qL (K w.params) sV 1)) :
 Mc q loose XP YP l.row.toRowW d [] (fun f vs=>Mm f vs) :=
 uX (n:=63) (k:=10) (x:="_law_script") (CX:=fun _=>CX0) (sp:=fun w=>spT Pt qL (K w.params) sV 1) hn (by decide) hdf ⟨rfl,by decide,by decide⟩ hY hYT F
  (fun _ _ a ns hl hS hT=>⟨hT,[.scr ns],⟨.ref a,[],rfl,⟨a,rfl,hS⟩,rfl⟩,rfl,by rw [vn ns hl]; exact fun v H' _ r=>r⟩) fun _ _ _ _ _ z=>z
end G
open PySem PySem.W PyProof.Rows
set_option maxRecDepth 100000 in
theorem PySem.Challenge.cw_notejar_k34_whole_looking_holds : PySem.Challenge.rw_notejar_k34_whole_looking.Holds := by
 refine G.hld fun said=>?_
 refine PySem.W.holds_open (q:=G.VQ) (loose:=G.VL) (Xt:=fun s=>recOk [] s) (XP:=fun _ _=>True) (Yf:=Hook.obs (ND G.KK G.KA G.KA_ok)) (Ya:=Hook.val (ND G.KK G.KA G.KA_ok)) (YP:=Hook.says (ND G.KK G.KA G.KA_ok)) (N:=6138) G.left (Hook.of (ND G.KK G.KA G.KA_ok)) (Hook.keeps (ND G.KK G.KA G.KA_ok)) (fun _ _=>trivial) (fun _ _ _ _ _=>trivial) (by rfl) (by rfl) (by rfl) (fun s e=>recFacts_of e) (by rfl) (by first | assumption | decide +kernel) (by decide +kernel) G.hbr ?hw ?hc
 (case hw=>w_witness2)
 refine G.walk (l:=PySem.Challenge.rw_notejar_k34_whole_looking) rfl rfl (K:=G.KL) (Pt:=318) (fun w h Y=>G.KL_in (LI Y)) (fun w h Y=>⟨G.KT_in (LI Y),FD.ctB_tab (f:=321) (G.KL_in (LI Y)) (by kernel_rfl),by kernel_rfl⟩) ?F
 case F =>
  intro w mg fa h KX hG hmg
  exact G.all_mk KX hG hmg (G.af 370 "law_notejar_k34_whole_looking" 682 369) (G.af 377 "law_notejar_k34_whole_looking" 682 376) (G.af 384 "law_notejar_k34_whole_looking" 682 383) (G.af 396 "law_notejar_k34_whole_looking" 682 395) (G.af 403 "law_notejar_k34_whole_looking" 682 402) (G.af 415 "law_notejar_k34_whole_looking" 682 414) (G.af 137 "notejar.names" 296 136) (G.af 144 "notejar.names" 296 143) (G.af 151 "notejar.names" 296 150) (G.af 158 "notejar.names" 296 157) (G.af 165 "notejar.names" 296 164) (G.af 221 "notejar.asks" 412 220) (G.af 261 "notejar.notes" 502 260) (G.af 132 "notejar.names" 296 131) (G.af 268 "notejar.notes" 502 267) (G.af 179 "notejar.paths" 391 178) (G.af 275 "notejar.notes" 502 274) (G.af 363 "notejar.looking" 642 362) (G.af 80 "notejar.kinds" 271 79) (G.af 101 "notejar.names" 296 100) (G.af 106 "notejar.names" 296 105) (G.af 172 "notejar.paths" 391 171) (G.af 94 "notejar.kinds" 271 93) (G.af 207 "notejar.asks" 412 206) (G.af 353 "notejar.looking" 642 352) (G.af 254 "notejar.notes" 502 253) (G.af 290 "notejar.jars" 566 289) (G.af 285 "notejar.jars" 566 284) (G.af 87 "notejar.kinds" 271 86) (G.af 186 "notejar.asks" 412 185) (G.af 193 "notejar.asks" 412 192) (G.af 228 "notejar.giving" 472 227) (G.af 240 "notejar.giving" 472 239) (G.af 233 "notejar.giving" 472 232) (G.af 247 "notejar.notes" 502 246) (G.af 280 "notejar.jars" 566 279) (G.af 297 "notejar.jars" 566 296) (G.af 200 "notejar.asks" 412 199) (G.af 113 "notejar.names" 296 112) (G.af 118 "notejar.names" 296 117) (G.af 125 "notejar.names" 296 124) (G.af 358 "notejar.looking" 642 357) (G.af 214 "notejar.asks" 412 213) (G.af 316 "notejar.jars" 566 315) (G.af 321 "notejar.jars" 566 320) (G.af 420 "law_notejar_k34_whole_looking" 682 419) (G.af 408 "law_notejar_k34_whole_looking" 682 407) (G.af 389 "law_notejar_k34_whole_looking" 682 388) (G.af 328 "notejar.room" 625 327) (G.af 333 "notejar.room" 625 332) (G.af 343 "notejar.looking" 642 342) (G.af 338 "notejar.looking" 642 337) (G.af 348 "notejar.looking" 642 347) (G.af 309 "notejar.jars" 566 308) (G.af 304 "notejar.jars" 566 303) (G.af 425 "law_notejar_k34_whole_looking" 682 424) (by kernel_rfl) (by kernel_rfl) (by kernel_rfl)
#print axioms PySem.Challenge.cw_notejar_k34_whole_looking_holds
